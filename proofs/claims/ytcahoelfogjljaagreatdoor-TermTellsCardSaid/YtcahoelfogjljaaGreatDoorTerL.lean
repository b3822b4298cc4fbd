/-
  Words, elements, terms. No condition.
-/
import Derived.Test.YtcahoelfogjljaaGreatDoorTerR
set_option linter.unusedSimpArgs false
set_option linter.unusedVariables false
set_option linter.unusedSectionVars false
section
namespace Go.Eng
open Go
theorem aQ12 {P:Prop} (e:P:=by simp [renL,AV.ren,zat,zah]):P:=e
theorem aQ44 {P Q:Prop} (h:Q) (e:P=Q:=by first|(simp -implicitDefEqProofs only [LM2,eq_self,Nat.zero_mul,lzS,bx_P,zal,TB,SB,Int.reduceToNat,Nat.reduceAdd,Nat.reduceEqDiff,Nat.reduceLT,Nat.reduceMod,Nat.reducePow,Nat.reduceSub,if_true,reduceIte];first|done|exact rfl)|exact rfl):P:=e ▸ h
theorem aQ45 {P Q:Prop} (h:Q) (e:P=Q:=by first|(simp -implicitDefEqProofs only [LM2,LB26,eq_self,Nat.zero_mul,lzS,bx_P,zam,zgt,zjV,zgl T132,TB,SB,Int.reduceToNat,Nat.reduceAdd,Nat.reduceEqDiff,Nat.reduceLT,Nat.reduceMod,Nat.reducePow,Nat.reduceSub,if_true,reduceIte];first|done|exact rfl)|exact rfl):P:=e ▸ h
theorem aQ46 {P Q:Prop} (h:Q) (e:P=Q:=by first|(simp -implicitDefEqProofs only [LM2,LB26,LB27,eq_self,Nat.zero_mul,lzS,bx_P,zam,zgl T132,TB,SB,Int.reduceToNat,Nat.reduceAdd,Nat.reduceEqDiff,Nat.reduceLT,Nat.reduceMod,Nat.reducePow,Nat.reduceSub,if_true,reduceIte];first|done|exact rfl)|exact rfl):P:=e ▸ h
theorem aQ47 {P Q:Prop} (h:Q) (e:P=Q:=by first|(simp -implicitDefEqProofs only [LM9,eq_self,zam,lzS,zbC,zap,zaM,TB,SB,Int.reduceToNat,Nat.reduceAdd,Nat.reduceEqDiff,Nat.reduceLT,Nat.reduceMod,Nat.reducePow,Nat.reduceSub,if_true,reduceIte];first|done|exact rfl)|exact rfl):P:=e ▸ h
end Go.Eng
end

section
namespace Go.Proofs.YtcahoelfogjljaaGreatDoor
open Go Go.Eng
def zaV (v:List Nd):Bool:=decide ((v.getD 0 n0d).kind≠4) && decide ((v.getD 0 n0d).kind≠5)
def isV (s:List UInt8):Bool:=decide ((zbz s).2=0)
def zc9 (p:List UInt8) (v:List Nd):List UInt8 × Int :=
 if (zbz p).2=0 then (if zaz v=0 then (if zaV v=true then (zbJ [p,enc v],0) else ([],1)) else ([],zaz v)) else ([],9)
theorem enc_le {l:List Nd} (h:zaz l=0):(enc l).length≤60000:=by
 obtain⟨d,hv,h120,hal⟩:=errOf_val h
 have:=encF_le l (long_of hal) l.length 0 _ hv (by dsimp only;omega)
 dsimp only at this
 show (encF l.length l 0).length≤60000
 omega
theorem putR_ok {l:List Nd} (h:zaz l=0):putR l=(enc l,0):=by rw [putR,if_pos h]
theorem putR_bad {l:List Nd} (h:zaz l≠0):putR l=([],zaz l):=by rw [putR,if_neg h]
theorem errOf_ne {l:List Nd} (h:zaz l=0):0 < l.length:=by
 cases l with
 | nil=>exact absurd h (by decide)
 | cons a l=>simp
theorem path_len {s:List UInt8} (h:(zbz s).2=0):s.length≤120:=by
 unfold zbz at h
 split at h
 ·cases h
 ·omega
theorem escT_le (s:List UInt8):(escT s).length≤2 * s.length+2:=by
 have:=zkj s
 simp only [escT,List.length_append,List.length_cons,List.length_nil]
 omega
theorem join2_le {a b:List UInt8}:(zbJ [a,b]).length≤2 * a.length+2 * b.length+6:=by
 have:=escT_le a
 have:=escT_le b
 simp only [joinL_cons,List.length_cons,List.length_append]
 show _+((_+(zbJ []).length)+1)+1≤_
 rw [show zbJ []=[] from rfl]
 simp only [List.length_nil]
 omega
theorem word_is {p:List UInt8} {v:List Nd} (h1:(zbz p).2=0) (h2:zaz v=0) (h3:zaV v=true):zc9 p v=(zbJ [p,enc v],0):=by
 rw [zc9,if_pos h1,if_pos h2,if_pos h3]
end Go.Proofs.YtcahoelfogjljaaGreatDoor
end

section
namespace Go.Proofs.YtcahoelfogjljaaGreatDoor
open Go Go.Eng
theorem zfb (a:List UInt8) (e:Int) (q:List Nat):(AV.tup [str a,i64 e]).ren q=some (.tup [str a,i64 e]):=by simp [AV.ren,renL,zae,zah]
theorem end_w {σ:zaa} {a b:List UInt8 × Int} (h:a=b):endQ 0 (.tup [str a.1,i64 a.2]) σ (fun r _=>AEnd.ret r=.ret (.tup [str b.1,i64 b.2])):=zaP (zfb _ _ _) (by rw [h])
theorem is_ok (s:List UInt8) (hs:s.length≤1000000000):ACalls Tryz.prog 31 [str s] [] (fun y _=>y=.ret (bl (isV s))):=by
 refine ACalls.body T_ok Tryz.func31 (by kernel_rfl) rfl Tryz.ntmps31 (congrArg Array.toList Tryz.results31) ?_
 refine aQ23 ?_
 refine(Ppath_ok s (by omega)).pure (by simp [renL,zah]) ?_
 rintro _ σ rfl
 refine⟨by simp [AEnd.noid,AV.ren,renL,ze8,zae],?_⟩
 refine aQ23 ?_
 exact zaE rfl
theorem ziK {t:TypeId} {v:List Nd} (hv:0 < v.length) (K:AV→Prop):ld2 (some zaD) (some (v.flatMap nC)) 0 K=K (i64 (v.getD 0 n0d).kind):=by
 have:=ldf_N0 (K:=K) (l:=v) 0
 simpa [hv] using this
theorem tplain_ok (v:List Nd) (hv:0 < v.length) (h2:v.length≤1000000000):ACalls Tryz.prog 33 [.sl (v.flatMap nC) v.length] [] (fun y _=>y=.ret (bl (zaV v))):=by
 refine ACalls.body T_ok Tryz.func33 (by kernel_rfl) rfl Tryz.ntmps33 (congrArg Array.toList Tryz.results33) ?_
 refine aQ23 ?_
 refine⟨by omega,by omega,?_⟩
 rw [ziK (t:=0) hv]
 refine aQ23 ?_
 by_cases h4:(v.getD 0 n0d).kind=4
 ·rw [decide_eq_true h4]
  refine aQ23 ?_
  have e:zaV v=false:=by unfold zaV;rw [h4];rfl
  rw [e]
  exact⟨Nat.le_refl _,zaE rfl⟩
 ·rw [decide_eq_false h4]
  refine aQ23 ?_
  refine⟨Nat.le_refl _,by omega,by omega,Nat.le_refl _,?_⟩
  rw [ziK (t:=0) hv]
  refine aQ23 ?_
  have e:zaV v=!decide ((v.getD 0 n0d).kind=5):=by
   unfold zaV
   rw [decide_eq_true (show (v.getD 0 n0d).kind≠4 from h4),Bool.true_and,← decide_not]
  rw [e]
  exact zaE rfl
theorem Word_ok (p:List UInt8) (v:List Nd) (hp:p.length≤1000000000) (hv:v.length≤1000000):ACalls Tryz.prog 10 [str p,.sl (v.flatMap nC) v.length] [] (fun y _=>y=.ret (.tup [str (zc9 p v).1,i64 (zc9 p v).2])):=by
 refine ACalls.body T_ok Tryz.func10 (by kernel_rfl) rfl Tryz.ntmps10 (congrArg Array.toList Tryz.results10) ?_
 refine aQ23 ?_
 refine(is_ok p hp).pure (by simp [renL,zah]) ?_
 rintro _ σ rfl
 refine⟨zak _ _,?_⟩
 by_cases h1:(zbz p).2=0
 rotate_left
 ·rw [isV,decide_eq_false h1]
  refine aQ23 ?_
  exact end_w (a:=([],9)) (by rw [zc9,if_neg h1])
 rw [isV,decide_eq_true h1]
 refine aQ23 ?_
 refine(put_ok v hv).pure (zdX _ _ _) ?_
 rintro _ σ rfl
 refine⟨zfb _ _ _,?_⟩
 by_cases h2:zaz v=0
 rotate_left
 ·rw [putR_bad h2]
  refine aQ23 ?_
  have e:zc9 p v=([],zaz v):=by rw [zc9,if_pos h1,if_neg h2]
  rw [e]
  exact⟨fun _=>zaP (zfb _ _ _) rfl,fun h=>absurd h h2⟩
 rw [putR_ok h2]
 refine aQ23 ?_
 have h9:=errOf_ne h2
 refine(tplain_ok v h9 (by omega)).pure (zdX _ _ _) ?_
 rintro _ σ rfl
 refine⟨zak _ _,?_⟩
 cases h3:zaV v with
 | false =>
  refine aQ23 ?_
  exact end_w (a:=([],1)) (by rw [zc9,if_pos h1,if_pos h2,h3];rfl)
 | true =>
  refine aQ23 ?_
  have hpl:=path_len h1
  have hel:=enc_le h2
  have hjl:=@join2_le p (enc v)
  refine ACalls.frz [0] (l':=[.sl ([p,enc v].map str) [p,enc v].length]) ⟨_,_,rfl,zki (l:=[p,enc v]) rfl rfl,rfl⟩ ?_
  refine(join_ok [p,enc v] (by simp) (fun s hs=>by rcases List.mem_cons.1 hs with rfl | hs;omega;rw [List.mem_singleton.1 hs];omega) (by omega)).pure (by show renL _ [slS [p,enc v]]=some [slS [p,enc v]];simp [renL,ren_slS]) ?_
  rintro _ σ rfl
  refine⟨zah _ _,?_⟩
  refine aQ23 ?_
  exact end_w (a:=(zbJ [p,enc v],0)) (by rw [word_is h1 h2 h3])
end Go.Proofs.YtcahoelfogjljaaGreatDoor
end

section
namespace Go.Proofs.YtcahoelfogjljaaGreatDoor
open Go Go.Eng
def zbf {α:Type} (p:α→Bool) (l:List α):List α:=l.filter p
theorem pick_take {α:Type} (d:α) {p:α→Bool} {l:List α} {k:Nat} (h:k < l.length):zbf p (l.take (k+1))=if p (l.getD k d)=true then zbf p (l.take k)++[l.getD k d] else zbf p (l.take k):=by
 rw [zbT d h,zbf,zbf,List.filter_append]
 split
 ·rename_i h2;rw [List.filter_cons_of_pos h2];rfl
 ·rename_i h2;rw [List.filter_cons_of_neg h2,List.filter_nil,List.append_nil]
theorem zgu {α:Type} (p:α→Bool) (l:List α):(zbf p l).length≤l.length:=List.length_filter_le _ _
theorem pickS_ok (a:List (List UInt8)) (ha:a.length≤1000000) (hs:∀ s∈a,s.length≤1000000000):ACalls Tryz.prog 48 [.sl (a.map str) a.length,.fn (.func 31) [] []] [] (fun y _=>y=.ret (.sl ((zbf isV a).map str) (zbf isV a).length)):=by
 refine ACalls.body T_ok Tryz.func48 (by kernel_rfl) rfl Tryz.ntmps48 (congrArg Array.toList Tryz.results48) ?_
 refine aQ44 ?_
 rw [zaN]
 refine⟨Nat,fun k=>k≤a.length,fun k=>[.sl (a.map str) a.length,.fn (.func 31) [] [],.bot,.bot,.bot,.ref 0 0 (zbf isV (a.take k)).length 1,.bot,.bot,.sl (a.map str) a.length,i64 a.length,i64 k,.bot,.bot,.bot,.bot,.bot,.bot,.bot,.bot,.bot,.bot,.bot,.bot],fun k=>[.rw ((zbf isV (a.take k)).map str)],fun k=>a.length - k,0,Nat.zero_le _,zbI 5 1 rfl (zab (q:=[0]) rfl rfl (by decide) ?_ ?_),?_⟩
 ·refine aQ19 ?_
  simp [zaX,AV.ren,renL,zbf]
 ·refine aQ19 ?_
  simp [zao,zar,renL,zbf]
 intro k hk
 have hk:k≤a.length:=hk
 dsimp only
 by_cases hlt:k < a.length
 ·have dk:decide ((k:Int) < (a.length:Int))=true:=decide_eq_true (by omega)
  have hpt:=pick_take (p:=isV) [] hlt
  have hln:=zgu isV (a.take k)
  rw [List.length_take] at hln
  have hms:=hs (a.getD k []) (by rw [List.getD_eq_getElem?_getD,List.getElem?_eq_getElem hlt];exact List.getElem_mem hlt)
  try simp -implicitDefEqProofs only [LM2,eq_self,Nat.zero_mul,lzS,bx_P,zal,dk,TB,SB,Int.reduceToNat,Nat.reduceAdd,Nat.reduceEqDiff,Nat.reduceLT,Nat.reduceMod,Nat.reducePow,Nat.reduceSub,if_true,reduceIte]
  refine⟨by omega,by omega,hlt,?_⟩
  generalize a.getD k []=x at hpt hms ⊢
  refine(is_ok x hms).pure (by simp [renL,zah]) ?_
  rintro _ σ rfl
  refine⟨zak _ _,?_⟩
  cases hx:isV x with
  | false =>
   rw [hx,if_neg (by decide)] at hpt
   refine aQ44 ?_
   refine⟨by unfold inI;omega,?_⟩
   rw [zac]
   refine⟨k+1,by (show k+1≤a.length);omega,by (show a.length - (k+1) < a.length - k);omega,?_⟩
   rw [hpt]
   refine zab (q:=[0]) rfl rfl (by decide) ?_ ?_
   ·refine aQ19 ?_
    simp [zaX,AV.ren,renL]
   ·refine aQ19 ?_
    simp [zao,zar,zaX]
  | true =>
   rw [hx,if_pos rfl] at hpt
   refine aQ44 ?_
   refine zaQ str zbR rfl rfl T32 T32 (zcS _) T9 zcl (l:=zbf isV (a.take k)) (ys:=[x]) (m:=1) rfl rfl (zeC (l:=[x]) rfl rfl) (by omega) (by simp only [tyStr];omega) ?_
   refine aQ44 ?_
   refine⟨by unfold inI;omega,?_⟩
   rw [zac]
   refine⟨k+1,by (show k+1≤a.length);omega,by (show a.length - (k+1) < a.length - k);omega,?_⟩
   rw [hpt,List.length_append]
   refine zab (q:=[2]) rfl rfl (by decide) ?_ ?_
   ·refine aQ19 ?_
    simp [zaX,AV.ren,renL]
   ·refine aQ19 ?_
    simp [-List.map_append,zao,zar,zaX]
 ·obtain rfl:k=a.length:=by omega
  have dk:decide ((a.length:Int) < (a.length:Int))=false:=decide_eq_false (by omega)
  rw [List.take_length]
  try simp -implicitDefEqProofs only [LM2,eq_self,Nat.zero_mul,lzS,bx_P,zal,dk,TB,SB,Int.reduceToNat,Nat.reduceAdd,Nat.reduceEqDiff,Nat.reduceLT,Nat.reduceMod,Nat.reducePow,Nat.reduceSub,if_true,reduceIte]
  exact zbE [0] (.sl ((zbf isV a).map str) (zbf isV a).length) (zki (l:=zbf isV a) rfl rfl) ⟨[],_,[],rfl,rfl,by decide,by simp [AV.ren,zaX],trivial,rfl⟩
theorem pickN_ok (a:List (List Nd)) (ha:a.length≤1000000) (hs:∀ s∈a,0 < s.length∧s.length≤1000000000):ACalls Tryz.prog 43 [.sl (a.map slNs) a.length,.fn (.func 33) [] []] [] (fun y _=>y=.ret (.sl ((zbf zaV a).map slNs) (zbf zaV a).length)):=by
 refine ACalls.body T_ok Tryz.func43 (by kernel_rfl) rfl Tryz.ntmps43 (congrArg Array.toList Tryz.results43) ?_
 refine aQ44 ?_
 rw [zaN]
 refine⟨Nat,fun k=>k≤a.length,fun k=>[.sl (a.map slNs) a.length,.fn (.func 33) [] [],.bot,.bot,.bot,.ref 0 0 (zbf zaV (a.take k)).length 1,.bot,.bot,.sl (a.map slNs) a.length,i64 a.length,i64 k,.bot,.bot,.bot,.bot,.bot,.bot,.bot,.bot,.bot,.bot,.bot,.bot],fun k=>[.rw ((zbf zaV (a.take k)).map slNs)],fun k=>a.length - k,0,Nat.zero_le _,zbI 5 1 rfl (zab (q:=[0]) rfl rfl (by decide) ?_ ?_),?_⟩
 ·refine aQ19 ?_
  simp [zaB,AV.ren,renL,zbf]
 ·refine aQ19 ?_
  simp [zao,zar,renL,zbf]
 intro k hk
 have hk:k≤a.length:=hk
 dsimp only
 by_cases hlt:k < a.length
 ·have dk:decide ((k:Int) < (a.length:Int))=true:=decide_eq_true (by omega)
  have hpt:=pick_take (p:=zaV) [] hlt
  have hln:=zgu zaV (a.take k)
  rw [List.length_take] at hln
  have hms:=hs (a.getD k []) (by rw [List.getD_eq_getElem?_getD,List.getElem?_eq_getElem hlt];exact List.getElem_mem hlt)
  try simp -implicitDefEqProofs only [LM2,eq_self,Nat.zero_mul,lzS,bx_P,zal,dk,TB,SB,Int.reduceToNat,Nat.reduceAdd,Nat.reduceEqDiff,Nat.reduceLT,Nat.reduceMod,Nat.reducePow,Nat.reduceSub,if_true,reduceIte]
  refine⟨by omega,by omega,Nat.le_refl _,hlt,?_⟩
  generalize a.getD k []=x at hpt hms ⊢
  refine(tplain_ok x hms.1 hms.2).pure (zdX _ _ _) ?_
  rintro _ σ rfl
  refine⟨zak _ _,?_⟩
  cases hx:zaV x with
  | false =>
   rw [hx,if_neg (by decide)] at hpt
   refine aQ44 ?_
   refine⟨by unfold inI;omega,?_⟩
   rw [zac]
   refine⟨k+1,by (show k+1≤a.length);omega,by (show a.length - (k+1) < a.length - k);omega,?_⟩
   rw [hpt]
   refine zab (q:=[0]) rfl rfl (by decide) ?_ ?_
   ·refine aQ19 ?_
    simp [zaB,AV.ren,renL]
   ·refine aQ19 ?_
    simp [zao,zar,zaB]
  | true =>
   rw [hx,if_pos rfl] at hpt
   try simp -implicitDefEqProofs only [LM2,eq_self,Nat.zero_mul,lzS,bx_P,zal,slNs,TB,SB,Int.reduceToNat,Nat.reduceAdd,Nat.reduceEqDiff,Nat.reduceLT,Nat.reduceMod,Nat.reducePow,Nat.reduceSub,if_true,reduceIte]
   refine zaQ slNs zdi rfl rfl T34 T34 (zcS _) T22 (Go.Eng.one_sl _) (l:=zbf zaV (a.take k)) (ys:=[x]) (m:=1) rfl rfl rfl (by omega) (by simp only [tySl];omega) ?_
   refine aQ44 ?_
   refine⟨by unfold inI;omega,?_⟩
   rw [zac]
   refine⟨k+1,by (show k+1≤a.length);omega,by (show a.length - (k+1) < a.length - k);omega,?_⟩
   rw [hpt,List.length_append]
   refine zab (q:=[2]) rfl rfl (by decide) ?_ ?_
   ·refine aQ19 ?_
    simp [zaB,AV.ren,renL]
   ·refine aQ19 ?_
    exact aQ38 trivial
 ·obtain rfl:k=a.length:=by omega
  have dk:decide ((a.length:Int) < (a.length:Int))=false:=decide_eq_false (by omega)
  rw [List.take_length]
  try simp -implicitDefEqProofs only [LM2,eq_self,Nat.zero_mul,lzS,bx_P,zal,dk,TB,SB,Int.reduceToNat,Nat.reduceAdd,Nat.reduceEqDiff,Nat.reduceLT,Nat.reduceMod,Nat.reducePow,Nat.reduceSub,if_true,reduceIte]
  exact zbE [0] (.sl ((zbf zaV a).map slNs) (zbf zaV a).length) (zeF rfl) ⟨[],_,[],rfl,rfl,by decide,by simp [AV.ren,zaB],trivial,rfl⟩
end Go.Proofs.YtcahoelfogjljaaGreatDoor
end

section
namespace Go.Proofs.YtcahoelfogjljaaGreatDoor
open Go Go.Eng
def zfc (v:List Nd):List (List Nd):=(zaA v 0).map fun q=>zaC v q
theorem sub_pos {v:List Nd} {n:Nat} (h:zaz v=0) (hn:n < v.length):0 < (zaC v n).length:=by
 have hg:=endP_gt h hn
 unfold endP at hg
 omega
theorem kids_err {v:List Nd} {q:Int} (h:q∈zaA v 0):zaz v=0:=by
 unfold zaA at h
 split at h
 ·rename_i h0
  exact(zec h0).1
 ·cases h
theorem kidsS_mem {v x:List Nd} (h:x∈zfc v):0 < x.length∧x.length≤v.length:=by
 obtain⟨q,hq,rfl⟩:=List.mem_map.1 h
 have he:=kids_err hq
 obtain⟨n,rfl,hn⟩:=zdN hq
 exact⟨sub_pos he hn,ziq v n⟩
theorem each_mem {v:List Nd} {s:List UInt8} {x:List Nd} (h:x∈(zcb v s).1):0 < x.length∧x.length≤v.length:=by
 unfold zcb at h
 split at h
 ·rename_i h0
  have he:=(zem h0).1
  obtain⟨q,hq,rfl⟩:=List.mem_map.1 h
  rw [← List.take_length (l:=(zbe v s).1)] at hq
  obtain⟨n,rfl,hn⟩:=zdn (zbA he).1 (Nat.le_refl _) hq
  exact⟨sub_pos he hn,ziq v n⟩
 ·cases h
theorem zjW (v:List Nd) (s:List UInt8):(zcb v s).1.length≤120:=by
 unfold zcb
 split
 ·rename_i h0
  have he:=(zem h0).1
  have h1:=zg2 he (zbe v s).1 (zbe v s).1.length (Nat.le_refl _)
  rw [List.take_length] at h1
  have:=zbA he
  simp only [List.length_map]
  omega
 ·simp
theorem zjX (v:List Nd):(zfc v).length≤120:=by
 unfold zfc
 rw [List.length_map]
 unfold zaA
 split
 ·rename_i h
  obtain⟨h0,hp0,hp1⟩:=zec h
  obtain⟨r,hr1,hr2,hr3,hr4⟩:=zhd h0 (p:=(0:Int).toNat) (by omega)
  obtain⟨n,hK⟩:=zcm hr1
  have f:=hK.few
  have hg:v.getD (0:Int).toNat n0d=n:=zaJ hK.node
  have:=zbA h0
  rw [List.length_map,kidP,List.length_map,List.length_range,hg]
  omega
 ·simp
theorem ziz {v:List Nd} {ps:List Int} {j:Nat} (h:j < ps.length):zbB v ps (j+1)=zbB v ps j++[zaC v (ps.getD j 0)]:=by
 unfold zbB
 rw [zbT 0 h,List.map_append]
 rfl
theorem tkids_ok (v:List Nd) (hv:v.length≤1000000):ACalls Tryz.prog 44 [.sl (v.flatMap nC) v.length] [] (fun y _=>y=.ret (.sl ((zfc v).map slNs) (zfc v).length)):=by
 refine ACalls.body T_ok Tryz.func44 (by kernel_rfl) rfl Tryz.ntmps44 (congrArg Array.toList Tryz.results44) ?_
 refine aQ37 ?_
 refine(Kids_ok v 0 hv).pure aQ9 ?_
 rintro _ σ ⟨rfl,rfl⟩
 refine⟨by simp [AEnd.noid,AV.ren,zas i64 zae],?_⟩
 have hkl:=zeE v 0 hv
 have hsv:zfc v=zbB v (zaA v 0) (zaA v 0).length:=by rw [zbB,List.take_length];rfl
 rw [hsv]
 generalize zaA v 0=ps at hkl ⊢
 refine aQ37 ?_
 rw [zaN]
 refine⟨Nat,fun j=>j≤ps.length,fun j=>[.sl (v.flatMap nC) v.length,.bot,.bot,.ref 0 0 (zbB v ps j).length 1,.bot,.bot,.bot,.sl (ps.map i64) ps.length,i64 ps.length,i64 j,.bot,.bot,.bot,.bot,.bot,.bot,.bot,.bot,.bot,.bot,.bot],fun j=>[.rw ((zbB v ps j).map slNs)],fun j=>ps.length - j,0,Nat.zero_le _,zbI 3 1 rfl (zab (q:=[0]) rfl rfl (by decide) ?_ ?_),?_⟩
 ·refine aQ19 ?_
  simp [zat,AV.ren,zbB]
 ·refine aQ19 ?_
  simp [zao,zar,renL,zbB]
 intro j hj
 have hj:j≤ps.length:=hj
 dsimp only
 by_cases jlt:j < ps.length
 ·have dj:decide ((j:Int) < (ps.length:Int))=true:=decide_eq_true (by omega)
  have hst:=ziz (v:=v) jlt
  have hln:(zbB v ps j).length=j:=by unfold zbB;rw [List.length_map,List.length_take];omega
  try simp -implicitDefEqProofs only [LM4,eq_self,Nat.zero_mul,lzS,bx_P,zal,dj,TB,SB,Int.reduceToNat,Nat.reduceAdd,Nat.reduceEqDiff,Nat.reduceLT,Nat.reduceMod,Nat.reducePow,Nat.reduceSub,if_true,reduceIte]
  refine⟨by omega,by omega,jlt,?_⟩
  generalize ps.getD j 0=q at hst ⊢
  refine(Sub_ok v q hv).pure aQ9 ?_
  rintro _ σ ⟨rfl,rfl⟩
  refine⟨by simp [AEnd.noid,AV.ren,zat],?_⟩
  refine aQ37 ?_
  refine zaQ slNs zdi rfl rfl T34 T34 (zcS _) T22 (Go.Eng.one_sl _) (l:=zbB v ps j) (ys:=[zaC v q]) (m:=1) rfl rfl rfl (by omega) (by simp only [tySl];omega) ?_
  refine aQ37 ?_
  refine⟨by unfold inI;omega,?_⟩
  rw [zac]
  refine⟨j+1,by (show j+1≤ps.length);omega,by (show ps.length - (j+1) < ps.length - j);omega,?_⟩
  rw [hst,List.length_append]
  refine zab (q:=[2]) rfl rfl (by decide) ?_ ?_
  ·refine aQ19 ?_
   simp [zat,AV.ren]
  ·refine aQ19 ?_
   exact aQ38 trivial
 ·obtain rfl:j=ps.length:=by omega
  have dj:decide ((ps.length:Int) < (ps.length:Int))=false:=decide_eq_false (by omega)
  try simp -implicitDefEqProofs only [LM4,eq_self,Nat.zero_mul,lzS,bx_P,zal,dj,TB,SB,Int.reduceToNat,Nat.reduceAdd,Nat.reduceEqDiff,Nat.reduceLT,Nat.reduceMod,Nat.reducePow,Nat.reduceSub,if_true,reduceIte]
  generalize zbB v ps ps.length=L
  exact zbE [0] (.sl (L.map slNs) L.length) (zeF rfl) ⟨[],_,[],rfl,rfl,by decide,by simp [AV.ren,zaB],trivial,rfl⟩
def zfs (x:List Nd):List (List Nd):=if (x.getD 0 n0d).kind=4 then zbf zaV (zfc x) else zbf zaV [x]
def zeG (l:List (List Nd)):List (List Nd):=l.flatMap zfs
def zcA (v:List Nd) (s:List UInt8):List (List Nd):=zeG (zcb v s).1
theorem ziA {l:List (List Nd)} {k:Nat} (h:k < l.length):zeG (l.take (k+1))=zeG (l.take k)++zfs (l.getD k []):=by
 rw [zbT [] h,zeG,zeG,List.flatMap_append,List.flatMap_cons,List.flatMap_nil,List.append_nil]
theorem zjY (x:List Nd):(zfs x).length≤120:=by
 unfold zfs
 split
 ·exact Nat.le_trans (zgu _ _) (zjX x)
 ·exact Nat.le_trans (zgu _ _) (by simp)
theorem elem_le (l:List (List Nd)) (k:Nat) (hk:k≤l.length):(zeG (l.take k)).length≤k * 120:=by
 induction k with
 | zero=>simp [zeG]
 | succ k ih =>
  rw [ziA (by omega),List.length_append]
  have:=zjY (l.getD k [])
  have:=ih (by omega)
  omega
theorem zcr (L:List (List Nd)) (n:Nat) (e:Int) (q:List Nat):(AV.tup [.sl (L.map slNs) n,i64 e]).ren q=some (.tup [.sl (L.map slNs) n,i64 e]):=by simp [AV.ren,renL,zaB,zae]
theorem zjZ {σ:zaa} (L:List (List Nd)):asrc σ 1 (.sl (L.map slNs) L.length)=some (L.map slNs,L.length):=by
 simp [asrc,asl,List.take_of_length_le]
theorem ziB (v:List Nd) (s:List UInt8) (hv:v.length≤1000000) (hs:s.length≤1000000000):ACalls Tryz.prog 16 [.sl (v.flatMap nC) v.length,str s] [] (fun y _=>y=.ret (.tup [.sl ((zcA v s).map slNs) (zcA v s).length,i64 (zcb v s).2])):=by
 have hmem:=fun x=>@each_mem v s x
 have hfew:=zjW v s
 obtain⟨E,hE⟩:∃ E,E=zcA v s:=⟨_,rfl⟩
 rw [← hE]
 unfold zcA at hE
 have hnone:(zcb v s).2≠0→(zcb v s).1=[]:=by
  intro h
  unfold zcb at h ⊢
  split
  ·rename_i h0;rw [if_pos h0] at h;exact absurd rfl h
  ·rfl
 refine ACalls.body T_ok Tryz.func16 (by kernel_rfl) rfl Tryz.ntmps16 (congrArg Array.toList Tryz.results16) ?_
 refine aQ37 ?_
 refine(PEachA_ok v s hv (by omega)).pure aQ11 ?_
 rintro _ σ rfl
 refine⟨zcr _ _ _ _,?_⟩
 generalize zcb v s=X at hmem hfew hE hnone ⊢
 obtain⟨l,e⟩:=X
 dsimp only at hmem hfew hE hnone ⊢
 by_cases he:e=0
 rotate_left
 ·try simp -implicitDefEqProofs only [LM4,eq_self,Nat.zero_mul,lzS,bx_P,zal,decide_eq_false he,TB,SB,Int.reduceToNat,Nat.reduceAdd,Nat.reduceEqDiff,Nat.reduceLT,Nat.reduceMod,Nat.reducePow,Nat.reduceSub,if_true,reduceIte]
  rw [hnone he] at hE
  subst hE
  exact zbE [] (.tup [.sl (([]:List (List Nd)).map slNs) 0,i64 e]) ⟨_,rfl,_,_,rfl,.inr ⟨rfl,rfl⟩,_,_,rfl,.inl rfl,rfl⟩ ⟨[],_,[],rfl,rfl,by decide,zcr [] 0 e _,trivial,rfl⟩
 subst he
 refine aQ37 ?_
 rw [zaN]
 refine⟨Nat,fun k=>k≤l.length,fun k=>[.bot,.bot,.bot,.bot,.bot,.bot,.bot,.bot,.ref 0 0 (zeG (l.take k)).length 1,.bot,.bot,.bot,.bot,.bot,.bot,.bot,.bot,.bot,.bot,.bot,.sl (l.map slNs) l.length,i64 l.length,i64 k,.bot,.bot,.bot,.bot,.bot,.bot,.bot,.bot,.bot,.bot,.bot,.bot,.bot,.bot,.bot,.bot,.bot,.bot,.bot,.bot],fun k=>[.rw ((zeG (l.take k)).map slNs)],fun k=>l.length - k,0,Nat.zero_le _,zbI 8 1 rfl (zab (q:=[0]) rfl rfl (by decide) ?_ ?_),?_⟩
 ·refine aQ19 ?_
  simp [zaB,AV.ren,zeG]
 ·refine aQ19 ?_
  simp [zao,zar,renL,zeG]
 intro k hk
 have hk:k≤l.length:=hk
 dsimp only
 by_cases hlt:k < l.length
 ·have dk:decide ((k:Int) < (l.length:Int))=true:=decide_eq_true (by omega)
  have hst:=ziA hlt
  have hle:=elem_le l k hk
  obtain⟨x0,x1⟩:=hmem (l.getD k []) (by rw [List.getD_eq_getElem?_getD,List.getElem?_eq_getElem hlt];exact List.getElem_mem hlt)
  have hxl:=zjY (l.getD k [])
  try simp -implicitDefEqProofs only [LM4,eq_self,Nat.zero_mul,lzS,bx_P,zal,dk,TB,SB,Int.reduceToNat,Nat.reduceAdd,Nat.reduceEqDiff,Nat.reduceLT,Nat.reduceMod,Nat.reducePow,Nat.reduceSub,if_true,reduceIte]
  refine⟨by omega,by omega,Nat.le_refl _,hlt,?_⟩
  generalize l.getD k []=x at hst x0 x1 hxl ⊢
  try simp -implicitDefEqProofs only [LM4,eq_self,Nat.zero_mul,lzS,bx_P,zal,slNs,TB,SB,Int.reduceToNat,Nat.reduceAdd,Nat.reduceEqDiff,Nat.reduceLT,Nat.reduceMod,Nat.reducePow,Nat.reduceSub,if_true,reduceIte]
  refine⟨by omega,by omega,Nat.le_refl _,?_⟩
  rw [ziK (t:=0) x0]
  by_cases h4:(x.getD 0 n0d).kind=4
  ·have hx:zfs x=zbf zaV (zfc x):=by rw [zfs,if_pos h4]
   rw [hx] at hst hxl
   have hkf:=zjX x
   try simp -implicitDefEqProofs only [LM4,eq_self,Nat.zero_mul,lzS,bx_P,zal,decide_eq_true h4,TB,SB,Int.reduceToNat,Nat.reduceAdd,Nat.reduceEqDiff,Nat.reduceLT,Nat.reduceMod,Nat.reducePow,Nat.reduceSub,if_true,reduceIte]
   refine(tkids_ok x (by omega)).pure (zdX _ _ _) ?_
   rintro _ σ rfl
   refine⟨by simp [AEnd.noid,AV.ren,zaB],?_⟩
   refine aQ37 ?_
   refine(pickN_ok (zfc x) (by omega) (fun y hy=>by have:=kidsS_mem hy;omega)).pure (by simp [renL,AV.ren,zaB]) ?_
   rintro _ σ rfl
   refine⟨by simp [AEnd.noid,AV.ren,zaB],?_⟩
   generalize zbf zaV (zfc x)=Y at hst hxl ⊢
   refine aQ37 ?_
   refine zaQ slNs zdi rfl rfl T34 T34 (zcS _) T22 (Go.Eng.one_sl _) (l:=zeG (l.take k)) (ys:=Y) (m:=Y.length) rfl rfl (zjZ _) (by omega) (by simp only [tySl];omega) ?_
   refine aQ37 ?_
   refine⟨by unfold inI;omega,?_⟩
   rw [zac]
   refine⟨k+1,by (show k+1≤l.length);omega,by (show l.length - (k+1) < l.length - k);omega,?_⟩
   rw [hst,List.length_append]
   refine zab (q:=[1]) rfl rfl (by decide) ?_ ?_
   ·refine aQ19 ?_
    simp [zaB,AV.ren]
   ·refine aQ19 ?_
    exact aQ38 trivial
  ·have hx:zfs x=zbf zaV [x]:=by rw [zfs,if_neg h4]
   rw [hx] at hst hxl
   try simp -implicitDefEqProofs only [LM4,eq_self,Nat.zero_mul,lzS,bx_P,zal,decide_eq_false h4,TB,SB,Int.reduceToNat,Nat.reduceAdd,Nat.reduceEqDiff,Nat.reduceLT,Nat.reduceMod,Nat.reducePow,Nat.reduceSub,if_true,reduceIte]
   refine ACalls.frz [1] (l':=[.sl ([x].map slNs) [x].length,.fn (.func 33) [] []]) ⟨_,_,rfl,zeF (L:=[x]) rfl,_,_,rfl,rfl,rfl⟩ ?_
   simp only [zeW,List.getElem?_cons_zero,List.getElem?_cons_succ,List.set_cons_zero,List.set_cons_succ]
   refine(pickN_ok [x] (by simp) (fun y hy=>by rw [List.mem_singleton.1 hy];omega)).pure (by simp [renL,AV.ren,zhx]) ?_
   rintro _ σ rfl
   refine⟨by simp [AEnd.noid,AV.ren,zaB],?_⟩
   generalize zbf zaV [x]=Y at hst hxl ⊢
   refine aQ37 ?_
   refine zaQ slNs zdi rfl rfl T34 T34 (zcS _) T22 (Go.Eng.one_sl _) (l:=zeG (l.take k)) (ys:=Y) (m:=Y.length) rfl rfl (zjZ _) (by omega) (by simp only [tySl];omega) ?_
   refine aQ37 ?_
   refine⟨by unfold inI;omega,?_⟩
   rw [zac]
   refine⟨k+1,by (show k+1≤l.length);omega,by (show l.length - (k+1) < l.length - k);omega,?_⟩
   rw [hst,List.length_append]
   refine zab (q:=[2]) rfl rfl (by decide) ?_ ?_
   ·refine aQ19 ?_
    simp [zaB,AV.ren]
   ·refine aQ19 ?_
    exact aQ38 trivial
 ·obtain rfl:k=l.length:=by omega
  have dk:decide ((l.length:Int) < (l.length:Int))=false:=decide_eq_false (by omega)
  rw [List.take_length]
  try simp -implicitDefEqProofs only [LM4,eq_self,Nat.zero_mul,lzS,bx_P,zal,dk,TB,SB,Int.reduceToNat,Nat.reduceAdd,Nat.reduceEqDiff,Nat.reduceLT,Nat.reduceMod,Nat.reducePow,Nat.reduceSub,if_true,reduceIte]
  rw [← hE]
  exact zbE [0] (.tup [.sl (E.map slNs) E.length,i64 0]) ⟨_,rfl,_,_,rfl,zeF rfl,_,_,rfl,.inl rfl,rfl⟩ ⟨[],_,[],rfl,rfl,by decide,by simp [AV.ren,renL,zaB,zae],trivial,rfl⟩
end Go.Proofs.YtcahoelfogjljaaGreatDoor
end

section
namespace Go.Proofs.YtcahoelfogjljaaGreatDoor
open Go Go.Eng
def addU (l:List (List UInt8)) (x:List UInt8):List (List UInt8):=if x∈l then l else l++[x]
def zen (l:List (List UInt8)):List (List UInt8):=l.foldl addU []
def gus (n:Nat):List AV:=List.replicate n gu0
 where gu0:AV:=.agg []
theorem gus_set (n i:Nat):(gus n).set i (.agg [])=gus n:=by
 unfold gus gus.gu0
 apply List.ext_getElem
 ·simp
 ·intro j h1 h2
  simp only [List.getElem_set,List.getElem_replicate]
  split <;> rfl
theorem gus_add (n:Nat):gus n++[.agg []]=gus (n+1):=by
 unfold gus gus.gu0
 rw [List.replicate_succ']
theorem gus_ren (q:List Nat) (n:Nat):renL q (gus n)=some (gus n):=by
 induction n with
 | zero=>rfl
 | succ n ih =>
  rw [gus,List.replicate_succ]
  rw [gus] at ih
  simp only [renL,ih]
  simp [gus.gu0,AV.ren,renL]
theorem zgt {e0:TypeId} (k e:TypeId) {σ:zaa} {KS:AV→zaa→Prop}:al1 T e0 (some (zgg k e)) σ KS=KS (.ptr σ.length 0) (σ++[.rw [.lit (.map none)]]):=rfl
theorem zjV (k e:TypeId) (a:AV) (id m:Nat) {σ:zaa} {KS:AV→zaa→Prop}:st2 (some (zgg k e)) (some (.rw [a])) id 0 (.mpt m) σ KS=KS (.lit undef) (σ.set id (.rw [.mpt m])):=szW rfl rfl rfl id
theorem uniq_add (l:List (List UInt8)) (x:List UInt8):zen (l++[x])=addU (zen l) x:=by
 rw [zen,List.foldl_append];rfl
def wOf (p:List UInt8) (e:List Nd):List (List UInt8):=if (zc9 p e).2=0 then [(zc9 p e).1] else []
def zcB (p:List UInt8) (E:List (List Nd)):List (List UInt8):=E.flatMap (wOf p)
def zca (v:List Nd) (ps:List (List UInt8)):List (List UInt8):=ps.flatMap fun p=>zcB p (zcA v p)
theorem ziC {p:List UInt8} {E:List (List Nd)} {k:Nat} (h:k < E.length):zcB p (E.take (k+1))=zcB p (E.take k)++wOf p (E.getD k []):=by
 rw [zbT [] h,zcB,zcB,List.flatMap_append,List.flatMap_cons,List.flatMap_nil,List.append_nil]
theorem ziD {v:List Nd} {ps:List (List UInt8)} {k:Nat} (h:k < ps.length):zca v (ps.take (k+1))=zca v (ps.take k)++zcB (ps.getD k []) (zcA v (ps.getD k [])):=by
 rw [zbT [] h,zca,zca,List.flatMap_append,List.flatMap_cons,List.flatMap_nil,List.append_nil]
theorem zdP {α:Type} {p:α→Bool} {l:List α} {x:α} (h:x∈zbf p l):x∈l∧p x=true:=List.mem_filter.1 h
theorem elems_mem {v:List Nd} {s:List UInt8} {x:List Nd} (h:x∈zcA v s):0 < x.length∧x.length≤v.length:=by
 obtain⟨y,hy,hx⟩:=List.mem_flatMap.1 h
 have hm:=each_mem hy
 unfold zfs at hx
 split at hx
 ·have:=kidsS_mem (zdP hx).1
  omega
 ·rw [List.mem_singleton.1 (zdP hx).1]
  exact hm
theorem zgv (v:List Nd) (s:List UInt8):(zcA v s).length≤14400:=by
 have h1:=elem_le (zcb v s).1 (zcb v s).1.length (Nat.le_refl _)
 rw [List.take_length] at h1
 have:=zjW v s
 unfold zcA
 omega
theorem zji (p:List UInt8) (E:List (List Nd)):(zcB p E).length≤E.length:=by
 induction E with
 | nil=>exact Nat.le_refl _
 | cons e E ih =>
  have h:(wOf p e).length≤1:=by unfold wOf;split <;> simp
  show (wOf p e++zcB p E).length≤_
  rw [List.length_append,List.length_cons]
  omega
theorem zjj (v:List Nd) (ps:List (List UInt8)):(zca v ps).length≤ps.length * 14400:=by
 induction ps with
 | nil=>exact Nat.le_refl _
 | cons p ps ih =>
  have h1:=zji p (zcA v p)
  have h2:=zgv v p
  show (zcB p (zcA v p)++zca v ps).length≤_
  rw [List.length_append,List.length_cons]
  omega
theorem uniq_len' (l:List (List UInt8)):(zen l).length≤l.length:=by
 have key:∀ (l acc:List (List UInt8)),(l.foldl addU acc).length≤acc.length+l.length:=by
  intro l
  induction l with
  | nil=>intro acc;exact Nat.le_refl _
  | cons a l ih =>
   intro acc
   have h:=ih (addU acc a)
   have h2:(addU acc a).length≤acc.length+1:=by unfold addU;split <;> simp
   rw [List.foldl_cons,List.length_cons]
   omega
 simpa [zen] using key l []
theorem words1_ok (v:List Nd) (ps:List (List UInt8)) (hv:v.length≤1000000) (hp:ps.length≤1000000) (hs:∀ s∈ps,s.length≤1000000000) (id b c:Nat) (I:List (List UInt8)→zaa→Prop)
  (hb:∀ a σ,I a σ→rd σ b=some [.sl (ps.map str) ps.length]∧rd σ c=some [.sl (v.flatMap nC) v.length])
  (hY : ∀ a w σ, I a σ → AYield Tryz.prog id [str w] σ (fun x σ' => x = .ret (bl true) ∧ I (a ++ [w]) σ')) (σ : zaa) (h0 : I [] σ) :
  ACalls Tryz.prog 85 [.yl id, .ptr b 0, .ptr c 0] σ (fun x σ' => x = .ret (.tup []) ∧ I (zca v ps) σ') := by
 have hb0:=(hb [] σ h0).1
 refine ACalls.body T_ok Tryz.func85 (by kernel_rfl) rfl Tryz.ntmps85 (congrArg Array.toList Tryz.results85) ?_
 try simp -implicitDefEqProofs only [LM2,LB26,eq_self,Nat.zero_mul,lzS,bx_P,zam,zgt,zjV,zgl T132,hb0,TB,SB,Int.reduceToNat,Nat.reduceAdd,Nat.reduceEqDiff,Nat.reduceLT,Nat.reduceMod,Nat.reducePow,Nat.reduceSub,if_true,reduceIte]
 rw [zaN]
 refine⟨Nat × zaa,fun i=>i.1≤ps.length∧I (zca v (ps.take i.1)) i.2,fun i=>[.yl id,.ptr b 0,.ptr c 0,.bot,.bot,.bot,.bot,.bot,.bot,.bot,.bot,.bot,.sl (ps.map str) ps.length,i64 ps.length,i64 i.1,.bot,.bot,.bot,.bot,.bot,.bot,.bot,.bot,.bot,.bot,.bot,.bot,.bot,.bot,.bot,.bot,.bot,.bot,.bot,.bot,.bot,.bot,.bot,.bot,.bot,.bot,.bot,.bot,.bot,.bot,.bot],fun i=>i.2,fun i=>ps.length - i.1,(0,σ),⟨Nat.zero_le _,h0⟩,zbb ?_,?_⟩
 ·refine aQ20 ?_
  try first | exact .inr rfl | trivial
 rintro⟨k,s⟩ ⟨hk,hI⟩
 dsimp only at hk hI ⊢
 by_cases hlt:k < ps.length
 rotate_left
 ·obtain rfl:k=ps.length:=by omega
  rw [List.take_length] at hI
  have dk:decide ((ps.length:Int) < (ps.length:Int))=false:=decide_eq_false (by omega)
  try simp -implicitDefEqProofs only [LM2,LB26,eq_self,Nat.zero_mul,lzS,bx_P,zam,zgt,zjV,zgl T132,dk,TB,SB,Int.reduceToNat,Nat.reduceAdd,Nat.reduceEqDiff,Nat.reduceLT,Nat.reduceMod,Nat.reducePow,Nat.reduceSub,if_true,reduceIte]
  exact zaO ⟨rfl,hI⟩
 have dk:decide ((k:Int) < (ps.length:Int))=true:=decide_eq_true (by omega)
 have hwt:=ziD (v:=v) hlt
 have hsp:=hs (ps.getD k []) (by rw [List.getD_eq_getElem?_getD,List.getElem?_eq_getElem hlt];exact List.getElem_mem hlt)
 obtain⟨_,hc0⟩:=hb _ _ hI
 try simp -implicitDefEqProofs only [LM2,LB26,eq_self,Nat.zero_mul,lzS,bx_P,zam,zgt,zjV,zgl T132,dk,hc0,TB,SB,Int.reduceToNat,Nat.reduceAdd,Nat.reduceEqDiff,Nat.reduceLT,Nat.reduceMod,Nat.reducePow,Nat.reduceSub,if_true,reduceIte]
 refine⟨by omega,by omega,hlt,?_⟩
 generalize ps.getD k []=w at hwt hsp ⊢
 refine(ziB v w hv hsp).pure aQ12 ?_
 rintro _ σ2 rfl
 refine⟨zcr _ _ _ _,?_⟩
 have hem:=fun x=>@elems_mem v w x
 have hef:=zgv v w
 generalize zcA v w=E at hwt hem hef ⊢
 refine aQ45 ?_
 rw [zaN]
 refine⟨Nat × zaa,fun i=>i.1≤E.length∧I (zca v (ps.take k)++zcB w (E.take i.1)) i.2,fun i=>[.yl id,.ptr b 0,.ptr c 0,.bot,.bot,str w,.bot,.bot,.bot,.bot,.bot,.bot,.sl (ps.map str) ps.length,i64 ps.length,i64 k,.bot,.bot,.bot,.bot,.bot,.bot,.bot,.bot,.bot,.sl (E.map slNs) E.length,i64 E.length,i64 i.1,.bot,.bot,.bot,.bot,.bot,.bot,.bot,.bot,.bot,.bot,.bot,.bot,.bot,.bot,.bot,.bot,.bot,.bot,.bot],fun i=>i.2,fun i=>E.length - i.1,(0,s),⟨Nat.zero_le _,by simpa [zcB] using hI⟩,zbb ?_,?_⟩
 ·refine aQ20 ?_
  try first | exact .inr rfl | trivial
 rintro⟨j,s2⟩ ⟨hj,hI2⟩
 dsimp only at hj hI2 ⊢
 by_cases jlt:j < E.length
 rotate_left
 ·obtain rfl:j=E.length:=by omega
  rw [List.take_length,← hwt] at hI2
  have dj:decide ((E.length:Int) < (E.length:Int))=false:=decide_eq_false (by omega)
  try simp -implicitDefEqProofs only [LM2,LB26,eq_self,Nat.zero_mul,lzS,bx_P,zam,zgt,zjV,zgl T132,dj,TB,SB,Int.reduceToNat,Nat.reduceAdd,Nat.reduceEqDiff,Nat.reduceLT,Nat.reduceMod,Nat.reducePow,Nat.reduceSub,if_true,reduceIte]
  refine⟨by unfold inI;omega,?_⟩
  rw [zac]
  refine⟨(k+1,s2),⟨by (show k+1≤ps.length);omega,hI2⟩,(by show ps.length - (k+1) < ps.length - k;omega),zbb ?_⟩
  refine aQ20 ?_
  try first | exact .inr rfl | trivial
 have dj:decide ((j:Int) < (E.length:Int))=true:=decide_eq_true (by omega)
 have het:=ziC (p:=w) jlt
 obtain⟨x0,x1⟩:=hem (E.getD j []) (by rw [List.getD_eq_getElem?_getD,List.getElem?_eq_getElem jlt];exact List.getElem_mem jlt)
 try simp -implicitDefEqProofs only [LM2,LB26,eq_self,Nat.zero_mul,lzS,bx_P,zam,zgt,zjV,zgl T132,dj,TB,SB,Int.reduceToNat,Nat.reduceAdd,Nat.reduceEqDiff,Nat.reduceLT,Nat.reduceMod,Nat.reducePow,Nat.reduceSub,if_true,reduceIte]
 refine⟨by omega,by omega,Nat.le_refl _,jlt,?_⟩
 generalize E.getD j []=x at het x0 x1 ⊢
 refine(Word_ok w x hsp (by omega)).pure aQ12 ?_
 rintro _ σ3 rfl
 refine⟨zfb _ _ _,?_⟩
 by_cases he:(zc9 w x).2=0
 rotate_left
 ·have hw:wOf w x=[]:=by rw [wOf,if_neg he]
  rw [hw,List.append_nil] at het
  try simp -implicitDefEqProofs only [LM2,LB26,eq_self,Nat.zero_mul,lzS,bx_P,zam,zgt,zjV,zgl T132,decide_eq_false he,TB,SB,Int.reduceToNat,Nat.reduceAdd,Nat.reduceEqDiff,Nat.reduceLT,Nat.reduceMod,Nat.reducePow,Nat.reduceSub,if_true,reduceIte]
  refine⟨by unfold inI;omega,?_⟩
  rw [zac]
  refine⟨(j+1,s2),⟨by (show j+1≤E.length);omega,by rw [het];exact hI2⟩,(by show E.length - (j+1) < E.length - j;omega),zbb ?_⟩
  refine aQ20 ?_
  try first | exact .inr rfl | trivial
 ·have hw:wOf w x=[(zc9 w x).1]:=by rw [wOf,if_pos he]
  rw [hw] at het
  try simp -implicitDefEqProofs only [LM2,LB26,eq_self,Nat.zero_mul,lzS,bx_P,zam,zgt,zjV,zgl T132,decide_eq_true he,TB,SB,Int.reduceToNat,Nat.reduceAdd,Nat.reduceEqDiff,Nat.reduceLT,Nat.reduceMod,Nat.reducePow,Nat.reduceSub,if_true,reduceIte]
  refine(hY _ _ s2 hI2).mono ?_
  rintro _ s3 ⟨rfl,hI3⟩
  refine aQ45 ?_
  refine⟨by unfold inI;omega,?_⟩
  rw [zac]
  refine⟨(j+1,s3),⟨by (show j+1≤E.length);omega,by rw [het,← List.append_assoc];exact hI3⟩,(by show E.length - (j+1) < E.length - j;omega),zbb ?_⟩
  refine aQ20 ?_
  try first | exact .inr rfl | trivial
end Go.Proofs.YtcahoelfogjljaaGreatDoor
end

section
namespace Go.Proofs.YtcahoelfogjljaaGreatDoor
open Go Go.Eng
set_option linter.defProp false in
def LB27:=And.intro @zgt (@zjV)
def ofI2 (v:List Nd) (ps:List (List UInt8)) (env:List AV) (qs:Array Tmp) (as' bd:Code) (a:List (List UInt8)) (σ:zaa):Prop :=
 σ=[.rw [.sl (v.flatMap nC) v.length],.rw [.sl (ps.map str) ps.length],.mpb ((zen a).map keyV) (gus (zen a).length),.rw [.mpt 2],.lp .ready none env qs as' bd]
theorem of2_ok (v:List Nd) (ps:List (List UInt8)) (hv:v.length≤1000000) (hp:ps.length≤1000000) (hs:∀ s∈ps,s.length≤1000000000):ACalls Tryz.prog 49 [.fn (.func 85) [] [.ptr 1 0,.ptr 0 0]] [.rw [.sl (v.flatMap nC) v.length],.rw [.sl (ps.map str) ps.length]] (fun y σ=>y=.ret (.mpt 2)∧σ=[.rw [.sl (v.flatMap nC) v.length],.rw [.sl (ps.map str) ps.length],.mpb ((zen (zca v ps)).map keyV) (gus (zen (zca v ps)).length)]):=by
 refine ACalls.body T_ok Tryz.func49 (by kernel_rfl) rfl Tryz.ntmps49 (congrArg Array.toList Tryz.results49) ?_
 refine aQ46 ?_
 refine⟨by kernel_rfl,?_⟩
 refine(words1_ok v ps hv hp hs 4 1 0 (ofI2 v ps _ _ _ _) ?_ ?_ _ rfl).mono ?_
 ·rintro a _ rfl
  exact⟨rfl,rfl⟩
 ·rintro a w _ rfl
  have hu:=uniq_add a w
  refine AYield.of T_ok rfl rfl rfl rfl ?_
  refine aQ46 ?_
  refine⟨_,_,_,rfl,?_⟩
  refine aQ46 ?_
  refine upd_str (l:=zen a) (vs:=gus (zen a).length) (s:=w) T73 T9 rfl (fun h=>?_) (fun h=>?_)
  ·refine aQ46 ?_
   refine⟨_,_,_,_,rfl,rfl,?_⟩
   unfold ofI2
   rw [hu,addU,if_pos h,gus_set]
   rfl
  ·refine aQ46 ?_
   refine⟨_,_,_,_,rfl,rfl,?_⟩
   unfold ofI2
   rw [hu,addU,if_neg h,gus_add,List.length_append]
   rfl
 ·rintro _ _ ⟨rfl,rfl⟩
  refine⟨_,_,_,_,_,_,rfl,by simp,?_⟩
  refine aQ46 ?_
  refine .inl ⟨[0,1,2],.mpt 2,[.rw [.sl (v.flatMap nC) v.length],.rw [.sl (ps.map str) ps.length],.mpb ((zen (zca v ps)).map keyV) (gus (zen (zca v ps)).length)],rfl,rfl,by decide,rfl,?_,rfl,rfl⟩
  simp [zao,zar,bren_mpb,zaX,zat,renL,AV.ren,gus_ren]
theorem words_ok (v:List Nd) (ps:List (List UInt8)):ACalls Tryz.prog 50 [.sl (v.flatMap nC) v.length,.sl (ps.map str) ps.length] [] (fun y σ=>y=.ret (.fn (.func 85) [] [.ptr 1 0,.ptr 0 0])∧σ=[.rw [.sl (v.flatMap nC) v.length],.rw [.sl (ps.map str) ps.length]]):=by
 refine ACalls.body T_ok Tryz.func50 (by kernel_rfl) rfl Tryz.ntmps50 (congrArg Array.toList Tryz.results50) ?_
 refine aQ46 ?_
 refine .inl ⟨[0,1],.fn (.func 85) [] [.ptr 1 0,.ptr 0 0],[.rw [.sl (v.flatMap nC) v.length],.rw [.sl (ps.map str) ps.length]],rfl,rfl,by decide,rfl,?_,rfl,rfl⟩
 simp [zao,zar,zaX,zat,renL,AV.ren]
def zeo (v:List Nd) (ps:List (List UInt8)):List (List UInt8) × Int :=
 if zaz v=0 then (if ps.length≤4 then (if (zbf isV ps).length < ps.length then ([],9) else (srt (zen (zca v ps)),0)) else ([],1)) else ([],zaz v)
end Go.Proofs.YtcahoelfogjljaaGreatDoor
end

section
namespace Go.Proofs.YtcahoelfogjljaaGreatDoor
open Go Go.Eng
theorem ziE (l:List (List UInt8)) (n:Nat) (e:Int) (q:List Nat):(AV.tup [.sl (l.map str) n,i64 e]).ren q=some (.tup [.sl (l.map str) n,i64 e]):=by simp [AV.ren,renL,zaX,zae]
theorem frz_srt {c:List (List UInt8)} {σ:zaa} {id:Nat} (h:σ[id]?=some (.ro ((srt c).map str))):frzA σ (.ref id 0 c.length 1) (.sl ((srt c).map str) (srt c).length) :=
 .inr ⟨_,h,by simp [zgO],by rw [List.drop_zero,Nat.mul_one,List.take_of_length_le (by simp [zgO]),zgO]⟩
theorem zeH {σ:zaa} {e:Int} {Z:List (List UInt8) × Int} (h:Z=([],e)):endQ 0 (.tup [.lit (.slice none 0 0),i64 e]) σ (fun r _=>AEnd.ret r=.ret (.tup [.sl (Z.1.map str) Z.1.length,i64 Z.2])) :=
 zbE [] (.tup [.sl [] 0,i64 e]) ⟨_,rfl,_,_,rfl,.inr ⟨rfl,rfl⟩,_,_,rfl,.inl rfl,rfl⟩ ⟨[],_,[],rfl,rfl,by decide,ziE [] 0 e _,trivial,by rw [h];rfl⟩
theorem Terms_ok (v:List Nd) (ps:List (List UInt8)) (hv:v.length≤1000000) (hp:ps.length≤1000000) (hs:∀ s∈ps,s.length≤1000000000):ACalls Tryz.prog 18 [.sl (v.flatMap nC) v.length,.sl (ps.map str) ps.length] [] (fun y _=>y=.ret (.tup [.sl ((zeo v ps).1.map str) (zeo v ps).1.length,i64 (zeo v ps).2])):=by
 obtain⟨Z,hZ⟩:∃ Z,Z=zeo v ps:=⟨_,rfl⟩
 rw [← hZ]
 unfold zeo at hZ
 refine ACalls.body T_ok Tryz.func18 (by kernel_rfl) rfl Tryz.ntmps18 (congrArg Array.toList Tryz.results18) ?_
 refine aQ46 ?_
 refine(zjL v hv).pure (zdX _ _ _) ?_
 rintro _ σ ⟨rfl,rfl⟩
 refine⟨zae _ _,?_⟩
 by_cases h1:zaz v=0
 rotate_left
 ·rw [if_neg h1] at hZ
  try simp -implicitDefEqProofs only [LM2,LB26,LB27,eq_self,Nat.zero_mul,lzS,bx_P,zam,zgl T132,decide_eq_false h1,TB,SB,Int.reduceToNat,Nat.reduceAdd,Nat.reduceEqDiff,Nat.reduceLT,Nat.reduceMod,Nat.reducePow,Nat.reduceSub,if_true,reduceIte]
  exact zeH hZ
 rw [if_pos h1] at hZ
 rw [h1]
 refine aQ46 ?_
 by_cases h2:(4:Int) < ps.length
 ·rw [if_neg (by omega)] at hZ
  refine aQ46 ?_
  exact⟨fun _=>zeH hZ,fun h=>absurd h2 h⟩
 rw [if_pos (by omega)] at hZ
 refine aQ46 ?_
 refine⟨fun h=>absurd h h2,fun _=>?_⟩
 refine(pickS_ok ps hp hs).pure (by simp [renL,AV.ren,zaX]) ?_
 rintro _ σ rfl
 refine⟨by simp [AEnd.noid,AV.ren,zaX],?_⟩
 by_cases h3:(zbf isV ps).length < ps.length
 ·rw [if_pos h3] at hZ
  have d3:decide (((zbf isV ps).length:Int) < (ps.length:Int))=true:=decide_eq_true (by omega)
  try simp -implicitDefEqProofs only [LM2,LB26,LB27,eq_self,Nat.zero_mul,lzS,bx_P,zam,zgl T132,d3,TB,SB,Int.reduceToNat,Nat.reduceAdd,Nat.reduceEqDiff,Nat.reduceLT,Nat.reduceMod,Nat.reducePow,Nat.reduceSub,if_true,reduceIte]
  exact zeH hZ
 rw [if_neg h3] at hZ
 have d3:decide (((zbf isV ps).length:Int) < (ps.length:Int))=false:=decide_eq_false (by omega)
 try simp -implicitDefEqProofs only [LM2,LB26,LB27,eq_self,Nat.zero_mul,lzS,bx_P,zam,zgl T132,d3,TB,SB,Int.reduceToNat,Nat.reduceAdd,Nat.reduceEqDiff,Nat.reduceLT,Nat.reduceMod,Nat.reducePow,Nat.reduceSub,if_true,reduceIte]
 refine(words_ok v ps).mono ?_
 rintro _ _ ⟨rfl,rfl⟩
 refine aQ46 ?_
 refine(of2_ok v ps hv hp hs).mono ?_
 rintro _ _ ⟨rfl,rfl⟩
 have hwl:=zjj v ps
 have hul:=uniq_len' (zca v ps)
 generalize zen (zca v ps)=U at hul hZ ⊢
 refine aQ46 ?_
 refine ACalls.frame [2] (zjh U (gus U.length) (by simp [gus]) (by omega)) rfl (by decide) (by simp [zao,bren_mpb,gus_ren]) (by simp [renL,AV.ren]) ?_
 rintro _ _ (⟨g1,rfl,rfl⟩ | ⟨g1,rfl,rfl⟩)
 ·refine⟨.ret (.lit (.slice none 0 0)),[.rw [.sl (v.flatMap nC) v.length],.rw [.sl (ps.map str) ps.length],.dead],?_,?_,?_⟩
  ·show zaH _ _ [1,1,0] [1,1,0] 0 _
   simp [zaH,zar,renL,AV.ren,zaX,zat]
  ·rfl
  refine aQ46 ?_
  exact zeH (by rw [hZ,g1];simp [srt])
 ·refine⟨.ret (.ref 3 0 U.length 1),[.rw [.sl (v.flatMap nC) v.length],.rw [.sl (ps.map str) ps.length],.dead,.rw ((srt U).map str)],?_,?_,?_⟩
  ·show zaH _ _ [2,2,0,1] [2,2,0,1] 0 _
   simp [zaH,zar,renL,AV.ren,zaX,zat]
  ·rfl
  refine aQ46 ?_
  subst hZ
  exact zbE [3] (.tup [.sl ((srt U).map str) (srt U).length,i64 0]) ⟨_,rfl,_,_,rfl,frz_srt rfl,_,_,rfl,.inl rfl,rfl⟩ ⟨[],_,[],rfl,rfl,by decide,ziE _ _ _ _,trivial,rfl⟩
end Go.Proofs.YtcahoelfogjljaaGreatDoor
end

section
namespace Go.Proofs.YtcahoelfogjljaaGreatDoor
open Go Go.Eng
end Go.Proofs.YtcahoelfogjljaaGreatDoor
end

section
namespace Go.Proofs.YtcahoelfogjljaaGreatDoor
open Go Go.Eng
theorem path_err (p:List UInt8):(zbz p).2=0∨(zbz p).2=9:=by
 unfold zbz
 split
 ·exact .inr rfl
 ·split
  ·exact .inl rfl
  ·exact .inr rfl
theorem zg4 (v:List Nd) (hv:0 < v.length) (h2:v.length≤1000000000):ACalls Tryz.prog 37 [.sl (v.flatMap nC) v.length] [] (fun y _=>y=.ret (bl (zaV v))):=by
 refine ACalls.body T_ok Tryz.func37 (by kernel_rfl) rfl Tryz.ntmps37 (congrArg Array.toList Tryz.results37) ?_
 refine aQ47 ?_
 refine⟨by omega,by omega,?_⟩
 rw [ziK (t:=0) hv]
 refine aQ47 ?_
 by_cases h4:(v.getD 0 n0d).kind=4
 ·rw [decide_eq_true h4]
  refine aQ47 ?_
  have e:zaV v=false:=by unfold zaV;rw [h4];rfl
  rw [e]
  exact⟨Nat.le_refl _,zaE rfl⟩
 ·rw [decide_eq_false h4]
  refine aQ47 ?_
  refine⟨Nat.le_refl _,by omega,by omega,Nat.le_refl _,?_⟩
  rw [ziK (t:=0) hv]
  refine aQ47 ?_
  have e:zaV v=!decide ((v.getD 0 n0d).kind=5):=by
   unfold zaV
   rw [decide_eq_true (show (v.getD 0 n0d).kind≠4 from h4),Bool.true_and,← decide_not]
  rw [e]
  exact zaE rfl
theorem rWord_ok (p:List UInt8) (v:List Nd) (hp:p.length≤1000000000) (hv:v.length≤1000):ACalls Tryz.prog 11 [str p,.sl (v.flatMap nC) v.length] [] (fun y _=>y=.ret (.tup [str (zc9 p v).1,i64 (zc9 p v).2])):=by
 refine ACalls.body T_ok Tryz.func11 (by kernel_rfl) rfl Tryz.ntmps11 (congrArg Array.toList Tryz.results11) ?_
 refine aQ47 ?_
 refine(rpath_ok p (by omega)).pure (by simp [renL,zah]) ?_
 rintro _ σ rfl
 refine⟨by simp [AEnd.noid,AV.ren,renL,ze8,zae],?_⟩
 by_cases h1:(zbz p).2=0
 rotate_left
 ·have h9:=(path_err p).resolve_left h1
  rw [h9]
  refine aQ47 ?_
  have e:zc9 p v=([],9):=by rw [zc9,if_neg h1]
  rw [e]
  exact⟨fun _=>zaP (zfb _ _ _) rfl,fun h=>absurd h (by decide)⟩
 rw [h1]
 refine aQ47 ?_
 refine(rPut_ok v hv).pure (zdX _ _ _) ?_
 rintro _ σ rfl
 refine⟨zfb _ _ _,?_⟩
 by_cases h2:zaz v=0
 rotate_left
 ·rw [putR_bad h2]
  refine aQ47 ?_
  have e:zc9 p v=([],zaz v):=by rw [zc9,if_pos h1,if_neg h2]
  rw [e]
  exact⟨fun _=>zaP (zfb _ _ _) rfl,fun h=>absurd h h2⟩
 rw [putR_ok h2]
 refine aQ47 ?_
 have h9:=errOf_ne h2
 refine(zg4 v h9 (by omega)).pure (zdX _ _ _) ?_
 rintro _ σ rfl
 refine⟨zak _ _,?_⟩
 cases h3:zaV v with
 | false =>
  refine aQ47 ?_
  exact end_w (a:=([],1)) (by rw [zc9,if_pos h1,if_pos h2,h3];rfl)
 | true =>
  refine aQ47 ?_
  have hpl:=path_len h1
  have hel:=enc_le h2
  have hjl:=@join2_le p (enc v)
  refine ACalls.frz [0] (l':=[.sl ([p,enc v].map str) [p,enc v].length]) ⟨_,_,rfl,zki (l:=[p,enc v]) rfl rfl,rfl⟩ ?_
  refine(rJoin_ok [p,enc v] (by simp) (fun s hs=>by rcases List.mem_cons.1 hs with rfl | hs;omega;rw [List.mem_singleton.1 hs];omega) (by omega)).pure (by show renL _ [slS [p,enc v]]=some [slS [p,enc v]];simp [renL,ren_slS]) ?_
  rintro _ σ rfl
  refine⟨zah _ _,?_⟩
  refine aQ47 ?_
  exact end_w (a:=(zbJ [p,enc v],0)) (by rw [word_is h1 h2 h3])
end Go.Proofs.YtcahoelfogjljaaGreatDoor
end

