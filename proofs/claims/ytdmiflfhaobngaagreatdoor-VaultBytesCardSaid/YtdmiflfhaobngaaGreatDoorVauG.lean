/-
  States: checked, compared, as bytes, and read. No condition.
-/
import Derived.Test.YtdmiflfhaobngaaGreatDoorVauF
set_option linter.unusedSimpArgs false
set_option linter.unusedVariables false
set_option linter.unusedSectionVars false
section
namespace Go.Proofs.YtdmiflfhaobngaaGreatDoor
open Go Go.Eng
theorem zga:∀ (l:List Vo) (k:Nat),k < l.length→(opsT l).getD (3 * k) []=bigL (BitVec.ofInt 64 (l.getD k v0).kind) 1∧(opsT l).getD (3 * k+1) []=(l.getD k v0).label∧(opsT l).getD (3 * k+2) []=(l.getD k v0).box
 | [],k,h=>by simp at h
 | o::l,0,_=>⟨rfl,rfl,rfl⟩
 | o::l,k+1,h=>by
  have:=zga l k (by simpa using h)
  have e:opsT (o::l)=bigL (BitVec.ofInt 64 o.kind) 1::o.label::o.box::opsT l:=rfl
  rw [e,show 3 * (k+1)=3 * k+1+1+1 by omega,show 3 * k+1+1+1+1=(3 * k+1)+1+1+1 by omega,show 3 * k+1+1+1+2=(3 * k+2)+1+1+1 by omega]
  simp only [List.getD_cons_succ]
  exact this
theorem ziC {α:Type} {l:List α} {k:Nat} (h:k < l.length) (d:α):l.getD k d∈l:=by
 rw [List.getD_eq_getElem?_getD,List.getElem?_eq_getElem h]
 exact List.getElem_mem _
theorem zd1 {α:Type} (l:List α) (d:α):(List.range l.length).map (fun k=>l.getD k d)=l:=by
 apply List.ext_getElem
 ·simp
 ·intro i h1 h2
  simp [h2]
theorem voL_ops {l:List Vo} (h:∀ o∈l,mayO o=true):voL (opsT l) l.length=l:=by
 refine Eq.trans (List.map_congr_left ?_) (zd1 l v0)
 intro k hk
 have hk:=List.mem_range.1 hk
 obtain⟨e0,e1,e2⟩:=zga l k hk
 have hm:=zho (h _ (ziC hk v0))
 rw [voAt,e0,e1,e2,rdI_1 hm.1 (by omega)]
theorem getV_put {l:List Vo} (h:zbf l=true):getV (putV l).1=(l,0):=by
 obtain⟨h1,h2,h3⟩:=zfk h
 have hl:=zeC l
 have e3:(opsT l).length / 3=l.length:=by omega
 have ho:oneB (opsT l)=true:=by
  rw [oneB,List.all_eq_true]
  intro k hk
  rw [e3] at hk
  rw [(zga l k (List.mem_range.1 hk)).1,zcf]
  rfl
 rw [putV,if_pos h,getV,zeB]
 dsimp only
 rw [if_neg (by decide),if_neg (by omega),if_neg (by rw [ho];decide),e3,voL_ops h3,if_neg (by rw [h];decide)]
theorem zfm (x:BitVec 64) (i j:Nat):(zb9 x i).toBitVec.getLsbD j=(decide (j < 8) && x.getLsbD (8 * i+j)):=by
 simp [zb9]
theorem zh7 (n:BitVec 64) (b:UInt8) (m:Nat):(zcQ n b).getLsbD m=(if m < 8 then b.toBitVec.getLsbD m else decide (m < 64) && n.getLsbD (m - 8)):=by
 simp only [zcQ,BitVec.getLsbD_or,BitVec.getLsbD_shiftLeft,BitVec.getLsbD_setWidth]
 by_cases h:m < 8
 ·simp [h,show m < 64 by omega]
 ·have h8:b.toBitVec.getLsbD m=false:=BitVec.getLsbD_of_ge _ _ (by omega)
  simp [h,h8]
theorem u8_ext {a b:UInt8} (h:∀ j,j < 8→a.toBitVec.getLsbD j=b.toBitVec.getLsbD j):a=b:=UInt8.toBitVec_inj.1 (BitVec.eq_of_getLsbD_eq fun j hj=>h j hj)
theorem byteAt_step0 (n:BitVec 64) (b:UInt8):zb9 (zcQ n b) 0=b:=u8_ext fun j hj=>by
 rw [zfm,zh7,if_pos (by omega),show 8 * 0+j=j by omega]
 simp [hj]
theorem byteAt_step1 (n:BitVec 64) (b:UInt8) (i:Nat) (hi:i < 7):zb9 (zcQ n b) (i+1)=zb9 n i:=u8_ext fun j hj=>by
 rw [zfm,zfm,zh7,if_neg (by omega),show 8 * (i+1)+j - 8=8 * i+j by omega,decide_eq_true (show 8 * (i+1)+j < 64 by omega)]
 simp
theorem bigL_step (n:BitVec 64) (b:UInt8) (k:Nat) (hk:k < 8):bigL (zcQ n b) (k+1)=bigL n k++[b]:=by
 simp only [bigL,lowL,List.range_succ_eq_map,List.map_cons,List.map_map,List.reverse_cons,byteAt_step0]
 congr 2
 apply List.map_congr_left
 intro i hi
 have:=List.mem_range.1 hi
 exact byteAt_step1 n b i (by omega)
theorem zh8:∀ (l:List UInt8) (n:BitVec 64) (k:Nat),k+l.length≤8→bigL (l.foldl zcQ n) (k+l.length)=bigL n k++l
 | [],n,k,_=>by simp
 | b::l,n,k,h=>by
  simp only [List.length_cons] at h ⊢
  rw [List.foldl_cons,show k+(l.length+1)=k+1+l.length by omega,zh8 l _ _ (by omega),bigL_step _ _ _ (by omega)]
  simp
theorem zgb (l:List UInt8) (h:l.length≤8):bigL (zaG l) l.length=l:=by
 have:=zh8 l 0#64 0 (by omega)
 simpa [zaG,bigL,lowL] using this
theorem bigL_inj {x y:BitVec 64} (h:bigL x 8=bigL y 8):x=y:=by
 simp only [bigL,lowL,List.reverse_inj] at h
 refine BitVec.eq_of_getLsbD_eq fun m hm=>?_
 have:=(List.map_inj_left.1 h) (m / 8) (List.mem_range.2 (by omega))
 have h2:=congrArg (fun b=>b.toBitVec.getLsbD (m % 8)) this
 simp only [zfm] at h2
 rw [decide_eq_true (show m % 8 < 8 by omega),show 8 * (m / 8)+m % 8=m by omega] at h2
 simpa using h2
theorem read_big8 (x:BitVec 64):zaG (bigL x 8)=x:=bigL_inj (by
 have:=zgb (bigL x 8) (by rw [zcf];omega)
 rwa [zcf] at this)
theorem zgu:∀ (l:List UInt8) (n:BitVec 64) (k:Nat),k+l.length≤7→n.toNat < 256 ^ k→(l.foldl zcQ n).toNat < 256 ^ (k+l.length)
 | [],n,k,_,h=>by simpa using h
 | b::l,n,k,hl,h=>by
  simp only [List.length_cons] at hl ⊢
  rw [List.foldl_cons,show k+(l.length+1)=(k+1)+l.length by omega]
  refine zgu l _ (k+1) (by omega) ?_
  have hp:256 ^ k≤256 ^ 6:=Nat.pow_le_pow_right (by decide) (by omega)
  rw [zfl _ _ (Nat.lt_of_lt_of_le h hp),Nat.pow_succ]
  have:=b.toNat_lt
  omega
theorem read4_lt {l:List UInt8} (h:l.length=4):(zaG l).toNat < 4294967296:=by
 have:=zgu l 0#64 0 (by omega) (by simp)
 rw [h] at this
 exact this
def itT (l:List It):List (List UInt8):=l.flatMap fun x=>[x.label,x.box]
def itAt (L:List (List UInt8)) (k:Nat):It:=⟨L.getD (2 * k) [],L.getD (2 * k+1) []⟩
def itA (L:List (List UInt8)) (a:Nat):List It:=(List.range a).map (itAt L)
theorem zeE (l:List It):(itT l).length=2 * l.length:=by
 induction l with
 | nil=>rfl
 | cons x l ih=>rw [itT,List.flatMap_cons,List.length_append,← itT,ih,List.length_cons];simp only [List.length_cons,List.length_nil];omega
theorem zbe (L:List (List UInt8)) (a:Nat):(itA L a).length=a:=by simp [itA]
theorem zgL (L:List (List UInt8)) (a:Nat):itA L (a+1)=itA L a++[itAt L a]:=by simp [itA,List.range_succ]
theorem itT_get:∀ (l:List It) (k:Nat),k < l.length→itAt (itT l) k=l.getD k i0
 | [],k,h=>by simp at h
 | o::l,0,_=>rfl
 | o::l,k+1,h=>by
  have:=itT_get l k (by simpa using h)
  have e:itT (o::l)=o.label::o.box::itT l:=rfl
  rw [List.getD_cons_succ,← this,itAt,itAt,e,show 2 * (k+1)=2 * k+1+1 by omega,show 2 * k+1+1+1=(2 * k+1)+1+1 by omega]
  simp only [List.getD_cons_succ]
theorem itA_itT (l:List It):itA (itT l) l.length=l:=by
 refine Eq.trans (List.map_congr_left ?_) (zd1 l i0)
 intro k hk
 exact itT_get l k (List.mem_range.1 hk)
theorem itT_itA:∀ (a:Nat) (L:List (List UInt8)),L.length=2 * a→itT (itA L a)=L
 | 0,L,h=>by obtain rfl:L=[]:=List.eq_nil_of_length_eq_zero (by omega);rfl
 | a+1,L,h=>by
  match L,h with
  | x::y::L,h =>
   simp only [List.length_cons] at h
   have ih:=itT_itA a L (by omega)
   have e:itA (x::y::L) (a+1)=⟨x,y⟩::itA L a:=by
    unfold itA
    rw [List.range_succ_eq_map,List.map_cons,List.map_map]
    refine List.cons_eq_cons.2 ⟨rfl,List.map_congr_left fun k _=>?_⟩
    show itAt (x::y::L) (k+1)=itAt L k
    rw [itAt,itAt,show 2 * (k+1)=2 * k+1+1 by omega,show 2 * k+1+1+1=(2 * k+1)+1+1 by omega]
    simp only [List.getD_cons_succ]
   rw [e]
   show x::y::itT (itA L a)=_
   rw [ih]
theorem itA_pre {L M:List (List UInt8)} {a:Nat} (h:L.length=2 * a):itA (L++M) a=itA L a:=by
 refine List.map_congr_left fun k hk=>?_
 have hk:=List.mem_range.1 hk
 rw [itAt,itAt,List.getD_eq_getElem?_getD,List.getElem?_append_left (by omega),List.getD_eq_getElem?_getD,List.getElem?_append_left (by omega),List.getD_eq_getElem?_getD,List.getD_eq_getElem?_getD]
def chkS (s:Sv):Bool:=allI s.blobs && (allI s.cells && (decide (s.head.length=32) && (decide (0≤s.n) && decide (s.n≤1073741824))))
def svT (s:Sv):List (List UInt8):=s.head::bigL (BitVec.ofInt 64 s.n) 8::bigL (BitVec.ofInt 64 (s.blobs.length:Int)) 4::(itT s.blobs++itT s.cells)
def zbR (s:Sv):List UInt8 × Int:=if chkS s=true then (zbk (svT s),0) else ([],1)
def rdS (L:List (List UInt8)):Sv:=⟨itA (L.drop 3) (zaG (L.getD 2 [])).toNat,itA ((L.drop 3).drop (2 * (zaG (L.getD 2 [])).toNat)) ((L.length - 3 - 2 * (zaG (L.getD 2 [])).toNat) / 2),L.getD 0 [],IntKind.i64.wrap ((zaG (L.getD 1 [])).toNat:Int)⟩
def okL (L:List (List UInt8)):Bool:=decide (3≤L.length) && (decide (L.length % 2=1) && (decide ((L.getD 1 []).length=8) && (decide ((L.getD 2 []).length=4) && (decide ((zaG (L.getD 1 [])).toNat≤1073741824) && decide (2 * (zaG (L.getD 2 [])).toNat≤L.length - 3)))))
def zdf (b:List UInt8):Sv × Int :=
 if (zaN b).2≠0 then (s0,5) else if okL (zaN b).1=false then (s0,5) else if chkS (rdS (zaN b).1)=false then (s0,5) else (rdS (zaN b).1,0)
theorem ze3 {s:Sv} (h:chkS s=true):(allI s.blobs=true∧s.blobs.length≤1000)∧(allI s.cells=true∧s.cells.length≤1000)∧s.head.length=32∧0≤s.n∧s.n≤1073741824:=by
 simp only [chkS,Bool.and_eq_true,decide_eq_true_eq] at h
 obtain⟨h1,h2,h3,h4,h5⟩:=h
 have l1:∀ l,allI l=true→l.length≤1000:=fun l h=>by
  simp only [allI,Bool.and_eq_true,decide_eq_true_eq] at h
  omega
 exact⟨⟨h1,l1 _ h1⟩,⟨h2,l1 _ h2⟩,h3,h4,h5⟩
theorem rdS_svT {s:Sv} (h:chkS s=true):okL (svT s)=true∧rdS (svT s)=s:=by
 obtain⟨⟨_,h1⟩,⟨_,h2⟩,h3,h4,h5⟩:=ze3 h
 have e1:(svT s).length=3+2 * s.blobs.length+2 * s.cells.length:=by
  simp only [svT,List.length_cons,List.length_append,zeE];omega
 have e2:(svT s).getD 1 []=bigL (BitVec.ofInt 64 s.n) 8:=rfl
 have e3:(svT s).getD 2 []=bigL (BitVec.ofInt 64 (s.blobs.length:Int)) 4:=rfl
 have n1:(zaG (bigL (BitVec.ofInt 64 s.n) 8)).toNat=s.n.toNat:=by rw [read_big8,zeg h4 (by omega)]
 have n2:(zaG (bigL (BitVec.ofInt 64 (s.blobs.length:Int)) 4)).toNat=s.blobs.length:=by
  have:=zeg (k:=(s.blobs.length:Int)) (by omega) (by omega)
  rw [rd_big4 (by rw [this];omega),this];omega
 refine⟨?_,?_⟩
 ·rw [okL,e1,e2,e3,n1,n2]
  simp only [zcf,Bool.and_eq_true,decide_eq_true_eq]
  exact⟨by omega,by omega,trivial,trivial,by omega,by omega⟩
 ·rw [rdS,e1,e2,e3,n1,n2]
  have d3:(svT s).drop 3=itT s.blobs++itT s.cells:=rfl
  rw [d3,itA_pre (zeE _),itA_itT,List.drop_left' (zeE _),show (3+2 * s.blobs.length+2 * s.cells.length - 3 - 2 * s.blobs.length) / 2=s.cells.length by omega,itA_itT]
  have:IntKind.i64.wrap (s.n.toNat:Int)=s.n:=by rw [Int.toNat_of_nonneg h4];exact zef h4 (by omega)
  rw [this]
  rfl
theorem readS_put {s:Sv} (h:chkS s=true):zdf (zbR s).1=(s,0):=by
 obtain⟨h1,h2⟩:=rdS_svT h
 rw [zbR,if_pos h,zdf,zeB]
 dsimp only
 rw [if_neg (by decide),if_neg (by rw [h1];decide),h2,if_neg (by rw [h];decide)]
theorem zh9 {b:List UInt8} (h:(zdf b).2=0):zbR (zdf b).1=(b,0):=by
 unfold zdf at h ⊢
 by_cases h1:(zaN b).2≠0
 ·rw [if_pos h1] at h;cases h
 rw [if_neg h1] at h ⊢
 by_cases h2:okL (zaN b).1=false
 ·rw [if_pos h2] at h;cases h
 rw [if_neg h2] at h ⊢
 by_cases h3:chkS (rdS (zaN b).1)=false
 ·rw [if_pos h3] at h;cases h
 rw [if_neg h3]
 have hb:=zfM (s:=b) (by omega)
 generalize (zaN b).1=L at h2 h3 hb ⊢
 dsimp only
 rw [zbR,if_pos (by simpa using h3)]
 refine Prod.ext ?_ rfl
 dsimp only
 rw [← hb]
 congr 1
 have h2:okL L=true:=by simpa using h2
 simp only [okL,Bool.and_eq_true,decide_eq_true_eq] at h2
 obtain⟨a1,a2,a3,a4,a5,a6⟩:=h2
 match L,a1 with
 | x::y::z::L,_ =>
  simp only [List.getD_cons_succ,List.getD_cons_zero,List.length_cons] at a2 a3 a4 a5 a6
  unfold rdS svT
  simp only [List.getD_cons_succ,List.getD_cons_zero,List.length_cons,List.drop_succ_cons,List.drop_zero,zbe]
  generalize hm:(zaG z).toNat=m at a6
  have hl:(L.take (2 * m)).length=2 * m:=by rw [List.length_take];omega
  have e1:itA L m=itA (L.take (2 * m)) m:=by
   conv=>lhs;rw [← List.take_append_drop (2 * m) L]
   rw [itA_pre hl]
  rw [e1,itT_itA _ _ hl,itT_itA _ _ (by rw [List.length_drop];omega),List.take_append_drop]
  have e2:BitVec.ofInt 64 (IntKind.i64.wrap ((zaG y).toNat:Int))=zaG y:=by
   rw [zef (by omega) (by omega)]
   apply BitVec.eq_of_toNat_eq
   rw [zeg (by omega) (by omega)]
   omega
  have e3:BitVec.ofInt 64 (m:Int)=zaG z:=by
   have:=read4_lt a4
   apply BitVec.eq_of_toNat_eq
   rw [zeg (by omega) (by omega)]
   omega
  have e4:=zgb y (by omega)
  have e5:=zgb z (by omega)
  rw [a3] at e4
  rw [a4] at e5
  rw [e2,e3,e4,e5]
theorem readS_bad {b:List UInt8} (h:(zdf b).2≠0):zdf b=(s0,5):=by
 unfold zdf at h ⊢
 split
 ·rfl
 ·rename_i h1
  rw [if_neg h1] at h
  split
  ·rfl
  ·rename_i h2
   rw [if_neg h2] at h
   split
   ·rfl
   ·rename_i h3
    rw [if_neg h3] at h
    exact absurd rfl h
theorem getV_back {b:List UInt8} (h:(getV b).2=0):putV (getV b).1=(b,0):=by
 unfold getV at h ⊢
 by_cases h1:(zaN b).2≠0
 ·rw [if_pos h1] at h;cases h
 rw [if_neg h1] at h ⊢
 by_cases h2:(zaN b).1.length % 3≠0
 ·rw [if_pos h2] at h;cases h
 rw [if_neg h2] at h ⊢
 by_cases h3:oneB (zaN b).1=false
 ·rw [if_pos h3] at h;cases h
 rw [if_neg h3] at h ⊢
 by_cases h4:zbf (voL (zaN b).1 ((zaN b).1.length / 3))=false
 ·rw [if_pos h4] at h;cases h
 rw [if_neg h4]
 have hb:=zfM (s:=b) (by omega)
 generalize (zaN b).1=L at h2 h3 h4 hb ⊢
 dsimp only
 rw [putV,if_pos (by simpa using h4)]
 refine Prod.ext ?_ rfl
 dsimp only
 rw [← hb]
 congr 1
 have h3:oneB L=true:=by simpa using h3
 rw [oneB,List.all_eq_true] at h3
 have hone:∀ k,k < L.length / 3→(L.getD (3 * k) []).length=1:=fun k hk=>of_decide_eq_true (h3 k (List.mem_range.2 hk))
 have key:∀ (a:Nat) (L:List (List UInt8)),L.length=3 * a→(∀ k,k < a→(L.getD (3 * k) []).length=1)→opsT (voL L a)=L:=by
  intro a
  induction a with
  | zero=>intro L h _;obtain rfl:L=[]:=List.eq_nil_of_length_eq_zero (by omega);rfl
  | succ a ih =>
   intro L h ho
   match L,h with
   | x::y::z::L,h =>
    simp only [List.length_cons] at h
    have hx:=ho 0 (by omega)
    simp only [Nat.mul_zero,List.getD_cons_zero] at hx
    have ih:=ih L (by omega) (fun k hk=>by
     have:=ho (k+1) (by omega)
     rw [show 3 * (k+1)=3 * k+1+1+1 by omega] at this
     simpa only [List.getD_cons_succ] using this)
    have e:voL (x::y::z::L) (a+1)=⟨rdI x,y,z⟩::voL L a:=by
     unfold voL
     rw [List.range_succ_eq_map,List.map_cons,List.map_map]
     refine List.cons_eq_cons.2 ⟨rfl,List.map_congr_left fun k _=>?_⟩
     show voAt (x::y::z::L) (k+1)=voAt L k
     rw [voAt,voAt,show 3 * (k+1)=3 * k+1+1+1 by omega,show 3 * k+1+1+1+1=(3 * k+1)+1+1+1 by omega,show 3 * k+1+1+1+2=(3 * k+2)+1+1+1 by omega]
     simp only [List.getD_cons_succ]
    rw [e]
    show bigL (BitVec.ofInt 64 (rdI x)) 1::y::z::opsT (voL L a)=_
    rw [ih]
    have hr:=zgu x 0#64 0 (by omega) (by simp)
    rw [hx] at hr
    have e2:BitVec.ofInt 64 (rdI x)=zaG x:=by
     have hr:(zaG x).toNat < 256:=hr
     rw [rdI,zef (by omega) (by omega)]
     apply BitVec.eq_of_toNat_eq
     rw [zeg (by omega) (by omega)]
     omega
    have e3:=zgb x (by omega)
    rw [hx] at e3
    rw [e2,e3]
 exact key _ L (by omega) hone
theorem getV_bad {b:List UInt8} (h:(getV b).2≠0):getV b=([],5):=by
 unfold getV at h ⊢
 split
 ·rfl
 ·rename_i h1
  rw [if_neg h1] at h
  split
  ·rfl
  ·rename_i h2
   rw [if_neg h2] at h
   split
   ·rfl
   ·rename_i h3
    rw [if_neg h3] at h
    split
    ·rfl
    ·rename_i h4
     rw [if_neg h4] at h
     exact absurd rfl h
end Go.Proofs.YtdmiflfhaobngaaGreatDoor
end

section
namespace Go.Proofs.YtdmiflfhaobngaaGreatDoor
open Go Go.Eng
theorem zbY (s:List UInt8) (e:Int) (q:List Nat):(AV.tup [str s,i64 e]).ren q=some (.tup [str s,i64 e]):=by simp [AV.ren,renL,zae,zaj]
theorem zfN (s:Sv) (h1:s.blobs.length≤9223372036854775807) (h2:s.cells.length≤9223372036854775807):ACalls Tryz.prog 21 [svA s] [] (fun y _=>y=.ret (i64 (if chkS s=true then 0 else 1))):=by
 have hb:=allI_ok s.blobs h1
 have hc:=allI_ok s.cells h2
 have hX:chkS s=(allI s.blobs && (allI s.cells && (decide ((s.head.length:Int)=32) && (decide (0≤s.n) && decide (s.n≤1073741824))))):=by
  unfold chkS
  congr 3
  exact decide_eq_decide.2 (by omega)
 generalize chkS s=X at hX ⊢
 rw [zbZ,zbl,zbl]
 refine ACalls.body T_ok Tryz.func21 (by kernel_rfl) rfl Tryz.ntmps21 (congrArg Array.toList Tryz.results21) ?_
 try simp -implicitDefEqProofs only [LM10,eq_self,zab (h:=T68),zad,zac,zaa,TB,SB,Int.reduceToNat,Nat.reduceAdd,Nat.reduceEqDiff,Nat.reduceLT,Nat.reduceMod,Nat.reducePow,Nat.reduceSub,if_true,reduceIte]
 refine hb.pure (by simp [renL,zaH,AV.ren]) ?_
 rintro _ σ rfl
 refine⟨zax _ _,?_⟩
 cases g1:allI s.blobs with
 | false =>
  rw [g1,Bool.false_and] at hX
  try simp -implicitDefEqProofs only [LM10,eq_self,zab (h:=T68),zad,zac,zaa,TB,SB,Int.reduceToNat,Nat.reduceAdd,Nat.reduceEqDiff,Nat.reduceLT,Nat.reduceMod,Nat.reducePow,Nat.reduceSub,if_true,reduceIte]
  exact zeu (by rw [hX];rfl)
 | true =>
  rw [g1,Bool.true_and] at hX
  try simp -implicitDefEqProofs only [LM10,eq_self,zab (h:=T68),zad,zac,zaa,TB,SB,Int.reduceToNat,Nat.reduceAdd,Nat.reduceEqDiff,Nat.reduceLT,Nat.reduceMod,Nat.reducePow,Nat.reduceSub,if_true,reduceIte]
  refine hc.pure (by simp [renL,zaH,AV.ren]) ?_
  rintro _ σ rfl
  refine⟨zax _ _,?_⟩
  cases g2:allI s.cells with
  | false =>
   rw [g2,Bool.false_and] at hX
   try simp -implicitDefEqProofs only [LM10,eq_self,zab (h:=T68),zad,zac,zaa,TB,SB,Int.reduceToNat,Nat.reduceAdd,Nat.reduceEqDiff,Nat.reduceLT,Nat.reduceMod,Nat.reducePow,Nat.reduceSub,if_true,reduceIte]
   exact zeu (by rw [hX];rfl)
  | true =>
   rw [g2,Bool.true_and] at hX
   try simp -implicitDefEqProofs only [LM10,eq_self,zab (h:=T68),zad,zac,zaa,TB,SB,Int.reduceToNat,Nat.reduceAdd,Nat.reduceEqDiff,Nat.reduceLT,Nat.reduceMod,Nat.reducePow,Nat.reduceSub,if_true,reduceIte]
   by_cases g3:(s.head.length:Int)=32
   rotate_left
   ·rw [decide_eq_false g3,Bool.false_and] at hX
    rw [decide_eq_false g3]
    try simp -implicitDefEqProofs only [LM10,eq_self,zab (h:=T68),zad,zac,zaa,TB,SB,Int.reduceToNat,Nat.reduceAdd,Nat.reduceEqDiff,Nat.reduceLT,Nat.reduceMod,Nat.reducePow,Nat.reduceSub,if_true,reduceIte]
    exact zeu (by rw [hX];rfl)
   rw [decide_eq_true g3,Bool.true_and] at hX
   rw [decide_eq_true g3]
   try simp -implicitDefEqProofs only [LM10,eq_self,zab (h:=T68),zad,zac,zaa,TB,SB,Int.reduceToNat,Nat.reduceAdd,Nat.reduceEqDiff,Nat.reduceLT,Nat.reduceMod,Nat.reducePow,Nat.reduceSub,if_true,reduceIte]
   by_cases g4:s.n < 0
   ·rw [decide_eq_false (show ¬ 0≤s.n by omega),Bool.false_and] at hX
    rw [decide_eq_true g4]
    try simp -implicitDefEqProofs only [LM10,eq_self,zab (h:=T68),zad,zac,zaa,TB,SB,Int.reduceToNat,Nat.reduceAdd,Nat.reduceEqDiff,Nat.reduceLT,Nat.reduceMod,Nat.reducePow,Nat.reduceSub,if_true,reduceIte]
    exact zeu (by rw [hX];rfl)
   rw [decide_eq_true (show 0≤s.n by omega),Bool.true_and] at hX
   rw [decide_eq_false g4]
   try simp -implicitDefEqProofs only [LM10,eq_self,zab (h:=T68),zad,zac,zaa,TB,SB,Int.reduceToNat,Nat.reduceAdd,Nat.reduceEqDiff,Nat.reduceLT,Nat.reduceMod,Nat.reducePow,Nat.reduceSub,if_true,reduceIte]
   refine⟨fun g5=>?_,fun g5=>?_⟩
   ·exact zeu (by rw [hX,decide_eq_false (by omega)];rfl)
   ·exact zeu (by rw [hX,decide_eq_true (by omega)];rfl)
theorem vfind1_ok (x:It) (l:List UInt8):ACalls Tryz.prog 41 [.agg (itC x),.ptr 0 0] [.rw [str l]] (fun y σ=>y=.ret (bl (decide (x.label=l)))∧σ=[.rw [str l]]):=by
 rw [zbn]
 refine ACalls.body T_ok Tryz.func41 (by kernel_rfl) rfl Tryz.ntmps41 (congrArg Array.toList Tryz.results41) ?_
 try simp -implicitDefEqProofs only [LM10,eq_self,zab (h:=T68),zad,zac,zaa,TB,SB,Int.reduceToNat,Nat.reduceAdd,Nat.reduceEqDiff,Nat.reduceLT,Nat.reduceMod,Nat.reducePow,Nat.reduceSub,if_true,reduceIte]
 exact zbC [0] _ [.rw [str l]] rfl rfl (by decide) (zax _ _) (by simp [zao,Blk.ren,renL,zae]) ⟨rfl,rfl⟩
def ziD (l:List It) (s:List UInt8):List UInt8 × Bool:=match l.find? (fun x=>decide (x.label=s)) with
 | some x=>(x.box,true)
 | none=>([],false)
theorem findI_at {l:List It} {s:List UInt8} {k:Nat} (hk:k < l.length) (h:(l.getD k i0).label=s) (hj:∀ j,j < k→(l.getD j i0).label≠s):ziD l s=((l.getD k i0).box,true):=by
 have:l.find? (fun x=>decide (x.label=s))=some (l.getD k i0):=by
  rw [List.find?_eq_some_iff_getElem]
  refine⟨decide_eq_true h,k,hk,by simp [hk],fun j hj'=>?_⟩
  have h3:=hj j hj'
  have hjl:j < l.length:=by omega
  rw [List.getD_eq_getElem?_getD,List.getElem?_eq_getElem hjl] at h3
  simpa using h3
 rw [ziD,this]
theorem findI_no {l:List It} {s:List UInt8} (hj:∀ j,j < l.length→(l.getD j i0).label≠s):ziD l s=([],false):=by
 have:l.find? (fun x=>decide (x.label=s))=none:=by
  rw [List.find?_eq_none]
  intro x hx
  obtain⟨j,hjl,rfl⟩:=List.getElem_of_mem hx
  have h3:=hj j hjl
  rw [List.getD_eq_getElem?_getD,List.getElem?_eq_getElem hjl] at h3
  simpa using h3
 rw [ziD,this]
theorem vidx_ok (l:List It) (s:List UInt8) (hl:l.length≤9223372036854775807):ACalls Tryz.prog 40 [.sl (l.flatMap itC) l.length,.fn (.func 41) [] [.ptr 0 0]] [.rw [str s]] (fun y σ=>∃ n:Int,y=.ret (i64 n)∧σ=[.rw [str s]]∧((n=-1∧ziD l s=([],false))∨(0≤n∧n.toNat < l.length∧ziD l s=((l.getD n.toNat i0).box,true)))):=by
 refine ACalls.body T_ok Tryz.func40 (by kernel_rfl) rfl Tryz.ntmps40 (congrArg Array.toList Tryz.results40) ?_
 try simp -implicitDefEqProofs only [LM10,eq_self,zab (h:=T68),zad,zac,zaa,TB,SB,Int.reduceToNat,Nat.reduceAdd,Nat.reduceEqDiff,Nat.reduceLT,Nat.reduceMod,Nat.reducePow,Nat.reduceSub,if_true,reduceIte]
 rw [za9]
 refine⟨Nat,fun k=>k≤l.length∧∀ j,j < k→(l.getD j i0).label≠s,fun k=>[.sl (l.flatMap itC) l.length,.fn (.func 41) [] [.ptr 0 0],.bot,.bot,.bot,.bot,.sl (l.flatMap itC) l.length,i64 l.length,i64 k,.bot,.bot,.bot,.bot,.bot,.bot,.bot,.bot,.bot,.bot],fun _=>[.rw [str s]],fun k=>l.length - k,0,⟨Nat.zero_le _,fun j h=>absurd h (by omega)⟩,zal (q:=[0]) rfl rfl (by decide) ?_ ?_,?_⟩
 ·skip
  try simp only [FB,AV.ren,Nat.reduceAdd,reduceCtorEq]
  simp [zaH,AV.ren,renL]
 ·simp [zao,Blk.ren,renL,zae]
 ·rintro k ⟨hk,hj⟩
  try simp -implicitDefEqProofs only [LM10,eq_self,zab (h:=T68),zad,zac,zaa,TB,SB,Int.reduceToNat,Nat.reduceAdd,Nat.reduceEqDiff,Nat.reduceLT,Nat.reduceMod,Nat.reducePow,Nat.reduceSub,if_true,reduceIte]
  refine⟨fun hlt=>?_,fun hge=>?_⟩
  ·have hk2:k < l.length:=by omega
   repeat (with_reducible refine zaW ?_)
   have h:=vfind1_ok (l.getD k i0) s
   rw [zbn] at h
   refine h.mono ?_
   rintro _ _ ⟨rfl,rfl⟩
   try simp -implicitDefEqProofs only [LM10,eq_self,zab (h:=T68),zad,zac,zaa,TB,SB,Int.reduceToNat,Nat.reduceAdd,Nat.reduceEqDiff,Nat.reduceLT,Nat.reduceMod,Nat.reducePow,Nat.reduceSub,if_true,reduceIte]
   refine⟨fun he=>?_,fun he=>?_⟩
   ·exact zbC [0] _ [.rw [str s]] rfl rfl (by decide) (zaj _ _) (by simp [zao,Blk.ren,renL,zae]) ⟨k,rfl,rfl,.inr ⟨by omega,by omega,by rw [show ((k:Int)).toNat=k by omega];exact findI_at hk2 he hj⟩⟩
   ·refine⟨by unfold inI;omega,?_⟩
    rw [zan]
    refine⟨k+1,⟨by omega,fun j hj'=>?_⟩,by (show l.length - (k+1) < l.length - k);omega,zal (q:=[0]) rfl rfl (by decide) ?_ ?_⟩
    ·rcases Nat.lt_succ_iff_lt_or_eq.1 hj' with hj' | rfl
     ·exact hj j hj'
     ·exact he
    ·skip
     try simp only [FB,AV.ren,Nat.reduceAdd,reduceCtorEq]
     simp [zaH,AV.ren,renL]
    ·simp [zao,Blk.ren,renL,zae]
  ·skip
   try simp -implicitDefEqProofs only [LM10,eq_self,zab (h:=T68),zad,zac,zaa,TB,SB,Int.reduceToNat,Nat.reduceAdd,Nat.reduceEqDiff,Nat.reduceLT,Nat.reduceMod,Nat.reducePow,Nat.reduceSub,if_true,reduceIte]
   exact zbC [0] _ [.rw [str s]] rfl rfl (by decide) (zaj _ _) (by simp [zao,Blk.ren,renL,zae]) ⟨-1,rfl,rfl,.inl ⟨rfl,findI_no fun j hj'=>hj j (by omega)⟩⟩
theorem vfind_ok (l:List It) (s:List UInt8) (hl:l.length≤9223372036854775807):ACalls Tryz.prog 17 [.sl (l.flatMap itC) l.length,str s] [] (fun y _=>y=.ret (.tup [str (ziD l s).1,bl (ziD l s).2])):=by
 refine ACalls.body T_ok Tryz.func17 (by kernel_rfl) rfl Tryz.ntmps17 (congrArg Array.toList Tryz.results17) ?_
 try simp -implicitDefEqProofs only [LM10,eq_self,zab (h:=T68),zad,zac,zaa,TB,SB,Int.reduceToNat,Nat.reduceAdd,Nat.reduceEqDiff,Nat.reduceLT,Nat.reduceMod,Nat.reducePow,Nat.reduceSub,if_true,reduceIte]
 refine(vidx_ok l s hl).mono ?_
 rintro _ _ ⟨n,rfl,rfl,h⟩
 try simp -implicitDefEqProofs only [LM10,eq_self,zab (h:=T68),zad,zac,zaa,TB,SB,Int.reduceToNat,Nat.reduceAdd,Nat.reduceEqDiff,Nat.reduceLT,Nat.reduceMod,Nat.reducePow,Nat.reduceSub,if_true,reduceIte]
 rcases h with ⟨rfl,h⟩ | ⟨h0,h1,h⟩
 ·rw [h]
  refine⟨fun _=>?_,fun h=>absurd (by decide) h⟩
  exact zbd (by simp [AV.ren,renL,zae,zax]) rfl
 ·rw [h]
  refine⟨fun h=>absurd h (by omega),fun _=>⟨h0,by omega,Nat.le_refl _,h1,?_⟩⟩
  exact zbd (by simp [AV.ren,renL,zae,zax]) rfl
theorem putV_cases (l:List Vo):(zbf l=true∧(putV l).2=0∧(putV l).1.length≤20000000)∨(zbf l=false∧putV l=([],1)):=by
 cases h:zbf l with
 | true =>
  have:=putV_len h
  rw [putV,if_pos h]
  exact .inl ⟨rfl,rfl,this⟩
 | false=>exact .inr ⟨rfl,by rw [putV,h];rfl⟩
def nextR (head:List UInt8) (l:List Vo):List UInt8 × Int:=if zbf l=true then (shaR (head++(putV l).1),0) else ([],1)
theorem ziE (head:List UInt8) (l:List Vo) (hh:head.length≤1000000000):ACalls Tryz.prog 15 [str head,.sl (l.flatMap voC) l.length] [] (fun y _=>y=.ret (.tup [str (nextR head l).1,i64 (nextR head l).2])):=by
 have hv:=vput_ok l
 unfold nextR
 rcases putV_cases l with ⟨h1,h2,h3⟩ | ⟨h1,h2⟩
 ·rw [if_pos h1]
  generalize putV l=p at hv h2 h3 ⊢
  obtain⟨b,e⟩:=p
  dsimp only at hv h2 h3 ⊢
  subst h2
  refine ACalls.body T_ok Tryz.func15 (by kernel_rfl) rfl Tryz.ntmps15 (congrArg Array.toList Tryz.results15) ?_
  try simp -implicitDefEqProofs only [LM10,eq_self,zab (h:=T68),zad,zac,zaa,TB,SB,Int.reduceToNat,Nat.reduceAdd,Nat.reduceEqDiff,Nat.reduceLT,Nat.reduceMod,Nat.reducePow,Nat.reduceSub,if_true,reduceIte]
  refine hv.pure (by simp [renL,zci,AV.ren]) ?_
  rintro _ σ rfl
  refine⟨zbY _ _ _,?_⟩
  try simp -implicitDefEqProofs only [LM10,eq_self,zab (h:=T68),zad,zac,zaa,show decide ((0:Int)=0)=true from rfl,TB,SB,Int.reduceToNat,Nat.reduceAdd,Nat.reduceEqDiff,Nat.reduceLT,Nat.reduceMod,Nat.reducePow,Nat.reduceSub,if_true,reduceIte]
  refine⟨by omega,?_⟩
  refine(shaT_ok (head++b) (by rw [List.length_append];omega)).pure (by simp [renL,zae]) ?_
  rintro _ σ rfl
  refine⟨zae _ _,?_⟩
  try simp -implicitDefEqProofs only [LM10,eq_self,zab (h:=T68),zad,zac,zaa,TB,SB,Int.reduceToNat,Nat.reduceAdd,Nat.reduceEqDiff,Nat.reduceLT,Nat.reduceMod,Nat.reducePow,Nat.reduceSub,if_true,reduceIte]
  exact zbd (zbY _ _ _) rfl
 ·rw [h2] at hv
  rw [if_neg (by rw [h1];decide)]
  refine ACalls.body T_ok Tryz.func15 (by kernel_rfl) rfl Tryz.ntmps15 (congrArg Array.toList Tryz.results15) ?_
  try simp -implicitDefEqProofs only [LM10,eq_self,zab (h:=T68),zad,zac,zaa,TB,SB,Int.reduceToNat,Nat.reduceAdd,Nat.reduceEqDiff,Nat.reduceLT,Nat.reduceMod,Nat.reducePow,Nat.reduceSub,if_true,reduceIte]
  refine hv.pure (by simp [renL,zci,AV.ren]) ?_
  rintro _ σ rfl
  refine⟨zbY _ _ _,?_⟩
  try simp -implicitDefEqProofs only [LM10,eq_self,zab (h:=T68),zad,zac,zaa,show decide ((1:Int)=0)=false from rfl,TB,SB,Int.reduceToNat,Nat.reduceAdd,Nat.reduceEqDiff,Nat.reduceLT,Nat.reduceMod,Nat.reducePow,Nat.reduceSub,if_true,reduceIte]
  exact zbd (zbY _ _ _) rfl
theorem end_sv2 {σ:zag} {h:List UInt8} {n:Int} {K:AV→zag→Prop} (hk:K (svA ⟨[],[],h,n⟩) []):endQ 0 (.agg [.lit (.slice none 0 0),.lit (.slice none 0 0),str h,i64 n]) σ K :=
 zce [] (svA ⟨[],[],h,n⟩) ⟨_,rfl,_,_,rfl,.inr ⟨rfl,rfl⟩,_,_,rfl,.inr ⟨rfl,rfl⟩,_,_,rfl,.inl rfl,_,_,rfl,.inl rfl,rfl⟩ ⟨[],svA ⟨[],[],h,n⟩,[],rfl,rfl,by decide,zcn _ _,trivial,hk⟩
theorem vnew_ok:ACalls Tryz.prog 32 [] [] (fun y _=>y=.ret (svA ⟨[],[],shaR [],0⟩)):=by
 refine ACalls.body T_ok Tryz.func32 (by kernel_rfl) rfl Tryz.ntmps32 (congrArg Array.toList Tryz.results32) ?_
 try simp -implicitDefEqProofs only [LM10,eq_self,zab (h:=T68),zad,zac,zaa,TB,SB,Int.reduceToNat,Nat.reduceAdd,Nat.reduceEqDiff,Nat.reduceLT,Nat.reduceMod,Nat.reducePow,Nat.reduceSub,if_true,reduceIte]
 refine(shaT_ok [] (by simp)).pure (by simp [renL,zae]) ?_
 rintro _ σ rfl
 refine⟨zae _ _,?_⟩
 try simp -implicitDefEqProofs only [LM10,eq_self,zab (h:=T68),zad,zac,zaa,TB,SB,Int.reduceToNat,Nat.reduceAdd,Nat.reduceEqDiff,Nat.reduceLT,Nat.reduceMod,Nat.reducePow,Nat.reduceSub,if_true,reduceIte]
 exact end_sv2 rfl
end Go.Proofs.YtdmiflfhaobngaaGreatDoor
end

section
namespace Go.Proofs.YtdmiflfhaobngaaGreatDoor
open Go Go.Eng
def itQ (x:It):List Value:=[.string ⟨x.label.toArray⟩,.string ⟨x.box.toArray⟩]
theorem fit_it (n:It):fitE T 2 74 (itQ n):=by
 rw [fitE]
 simp only [T74,tyIt]
 refine⟨trivial,rfl,rfl,?_⟩
 intro f hf
 simp only [List.mem_cons,List.not_mem_nil,or_false] at hf
 rcases hf with rfl | rfl
 ·exact⟨⟨_,T9⟩,zhF T9 rfl⟩
 ·exact⟨⟨_,T9⟩,zhF T9 rfl⟩
theorem ziF {a b:It} (h:itQ a=itQ b):a=b:=by
 obtain⟨a1,a2⟩:=a
 obtain⟨b1,b2⟩:=b
 simp only [itQ,List.cons.injEq,true_and,Value.string.injEq,ByteArray.mk.injEq,and_true] at h
 obtain⟨h1,h2⟩:=h
 have e1:a1=b1:=by simpa using h1
 subst e1
 have e2:a2=b2:=by simpa using h2
 subst e2
 rfl
theorem eqP_it (a b:It):eqP T 74 (itC a) (itC b) (2,itQ a,itQ b,decide (a=b)) :=
 ⟨rfl,rfl,(by show 2≤100;omega),⟨tyIt,T74,rfl⟩,fit_it a,fit_it b,by simp only [decide_eq_true_eq];exact⟨fun h=>by rw [h],fun h=>ziF h⟩⟩
theorem eqPv_it {a b:It} {q:Nat × List Value × List Value × Bool} (h:eqP T 74 (itC a) (itC b) q):q.2.2.2=decide (a=b):=by
 obtain⟨h1,h2,_,_,_,_,h3⟩:=h
 have e1:=zcJ (l:=itQ a) h1
 have e2:=zcJ (l:=itQ b) h2
 rw [Bool.eq_iff_iff,h3,← e1,← e2,decide_eq_true_eq]
 exact⟨ziF,fun h=>by rw [h]⟩
theorem bn_it_neq {a b:It} {K:AV→Prop}:wbin T .neq 74 (.agg (itC a)) (.agg (itC b)) K=K (bl (!decide (a=b))):=by
 apply propext
 constructor
 ·rintro⟨q,hq,hk⟩
  rw [← eqPv_it hq]
  exact hk
 ·exact fun hk=>⟨_,eqP_it a b,hk⟩
theorem ieq_ok (a b:List It) (ha:a.length≤1000000000000):ACalls Tryz.prog 46 [.sl (a.flatMap itC) a.length,.sl (b.flatMap itC) b.length] [] (fun y _=>y=.ret (bl (decide (a=b)))):=by
 refine ACalls.body T_ok Tryz.func46 (by kernel_rfl) rfl Tryz.ntmps46 (congrArg Array.toList Tryz.results46) ?_
 try simp -implicitDefEqProofs only [LM10,eq_self,zab (h:=T68),zad,zac,zaa,TB,SB,Int.reduceToNat,Nat.reduceAdd,Nat.reduceEqDiff,Nat.reduceLT,Nat.reduceMod,Nat.reducePow,Nat.reduceSub,if_true,reduceIte]
 refine⟨fun hne=>?_,fun heq=>?_⟩
 ·refine zaI ?_
  rw [decide_eq_false (fun h=>hne (by rw [h]))]
 have hl:a.length=b.length:=by omega
 rw [za9]
 refine⟨Nat,fun k=>k≤a.length∧∀ i,i < k→a.getD i i0=b.getD i i0,fun k=>[.sl (a.flatMap itC) a.length,.sl (b.flatMap itC) b.length,.bot,.bot,bl false,.bot,.bot,.bot,.bot,.bot,.bot,.sl (a.flatMap itC) a.length,i64 a.length,i64 k,.bot,.bot,.bot,.bot,.bot,.bot,.bot,.bot,.bot,.bot,.bot,.bot],fun _=>[],fun k=>a.length - k,0,⟨Nat.zero_le _,fun i hi=>by omega⟩,?_,?_⟩
 ·refine zal (q:=[]) rfl rfl (by decide) ?_ ?_
  ·skip
   try simp only [FB,AV.ren,Nat.reduceAdd,reduceCtorEq]
   simp [zaH]
  ·skip
   try simp only [FB,AV.ren,Nat.reduceAdd,reduceCtorEq]
 ·rintro k ⟨hk,hsame⟩
  try simp -implicitDefEqProofs only [LM10,eq_self,zab (h:=T68),zad,zac,zaa,TB,SB,Int.reduceToNat,Nat.reduceAdd,Nat.reduceEqDiff,Nat.reduceLT,Nat.reduceMod,Nat.reducePow,Nat.reduceSub,if_true,reduceIte]
  refine⟨fun hlt=>?_,fun hge=>?_⟩
  ·skip
   refine zcb (by kernel_rfl) (by kernel_rfl) ?_
   try simp -implicitDefEqProofs only [LM10,eq_self,zab (h:=T68),zad,zac,zaa,TB,SB,Int.reduceToNat,Nat.reduceAdd,Nat.reduceEqDiff,Nat.reduceLT,Nat.reduceMod,Nat.reducePow,Nat.reduceSub,if_true,reduceIte]
   repeat (with_reducible refine zaW ?_)
   rw [← zbn,← zbn,bn_it_neq]
   try simp -implicitDefEqProofs only [LM10,eq_self,zab (h:=T68),zad,zac,zaa,TB,SB,Int.reduceToNat,Nat.reduceAdd,Nat.reduceEqDiff,Nat.reduceLT,Nat.reduceMod,Nat.reducePow,Nat.reduceSub,if_true,reduceIte]
   refine⟨fun hne=>?_,fun heq=>?_⟩
   ·refine zaI ?_
    rw [decide_eq_false (by rintro rfl;exact hne rfl)]
   ·skip
    repeat (with_reducible refine zaW ?_)
    rw [zan]
    refine⟨k+1,⟨by omega,fun i hi=>?_⟩,by omega,zal (q:=[]) rfl rfl (by decide) ?_ ?_⟩
    ·rcases Nat.lt_succ_iff_lt_or_eq.1 hi with h | rfl
     ·exact hsame i h
     ·simpa using heq
    ·skip
     try simp only [FB,AV.ren,Nat.reduceAdd,reduceCtorEq]
     simp [zaH]
    ·skip
     try simp only [FB,AV.ren,Nat.reduceAdd,reduceCtorEq]
  ·obtain rfl:k=a.length:=by omega
   try simp -implicitDefEqProofs only [LM10,eq_self,zab (h:=T68),zad,zac,zaa,TB,SB,Int.reduceToNat,Nat.reduceAdd,Nat.reduceEqDiff,Nat.reduceLT,Nat.reduceMod,Nat.reducePow,Nat.reduceSub,if_true,reduceIte]
   refine zaI ?_
   rw [decide_eq_true (List.ext_getElem hl fun i h1 h2=>by have:=hsame i h1;simpa [h1,h2] using this)]
theorem vsame_ok (s t:Sv) (h0:s.head.length≤1000000000) (h1:s.blobs.length≤1000000000000) (h2:s.cells.length≤1000000000000):ACalls Tryz.prog 22 [svA s,svA t] [] (fun y _=>y=.ret (bl (decide (s=t)))):=by
 have he:=equal_ok s.head t.head (by omega)
 have hb:=ieq_ok s.blobs t.blobs h1
 have hc:=ieq_ok s.cells t.cells h2
 obtain⟨b1,c1,d1,n1⟩:=s
 obtain⟨b2,c2,d2,n2⟩:=t
 dsimp only at he hb hc
 rw [zbZ,zbZ,zbl,zbl,zbl,zbl]
 dsimp only
 refine ACalls.body T_ok Tryz.func22 (by kernel_rfl) rfl Tryz.ntmps22 (congrArg Array.toList Tryz.results22) ?_
 try simp -implicitDefEqProofs only [LM10,eq_self,zab (h:=T68),zad,zac,zaa,TB,SB,Int.reduceToNat,Nat.reduceAdd,Nat.reduceEqDiff,Nat.reduceLT,Nat.reduceMod,Nat.reducePow,Nat.reduceSub,if_true,reduceIte]
 refine he.pure (by simp [renL,zae]) ?_
 rintro _ σ rfl
 refine⟨zax _ _,?_⟩
 by_cases g1:d1=d2
 rotate_left
 ·rw [decide_eq_false g1]
  try simp -implicitDefEqProofs only [LM10,eq_self,zab (h:=T68),zad,zac,zaa,TB,SB,Int.reduceToNat,Nat.reduceAdd,Nat.reduceEqDiff,Nat.reduceLT,Nat.reduceMod,Nat.reducePow,Nat.reduceSub,if_true,reduceIte]
  exact zaI (by rw [decide_eq_false (fun h=>g1 (by injection h))])
 rw [decide_eq_true g1]
 try simp -implicitDefEqProofs only [LM10,eq_self,zab (h:=T68),zad,zac,zaa,TB,SB,Int.reduceToNat,Nat.reduceAdd,Nat.reduceEqDiff,Nat.reduceLT,Nat.reduceMod,Nat.reducePow,Nat.reduceSub,if_true,reduceIte]
 by_cases g2:n1=n2
 rotate_left
 ·rw [decide_eq_false g2]
  try simp -implicitDefEqProofs only [LM10,eq_self,zab (h:=T68),zad,zac,zaa,TB,SB,Int.reduceToNat,Nat.reduceAdd,Nat.reduceEqDiff,Nat.reduceLT,Nat.reduceMod,Nat.reducePow,Nat.reduceSub,if_true,reduceIte]
  exact zaI (by rw [decide_eq_false (fun h=>g2 (by injection h))])
 rw [decide_eq_true g2]
 try simp -implicitDefEqProofs only [LM10,eq_self,zab (h:=T68),zad,zac,zaa,TB,SB,Int.reduceToNat,Nat.reduceAdd,Nat.reduceEqDiff,Nat.reduceLT,Nat.reduceMod,Nat.reducePow,Nat.reduceSub,if_true,reduceIte]
 refine hb.pure (by simp [renL,zaH,AV.ren]) ?_
 rintro _ σ rfl
 refine⟨zax _ _,?_⟩
 by_cases g3:b1=b2
 rotate_left
 ·rw [decide_eq_false g3]
  try simp -implicitDefEqProofs only [LM10,eq_self,zab (h:=T68),zad,zac,zaa,TB,SB,Int.reduceToNat,Nat.reduceAdd,Nat.reduceEqDiff,Nat.reduceLT,Nat.reduceMod,Nat.reducePow,Nat.reduceSub,if_true,reduceIte]
  exact zaI (by rw [decide_eq_false (fun h=>g3 (by injection h))])
 rw [decide_eq_true g3]
 try simp -implicitDefEqProofs only [LM10,eq_self,zab (h:=T68),zad,zac,zaa,TB,SB,Int.reduceToNat,Nat.reduceAdd,Nat.reduceEqDiff,Nat.reduceLT,Nat.reduceMod,Nat.reducePow,Nat.reduceSub,if_true,reduceIte]
 refine hc.pure (by simp [renL,zaH,AV.ren]) ?_
 rintro _ σ rfl
 refine⟨zax _ _,?_⟩
 try simp -implicitDefEqProofs only [LM10,eq_self,zab (h:=T68),zad,zac,zaa,TB,SB,Int.reduceToNat,Nat.reduceAdd,Nat.reduceEqDiff,Nat.reduceLT,Nat.reduceMod,Nat.reducePow,Nat.reduceSub,if_true,reduceIte]
 refine zaI ?_
 subst g1 g2 g3
 by_cases g4:c1=c2
 ·rw [decide_eq_true g4,decide_eq_true (by rw [g4])]
 ·rw [decide_eq_false g4,decide_eq_false (fun h=>g4 (by injection h))]
end Go.Proofs.YtdmiflfhaobngaaGreatDoor
end

section
namespace Go.Proofs.YtdmiflfhaobngaaGreatDoor
open Go Go.Eng
theorem qb_s2V {K:AV→Prop} (a b:List UInt8):qb2 (some tyStr) 2 [(0,str a),(1,str b)] K=K (.sl ([a,b].map str) 2):=by
 simp [qb2,tyStr,zbs,zb4,AV.cells,zbc,List.range_succ,List.replicate,str,AV.one,Value.oneCell']
theorem bs_s2V (a b:List UInt8) {σ:zag} {K:AV→zag→Prop}:bs2 (some tyStr) 2 [(0,str a),(1,str b)] σ K=K (.ref σ.length 0 2 1) (σ++[.rw [str a,str b]]):=by
 simp [bs2,tyStr,zbs,zb4,AV.cells,zbc,List.range_succ,List.replicate,str,AV.one,Value.oneCell']
theorem itT_succ {l:List It} {k:Nat} (h:k < l.length):itT (l.take (k+1))=itT (l.take k)++[(l.getD k i0).label,(l.getD k i0).box]:=by
 rw [itT,List.take_succ_eq_append_getElem h,List.flatMap_append]
 simp [itT,h]
theorem texts_ok (l:List It) (hl:l.length≤1000000):ACalls Tryz.prog 55 [.sl (l.flatMap itC) l.length] [] (fun y _=>y=.ret (slS (itT l))):=by
 refine ACalls.body T_ok Tryz.func55 (by kernel_rfl) rfl Tryz.ntmps55 (congrArg Array.toList Tryz.results55) ?_
 try simp -implicitDefEqProofs only [LM10,eq_self,zab (h:=T68),zad,zac,zaa,TB,SB,Int.reduceToNat,Nat.reduceAdd,Nat.reduceEqDiff,Nat.reduceLT,Nat.reduceMod,Nat.reducePow,Nat.reduceSub,if_true,reduceIte]
 rw [za9]
 refine⟨Nat,fun k=>k≤l.length,fun k=>[.sl (l.flatMap itC) l.length,.bot,.bot,.ref 0 0 (itT (l.take k)).length 1,.bot,.bot,.sl (l.flatMap itC) l.length,i64 l.length,i64 k,.bot,.bot,.bot,.bot,.bot,.bot,.bot,.bot,.bot,.bot,.bot,.bot],fun k=>[.rw ((itT (l.take k)).map str)],fun k=>l.length - k,0,Nat.zero_le _,fits_nil 3 1 rfl (zal (q:=[0]) rfl rfl (by decide) ?_ ?_),?_⟩
 ·skip
  try simp only [FB,AV.ren,Nat.reduceAdd,reduceCtorEq]
  simp [zaH,AV.ren,itT]
 ·simp [zao,Blk.ren,renL,itT]
 ·intro k hk
  have hol:(itT (l.take k)).length=2 * k:=by rw [zeE,List.length_take];omega
  try simp -implicitDefEqProofs only [LM10,eq_self,zab (h:=T68),zad,zac,zaa,TB,SB,Int.reduceToNat,Nat.reduceAdd,Nat.reduceEqDiff,Nat.reduceLT,Nat.reduceMod,Nat.reducePow,Nat.reduceSub,if_true,reduceIte]
  refine⟨fun hlt=>?_,fun hge=>?_⟩
  ·have hk2:k < l.length:=by omega
   have e:=itT_succ hk2
   repeat (with_reducible refine zaW ?_)
   try simp -implicitDefEqProofs only [LM10,eq_self,zab (h:=T68),zad,zac,zaa,bs_s2V,TB,SB,Int.reduceToNat,Nat.reduceAdd,Nat.reduceEqDiff,Nat.reduceLT,Nat.reduceMod,Nat.reducePow,Nat.reduceSub,if_true,reduceIte]
   refine zb7 str zad rfl rfl T68 T68 (zdz _) T9 zcN (l:=itT (l.take k)) (ys:=[(l.getD k i0).label,(l.getD k i0).box]) (m:=2) rfl rfl rfl (by omega) (by simp only [tyStr];omega) ?_
   try simp -implicitDefEqProofs only [LM10,eq_self,zab (h:=T68),zad,zac,zaa,TB,SB,Int.reduceToNat,Nat.reduceAdd,Nat.reduceEqDiff,Nat.reduceLT,Nat.reduceMod,Nat.reducePow,Nat.reduceSub,if_true,reduceIte]
   refine⟨by unfold inI;omega,?_⟩
   rw [zan]
   refine⟨k+1,by omega,by (show l.length - (k+1) < l.length - k);omega,?_⟩
   rw [e,List.length_append]
   refine zal (q:=[3]) rfl rfl (by decide) ?_ ?_
   ·skip
    try simp only [FB,AV.ren,Nat.reduceAdd,reduceCtorEq]
    simp [zaH,AV.ren]
   ·rw [zev str zae]
    exact⟨rfl,trivial⟩
  ·obtain rfl:k=l.length:=by omega
   try simp -implicitDefEqProofs only [LM10,eq_self,zab (h:=T68),zad,zac,zaa,TB,SB,Int.reduceToNat,Nat.reduceAdd,Nat.reduceEqDiff,Nat.reduceLT,Nat.reduceMod,Nat.reducePow,Nat.reduceSub,if_true,reduceIte]
   rw [List.take_length]
   exact zce [0] (slS (itT l)) (zi7 (l:=itT l) rfl rfl) ⟨[],slS (itT l),[],rfl,rfl,by decide,zey _ _,trivial,rfl⟩
def itS (l:List (List UInt8)) (lp:Blk):Nat→zag
 | 0=>[.rw [.lit (.slice none 0 0)],.rw [slS l],.rw [i64 2],lp]
 | a+1=>.rw [.ref (a+4) 0 (a+1) 2]::.rw [slS l]::.rw [i64 2]::lp::(List.replicate a .dead++[.rw ((itA l (a+1)).flatMap itC)])
theorem it_range {l:List (List UInt8)} (hl:l.length≤1000000) {env:List AV} {ps:Array Tmp} {A B:Code} {K:AEnd→zag→Prop}
  (he : l.length % 2 = 0) (hY : ∀ a, a < l.length / 2 → AYield Tryz.prog 3 [slS (chk l 2 a)] (itS l (.lp .ready none env ps A B) a) (fun x σ' => x = .ret (bl true) ∧ σ' = itS l (.lp .ready none env ps A B) (a + 1)))
  (hK:K (.ret (.tup [])) (itS l (.lp .ready none env ps A B) (l.length / 2))) :
  ACalls Tryz.prog 86 [.yl 3,.ptr 1 0,.ptr 2 0] [.rw [.lit (.slice none 0 0)],.rw [.sl (l.map str) l.length],.rw [i64 2],.lp .ready none env ps A B] K:=by
 refine(chunk1_ok l (by omega) 2 (chks l 2) (by decide) (by decide) (Nat.le_refl _) 3 1 2 (fun i=>itS l (.lp .ready none env ps A B) i) [] (fun i=>?_) (fun i=>?_) (fun i hi=>?_) (fun h=>absurd h (by omega))).mono ?_
 ·skip
  cases i <;> rfl
 ·skip
  cases i <;> rfl
 ·rw [half_chks] at hi
  exact hY i (by omega)
 · rintro _ σ' ⟨rfl, rfl⟩
   rw [if_neg (by omega),half_chks,show (l.length+1) / 2=l.length / 2 by omega]
   exact hK
theorem qb_T {K:AV→Prop} (k b:List UInt8):qb2 (some tyIt) 1 [(0,.agg [str k,str b])] K=K (.sl ([⟨k,b⟩].flatMap itC) 1):=by
 simp [qb2,tyIt,zbs,zb4,AV.cells,zbc,List.range_succ,List.replicate,zad,itC]
theorem it_app {σ:zag} {KS:AV→zag→Prop} {id n:Nat} {l:List It} {y:It} {x:AV} (hc:σ[id]?=some (.rw (l.flatMap itC))) (hn:n=l.length) (hx:asrc σ 2 x=some ([y].flatMap itC,1)) (g:l.length≤1000000) (hk:KS (.ref σ.length 0 (n+1) 2) (σ.set id .dead++[.rw ((l++[y]).flatMap itC)])):zbD T #[22,22] (.ref id 0 n 2) x σ KS:=by
 subst hn
 exact itF.app rfl rfl T22 T22 (zdz _) T74 rfl rfl hc hx rfl (by omega) (by simp only [tyIt];omega) hk
theorem it_end {σ:zag} {KS:AV→zag→Prop} {id n:Nat} {l:List It} (hc:σ[id]?=some (.rw (l.flatMap itC))) (hn:n=l.length) (hk:KS (slT l) []):endQ 0 (.ref id 0 n 2) σ KS:=by
 subst hn
 exact itF.endQ hc hk
theorem items_ok (l:List (List UInt8)) (hl:l.length≤1000000) (he:l.length % 2=0):ACalls Tryz.prog 57 [.sl (l.map str) l.length] [] (fun y _=>y=.ret (slT (itA l (l.length / 2)))):=by
 refine ACalls.body T_ok Tryz.func57 (by kernel_rfl) rfl Tryz.ntmps57 (congrArg Array.toList Tryz.results57) ?_
 try simp -implicitDefEqProofs only [LM10,eq_self,zab (h:=T68),zad,zac,zaa,TB,SB,Int.reduceToNat,Nat.reduceAdd,Nat.reduceEqDiff,Nat.reduceLT,Nat.reduceMod,Nat.reducePow,Nat.reduceSub,if_true,reduceIte]
 refine ACalls.frame ([]) (chunk_ok l 2 (by decide)) rfl (by decide) (by simp [LM13,zao,zas,renL,AV.ren,AEnd.ren,zaf str zae,zaq,List.getElem?_cons_zero,List.getElem?_cons_succ]) (by first | rfl | simp [LM13,zao,zas,renL,AV.ren,AEnd.ren,zaf str zae,zaq,List.getElem?_cons_zero,List.getElem?_cons_succ]) ?_
 rintro _ _ ⟨rfl,rfl⟩
 refine⟨.ret (.fn (.func 86) [] [.ptr 1 0,.ptr 2 0]),[.rw [.lit (.slice none 0 0)],.rw [.sl (l.map str) l.length],.rw [i64 2]],(by show zas _ _ ([2,0,1]) ([2,0,1]) 0 _;simp [LM13,zao,zas,renL,AV.ren,AEnd.ren,zaf str zae,zaq,List.getElem?_cons_zero,List.getElem?_cons_succ]),(by show AEnd.ren ([2,0,1]) _ _;first | rfl | simp [LM13,zao,zas,renL,AV.ren,AEnd.ren,zaf str zae,zaq,List.getElem?_cons_zero,List.getElem?_cons_succ]),?_⟩
 try simp -implicitDefEqProofs only [LM10,eq_self,zab (h:=T68),zad,zac,zaa,TB,SB,Int.reduceToNat,Nat.reduceAdd,Nat.reduceEqDiff,Nat.reduceLT,Nat.reduceMod,Nat.reducePow,Nat.reduceSub,if_true,reduceIte]
 refine⟨by kernel_rfl,?_⟩
 refine it_range hl he (fun a ha=>?_) ?_
 ·have hcl:(chk l 2 a).length=2:=by rw [ziy];omega
  have g0:=zgs (l:=l) (n:=2) (i:=a) (j:=0) (by omega)
  have g1:=zgs (l:=l) (n:=2) (i:=a) (j:=1) (by omega)
  rw [show a * 2+0=2 * a by omega] at g0
  rw [show a * 2+1=2 * a+1 by omega] at g1
  rw [zgD]
  match a,ha with
  | 0,ha =>
   simp only [itS]
   refine AYield.of T_ok rfl rfl rfl rfl ?_
   try simp -implicitDefEqProofs only [LM10,eq_self,zab (h:=T68),zad,zac,zaa,TB,SB,Int.reduceToNat,Nat.reduceAdd,Nat.reduceEqDiff,Nat.reduceLT,Nat.reduceMod,Nat.reducePow,Nat.reduceSub,if_true,reduceIte]
   refine⟨_,_,_,rfl,?_⟩
   try simp -implicitDefEqProofs only [LM10,eq_self,zab (h:=T68),zad,zac,zaa,TB,SB,Int.reduceToNat,Nat.reduceAdd,Nat.reduceEqDiff,Nat.reduceLT,Nat.reduceMod,Nat.reducePow,Nat.reduceSub,if_true,reduceIte]
   refine zbg [9,0] (by kernel_rfl) (by kernel_rfl) (by kernel_rfl) ?_
   try simp -implicitDefEqProofs only [LM10,eq_self,zab (h:=T68),zad,zac,zaa,TB,SB,Int.reduceToNat,Nat.reduceAdd,Nat.reduceEqDiff,Nat.reduceLT,Nat.reduceMod,Nat.reducePow,Nat.reduceSub,if_true,reduceIte]
   repeat (with_reducible refine zaW ?_)
   rw [g0]
   repeat (with_reducible refine zaW ?_)
   rw [g1]
   try simp -implicitDefEqProofs only [LM10,eq_self,zab (h:=T68),zad,zac,zaa,qb_T,TB,SB,Int.reduceToNat,Nat.reduceAdd,Nat.reduceEqDiff,Nat.reduceLT,Nat.reduceMod,Nat.reducePow,Nat.reduceSub,if_true,reduceIte]
   refine itF.appN rfl rfl T22 T22 (zdz _) T74 rfl rfl (ys:=[itAt l 0]) (m:=1) (itF.asrc _) rfl (by omega) (by simp only [tyIt];omega) ?_
   try simp -implicitDefEqProofs only [LM10,eq_self,zab (h:=T68),zad,zac,zaa,TB,SB,Int.reduceToNat,Nat.reduceAdd,Nat.reduceEqDiff,Nat.reduceLT,Nat.reduceMod,Nat.reducePow,Nat.reduceSub,if_true,reduceIte]
   refine⟨_,_,_,_,rfl,rfl,?_⟩
   rfl
  | a+1,ha =>
   simp only [itS]
   refine AYield.of T_ok rfl rfl rfl rfl ?_
   try simp -implicitDefEqProofs only [LM10,eq_self,zab (h:=T68),zad,zac,zaa,TB,SB,Int.reduceToNat,Nat.reduceAdd,Nat.reduceEqDiff,Nat.reduceLT,Nat.reduceMod,Nat.reducePow,Nat.reduceSub,if_true,reduceIte]
   refine⟨_,_,_,rfl,?_⟩
   try simp -implicitDefEqProofs only [LM10,eq_self,zab (h:=T68),zad,zac,zaa,TB,SB,Int.reduceToNat,Nat.reduceAdd,Nat.reduceEqDiff,Nat.reduceLT,Nat.reduceMod,Nat.reducePow,Nat.reduceSub,if_true,reduceIte]
   refine zbg [9,0] (by kernel_rfl) (by kernel_rfl) (by kernel_rfl) ?_
   try simp -implicitDefEqProofs only [LM10,eq_self,zab (h:=T68),zad,zac,zaa,TB,SB,Int.reduceToNat,Nat.reduceAdd,Nat.reduceEqDiff,Nat.reduceLT,Nat.reduceMod,Nat.reducePow,Nat.reduceSub,if_true,reduceIte]
   repeat (with_reducible refine zaW ?_)
   rw [g0]
   repeat (with_reducible refine zaW ?_)
   rw [g1]
   try simp -implicitDefEqProofs only [LM10,eq_self,zab (h:=T68),zad,zac,zaa,qb_T,TB,SB,Int.reduceToNat,Nat.reduceAdd,Nat.reduceEqDiff,Nat.reduceLT,Nat.reduceMod,Nat.reducePow,Nat.reduceSub,if_true,reduceIte]
   refine it_app (l:=itA l (a+1)) (y:=itAt l (a+1)) (deadG _ _) (zbe _ _).symm (itF.asrc [itAt l (a+1)]) (by rw [zbe];omega) ?_
   simp only [List.length_cons,List.length_append,List.length_replicate,List.length_nil,List.set_cons_succ,deadS,List.cons_append]
   try simp -implicitDefEqProofs only [LM10,eq_self,zab (h:=T68),zad,zac,zaa,TB,SB,Int.reduceToNat,Nat.reduceAdd,Nat.reduceEqDiff,Nat.reduceLT,Nat.reduceMod,Nat.reducePow,Nat.reduceSub,if_true,reduceIte]
   refine⟨_,_,_,_,rfl,rfl,?_⟩
   rw [zgL l (a+1)]
   rfl
 ·cases hm:l.length / 2 with
  | zero =>
   simp only [itS]
   refine⟨_,_,_,_,_,_,rfl,by simp,?_⟩
   try simp -implicitDefEqProofs only [LM10,eq_self,zab (h:=T68),zad,zac,zaa,TB,SB,Int.reduceToNat,Nat.reduceAdd,Nat.reduceEqDiff,Nat.reduceLT,Nat.reduceMod,Nat.reducePow,Nat.reduceSub,if_true,reduceIte]
   exact endQ_nil (by rfl)
  | succ a =>
   simp only [itS]
   refine⟨_,_,_,_,_,_,rfl,by simp,?_⟩
   try simp -implicitDefEqProofs only [LM10,eq_self,zab (h:=T68),zad,zac,zaa,TB,SB,Int.reduceToNat,Nat.reduceAdd,Nat.reduceEqDiff,Nat.reduceLT,Nat.reduceMod,Nat.reducePow,Nat.reduceSub,if_true,reduceIte]
   exact it_end (l:=itA l (a+1)) (deadG _ _) (zbe _ _).symm rfl
end Go.Proofs.YtdmiflfhaobngaaGreatDoor
end

section
namespace Go.Proofs.YtdmiflfhaobngaaGreatDoor
open Go Go.Eng
set_option linter.defProp false in
def LB25:=And.intro @zbu (And.intro @zbU (@zbV))
theorem svT_le {s:Sv} (h:chkS s=true):(svT s).length≤5000∧(∀ x∈svT s,x.length≤8192)∧(zbk (svT s)).length≤100000000:=by
 obtain⟨⟨a1,a2⟩,⟨b1,b2⟩,h3,h4,h5⟩:=ze3 h
 have hlen:(svT s).length=3+2 * s.blobs.length+2 * s.cells.length:=by
  simp only [svT,List.length_cons,List.length_append,zeE];omega
 have hi:∀ l,allI l=true→∀ x∈itT l,x.length≤8192:=fun l h x hx=>by
  simp only [allI,Bool.and_eq_true,decide_eq_true_eq] at h
  simp only [itT,List.mem_flatMap,List.mem_cons,List.not_mem_nil,or_false] at hx
  obtain⟨o,ho,hx⟩:=hx
  obtain⟨j,hj,rfl⟩:=List.getElem_of_mem ho
  have hm:=(h.1 j hj).1
  rw [List.getD_eq_getElem?_getD,List.getElem?_eq_getElem hj] at hm
  simp only [Option.getD_some,mayI,Bool.and_eq_true,decide_eq_true_eq] at hm
  have:=isLab_le hm.1
  rcases hx with rfl | rfl <;> omega
 have hall:∀ x∈svT s,x.length≤8192:=fun x hx=>by
  simp only [svT,List.mem_cons,List.mem_append] at hx
  rcases hx with rfl | rfl | rfl | hx | hx
  ·omega
  ·rw [zcf];omega
  ·rw [zcf];omega
  ·exact hi _ a1 x hx
  ·exact hi _ b1 x hx
 have hj:=ze2 (svT s) hall
 have:(2 * 8192+3) * (svT s).length≤(2 * 8192+3) * 5000:=Nat.mul_le_mul_left _ (by omega)
 exact⟨by omega,hall,by omega⟩
theorem qb_sl3 {K:AV→Prop} (e:TypeId) (a b c:List (List UInt8)):qb2 (some (tySl e)) 3 [(0,slS a),(1,slS b),(2,slS c)] K=K (.sl ([a,b,c].map slS) 3):=by
 simp [qb2,tySl,zbs,zb4,AV.cells,zbc,List.range_succ,List.replicate,slS,AV.one,Value.oneCell']
theorem vbytes_ok (s:Sv) (h1:s.blobs.length≤9223372036854775807) (h2:s.cells.length≤9223372036854775807):ACalls Tryz.prog 27 [svA s] [] (fun y _=>y=.ret (.tup [str (zbR s).1,i64 (zbR s).2])):=by
 have hc:=zfN s h1 h2
 have hle:=@svT_le s
 have hkl:=@ze3 s
 have hX:zbR s=if chkS s=true then (zbk (svT s),0) else ([],1):=rfl
 generalize zbR s=X at hX ⊢
 generalize chkS s=c at hc hle hkl hX
 obtain⟨sb,sc,sh,sn⟩:=s
 unfold svT at hle hX
 rw [zbZ,zbl,zbl] at hc ⊢
 dsimp only at hc hle hkl hX h1 h2 ⊢
 refine ACalls.body T_ok Tryz.func27 (by kernel_rfl) rfl Tryz.ntmps27 (congrArg Array.toList Tryz.results27) ?_
 try simp -implicitDefEqProofs only [LM10,LB25,eq_self,zab (h:=T68),zad,zac,zaa,TB,SB,Int.reduceToNat,Nat.reduceAdd,Nat.reduceEqDiff,Nat.reduceLT,Nat.reduceMod,Nat.reducePow,Nat.reduceSub,if_true,reduceIte]
 refine hc.pure (by simp [renL,zaH,AV.ren,zae,zaj]) ?_
 rintro _ σ rfl
 refine⟨zaj _ _,?_⟩
 cases c with
 | false =>
  rw [if_neg (by decide)] at hX ⊢
  try simp -implicitDefEqProofs only [LM10,LB25,eq_self,zab (h:=T68),zad,zac,zaa,show decide ((1:Int)=0)=false from rfl,TB,SB,Int.reduceToNat,Nat.reduceAdd,Nat.reduceEqDiff,Nat.reduceLT,Nat.reduceMod,Nat.reducePow,Nat.reduceSub,if_true,reduceIte]
  refine zbd (zbY _ _ _) ?_
  rw [hX]
 | true =>
  obtain⟨⟨_,l1⟩,⟨_,l2⟩,l3,l4,l5⟩:=hkl rfl
  obtain⟨m1,m2,m3⟩:=hle rfl
  rw [if_pos rfl] at hX ⊢
  try simp -implicitDefEqProofs only [LM10,LB25,eq_self,zab (h:=T68),zad,zac,zaa,TB,SB,Int.reduceToNat,Nat.reduceAdd,Nat.reduceEqDiff,Nat.reduceLT,Nat.reduceMod,Nat.reducePow,Nat.reduceSub,if_true,reduceIte]
  refine zcb (by kernel_rfl) (by kernel_rfl) ?_
  try simp -implicitDefEqProofs only [LM10,LB25,eq_self,zab (h:=T68),zad,zac,zaa,TB,SB,Int.reduceToNat,Nat.reduceAdd,Nat.reduceEqDiff,Nat.reduceLT,Nat.reduceMod,Nat.reducePow,Nat.reduceSub,if_true,reduceIte]
  refine zbt (zi1 (BitVec.ofInt 64 sn) 8) (by first | rfl | simp [renL,AV.ren,zaw,zaf str zae,zaL,zaB,zaA,zaj,zax,zae]) (by first | rfl | simp [AEnd.noid,AV.ren,renL,zaw,zaL,zaB,zaA,zaj,zax,zae]) ?_
  try simp -implicitDefEqProofs only [LM10,LB25,eq_self,zab (h:=T68),zad,zac,zaa,TB,SB,Int.reduceToNat,Nat.reduceAdd,Nat.reduceEqDiff,Nat.reduceLT,Nat.reduceMod,Nat.reducePow,Nat.reduceSub,if_true,reduceIte]
  refine zbt (zi1 (BitVec.ofInt 64 (sb.length:Int)) 4) (by first | rfl | simp [renL,AV.ren,zaw,zaf str zae,zaL,zaB,zaA,zaj,zax,zae]) (by first | rfl | simp [AEnd.noid,AV.ren,renL,zaw,zaL,zaB,zaA,zaj,zax,zae]) ?_
  try simp -implicitDefEqProofs only [LM10,LB25,eq_self,zab (h:=T68),zad,zac,zaa,TB,SB,Int.reduceToNat,Nat.reduceAdd,Nat.reduceEqDiff,Nat.reduceLT,Nat.reduceMod,Nat.reducePow,Nat.reduceSub,if_true,reduceIte]
  rw [show zcP 8=8 from rfl,show zcP 4=4 from rfl]
  try simp -implicitDefEqProofs only [LM10,LB25,eq_self,zab (h:=T68),zad,zac,zaa,qb_s3,TB,SB,Int.reduceToNat,Nat.reduceAdd,Nat.reduceEqDiff,Nat.reduceLT,Nat.reduceMod,Nat.reducePow,Nat.reduceSub,if_true,reduceIte]
  rw [show AV.sl [str sh,str (bigL (BitVec.ofInt 64 sn) 8),str (bigL (BitVec.ofInt 64 (sb.length:Int)) 4)] 3=slS [sh,bigL (BitVec.ofInt 64 sn) 8,bigL (BitVec.ofInt 64 (sb.length:Int)) 4] from rfl]
  refine zcb (by kernel_rfl) (by kernel_rfl) ?_
  try simp -implicitDefEqProofs only [LM10,LB25,eq_self,zab (h:=T68),zad,zac,zaa,TB,SB,Int.reduceToNat,Nat.reduceAdd,Nat.reduceEqDiff,Nat.reduceLT,Nat.reduceMod,Nat.reducePow,Nat.reduceSub,if_true,reduceIte]
  refine zbt (texts_ok sb (by omega)) (by simp [renL,zaH,AV.ren]) (by simp [AEnd.noid,zey]) ?_
  try simp -implicitDefEqProofs only [LM10,LB25,eq_self,zab (h:=T68),zad,zac,zaa,TB,SB,Int.reduceToNat,Nat.reduceAdd,Nat.reduceEqDiff,Nat.reduceLT,Nat.reduceMod,Nat.reducePow,Nat.reduceSub,if_true,reduceIte]
  refine zbt (texts_ok sc (by omega)) (by simp [renL,zaH,AV.ren]) (by simp [AEnd.noid,zey]) ?_
  try simp -implicitDefEqProofs only [LM10,LB25,eq_self,zab (h:=T68),zad,zac,zaa,qb_sl3,TB,SB,Int.reduceToNat,Nat.reduceAdd,Nat.reduceEqDiff,Nat.reduceLT,Nat.reduceMod,Nat.reducePow,Nat.reduceSub,if_true,reduceIte]
  refine zbt (concat_ok [[sh,bigL (BitVec.ofInt 64 sn) 8,bigL (BitVec.ofInt 64 (sb.length:Int)) 4],itT sb,itT sc] (by simp) (fun l hl=>by
   simp only [List.mem_cons,List.not_mem_nil,or_false] at hl
   rcases hl with rfl | rfl | rfl
   ·simp
   ·rw [zeE];omega
   ·rw [zeE];omega)) (by simp [renL,AV.ren,zey]) (by simp [AEnd.noid,zey]) ?_
  rw [show [[sh,bigL (BitVec.ofInt 64 sn) 8,bigL (BitVec.ofInt 64 (sb.length:Int)) 4],itT sb,itT sc].flatten=sh::bigL (BitVec.ofInt 64 sn) 8::bigL (BitVec.ofInt 64 (sb.length:Int)) 4::(itT sb++itT sc) by simp]
  generalize hL:sh::bigL (BitVec.ofInt 64 sn) 8::bigL (BitVec.ofInt 64 (sb.length:Int)) 4::(itT sb++itT sc)=L at m1 m2 m3 hX
  have hj:=join_ok L (by omega) (fun x hx=>by have:=m2 x hx;omega) (by omega)
  rw [← zgD] at hj
  try simp -implicitDefEqProofs only [LM10,LB25,eq_self,zab (h:=T68),zad,zac,zaa,TB,SB,Int.reduceToNat,Nat.reduceAdd,Nat.reduceEqDiff,Nat.reduceLT,Nat.reduceMod,Nat.reducePow,Nat.reduceSub,if_true,reduceIte]
  refine zbt hj (by simp [renL,zey]) (by simp [AEnd.noid,zae]) ?_
  try simp -implicitDefEqProofs only [LM10,LB25,eq_self,zab (h:=T68),zad,zac,zaa,TB,SB,Int.reduceToNat,Nat.reduceAdd,Nat.reduceEqDiff,Nat.reduceLT,Nat.reduceMod,Nat.reducePow,Nat.reduceSub,if_true,reduceIte]
  refine zbd (zbY _ _ _) ?_
  rw [hX]
theorem zeF {σ:zag} {K:AV→zag→Prop} (hk:K (.tup [svA s0,i64 5]) []):endQ 0 (.tup [.agg [.lit (.slice none 0 0),.lit (.slice none 0 0),str [],i64 0],i64 5]) σ K :=
 zce [] (.tup [svA s0,i64 5]) ⟨_,rfl,_,_,rfl,⟨_,rfl,_,_,rfl,.inr ⟨rfl,rfl⟩,_,_,rfl,.inr ⟨rfl,rfl⟩,_,_,rfl,.inl rfl,_,_,rfl,.inl rfl,rfl⟩,_,_,rfl,.inl rfl,rfl⟩ ⟨[],.tup [svA s0,i64 5],[],rfl,rfl,by decide,by simp [AV.ren,renL,zcn,zaj],trivial,hk⟩
theorem ziG {t:TypeId} {K:AV→Prop} (x y:BitVec 64):wbin T .gtr t (u64 x) (u64 y) K=K (bl (decide (y.toNat < x.toNat))):=by
 simp [wbin,u64,cmpV,bl,zdF]
theorem wslS_loU {K:AV→Prop} {σ:zag} (l:List (List UInt8)) (x:BitVec 64):zbA T 68 (.sl (l.map str) l.length) (some (u64 x)) none σ K=(x.toNat≤l.length∧K (.sl ((l.drop x.toNat).map str) (l.length - x.toNat))):=by
 have h:=zeD (K:=K) (σ:=σ) l (x.toNat:Int)
 have e:zbA T 68 (.sl (l.map str) l.length) (some (u64 x)) none σ K=zbA T 68 (.sl (l.map str) l.length) (some (i64 (x.toNat:Int))) none σ K:=rfl
 rw [e,h]
 apply propext
 constructor
 ·rintro⟨_,h2,h3⟩
  exact⟨by omega,h3⟩
 ·rintro⟨h2,h3⟩
  exact⟨by omega,by omega,h3⟩
theorem wslS_hiU {K:AV→Prop} {σ:zag} (l:List (List UInt8)) (x:BitVec 64):zbA T 68 (.sl (l.map str) l.length) none (some (u64 x)) σ K=(x.toNat≤l.length∧K (.sl ((l.take x.toNat).map str) x.toNat)):=by
 simp only [zbA,T68,tySl,bnd,u64]
 apply propext
 constructor
 ·rintro⟨te,h1,h2,h3,h4,h5,h6⟩
  obtain rfl:tyStr=te:=by rw [T9] at h1;exact Option.some.inj h1
  refine⟨by omega,?_⟩
  simp only [show tyStr.size=1 from rfl,Nat.mul_one,Int.toNat_natCast,Int.toNat_zero,List.drop_zero,Nat.sub_zero,← List.map_take] at h6
  exact h6
 ·rintro⟨h2,h6⟩
  refine⟨tyStr,T9,Int.le_refl _,by omega,by omega,by simp [tyStr],?_⟩
  simp only [show tyStr.size=1 from rfl,Nat.mul_one,Int.toNat_natCast,Int.toNat_zero,List.drop_zero,Nat.sub_zero,← List.map_take]
  exact h6
theorem renL_rows (l:List (List UInt8)) (n:Nat):renL [] [.sl (l.map str) n]=some [.sl (l.map str) n]:=by simp [renL,AV.ren,zaf str zae]
theorem bd_Sx {K:AV→Prop} (x y:List AV) (n m:Nat) (b:List UInt8) (a:Int):zaQ T 24 [(0,.sl x n),(1,.sl y m),(2,str b),(3,i64 a)] K=K (.agg [.sl x n,.sl y m,str b,i64 a]):=bd_S _ _ _ _ rfl rfl rfl rfl rfl rfl rfl rfl
theorem g6' {a b:Nat} (h:¬ a < b):b≤a:=Nat.le_of_not_lt h
theorem vread_ok (b:List UInt8) (hb:b.length≤1000000):ACalls Tryz.prog 29 [str b] [] (fun y _=>y=.ret (.tup [svA (zdf b).1,i64 (zdf b).2])):=by
 have hle:=zf8 b
 obtain⟨X,hX⟩:∃ X,X=zdf b:=⟨_,rfl⟩
 rw [← hX]
 unfold zdf at hX
 refine ACalls.body T_ok Tryz.func29 (by kernel_rfl) rfl Tryz.ntmps29 (congrArg Array.toList Tryz.results29) ?_
 try simp -implicitDefEqProofs only [LM10,LB25,eq_self,zab (h:=T68),zad,zac,zaa,TB,SB,Int.reduceToNat,Nat.reduceAdd,Nat.reduceEqDiff,Nat.reduceLT,Nat.reduceMod,Nat.reducePow,Nat.reduceSub,if_true,reduceIte]
 refine(split_ok b (by omega)).pure (by simp [renL,zae]) ?_
 rintro _ σ rfl
 refine⟨zhm _ _ _,?_⟩
 generalize zaN b=sp at hX hle ⊢
 obtain⟨L,e⟩:=sp
 dsimp only at hX hle ⊢
 simp only [zgD]
 try simp -implicitDefEqProofs only [LM10,LB25,eq_self,zab (h:=T68),zad,zac,zaa,TB,SB,Int.reduceToNat,Nat.reduceAdd,Nat.reduceEqDiff,Nat.reduceLT,Nat.reduceMod,Nat.reducePow,Nat.reduceSub,if_true,reduceIte]
 by_cases he:e=0
 rotate_left
 ·rw [if_pos he] at hX
  have he2:decide (e=0)=false:=decide_eq_false he
  rw [he2]
  try simp -implicitDefEqProofs only [LM10,LB25,eq_self,zab (h:=T68),zad,zac,zaa,TB,SB,Int.reduceToNat,Nat.reduceAdd,Nat.reduceEqDiff,Nat.reduceLT,Nat.reduceMod,Nat.reducePow,Nat.reduceSub,if_true,reduceIte]
  exact zeF (by rw [hX])
 subst he
 rw [if_neg (by decide)] at hX
 have hno:okL L=false→X=(s0,5):=fun h=>by rw [hX,if_pos h]
 try simp -implicitDefEqProofs only [LM10,LB25,eq_self,zab (h:=T68),zad,zac,zaa,show decide ((0:Int)=0)=true from rfl,TB,SB,Int.reduceToNat,Nat.reduceAdd,Nat.reduceEqDiff,Nat.reduceLT,Nat.reduceMod,Nat.reducePow,Nat.reduceSub,if_true,reduceIte]
 by_cases g1:(L.length:Int) < 3
 ·rw [decide_eq_true g1]
  try simp -implicitDefEqProofs only [LM10,LB25,eq_self,zab (h:=T68),zad,zac,zaa,TB,SB,Int.reduceToNat,Nat.reduceAdd,Nat.reduceEqDiff,Nat.reduceLT,Nat.reduceMod,Nat.reducePow,Nat.reduceSub,if_true,reduceIte]
  exact zeF (by rw [hno (by rw [okL,decide_eq_false (by omega)];rfl)])
 rw [decide_eq_false g1]
 try simp -implicitDefEqProofs only [LM10,LB25,eq_self,zab (h:=T68),zad,zac,zaa,TB,SB,Int.reduceToNat,Nat.reduceAdd,Nat.reduceEqDiff,Nat.reduceLT,Nat.reduceMod,Nat.reducePow,Nat.reduceSub,if_true,reduceIte]
 rw [show ((L.length:Int).tmod 2)=((L.length % 2:Nat):Int) from rfl]
 refine⟨by decide,?_⟩
 by_cases g2:((L.length % 2:Nat):Int)=1
 rotate_left
 ·rw [decide_eq_false g2]
  try simp -implicitDefEqProofs only [LM10,LB25,eq_self,zab (h:=T68),zad,zac,zaa,TB,SB,Int.reduceToNat,Nat.reduceAdd,Nat.reduceEqDiff,Nat.reduceLT,Nat.reduceMod,Nat.reducePow,Nat.reduceSub,if_true,reduceIte]
  exact zeF (by rw [hno (by rw [okL,decide_eq_false (by omega:¬ L.length % 2=1),Bool.false_and,Bool.and_false])])
 rw [decide_eq_true g2]
 try simp -implicitDefEqProofs only [LM10,LB25,eq_self,zab (h:=T68),zad,zac,zaa,TB,SB,Int.reduceToNat,Nat.reduceAdd,Nat.reduceEqDiff,Nat.reduceLT,Nat.reduceMod,Nat.reducePow,Nat.reduceSub,if_true,reduceIte]
 refine⟨by omega,by omega,by omega,?_⟩
 by_cases g3:((L.getD 1 []).length:Int)=8
 rotate_left
 ·rw [decide_eq_false g3]
  try simp -implicitDefEqProofs only [LM10,LB25,eq_self,zab (h:=T68),zad,zac,zaa,TB,SB,Int.reduceToNat,Nat.reduceAdd,Nat.reduceEqDiff,Nat.reduceLT,Nat.reduceMod,Nat.reducePow,Nat.reduceSub,if_true,reduceIte]
  exact zeF (by rw [hno (by rw [okL,decide_eq_false (by omega:¬ (L.getD 1 []).length=8),Bool.false_and,Bool.and_false,Bool.and_false])])
 rw [decide_eq_true g3]
 try simp -implicitDefEqProofs only [LM10,LB25,eq_self,zab (h:=T68),zad,zac,zaa,TB,SB,Int.reduceToNat,Nat.reduceAdd,Nat.reduceEqDiff,Nat.reduceLT,Nat.reduceMod,Nat.reducePow,Nat.reduceSub,if_true,reduceIte]
 refine⟨by omega,by omega,by omega,?_⟩
 refine⟨fun g4=>?_,fun g4=>?_⟩
 ·exact zeF (by rw [hno (by rw [okL,decide_eq_false (by omega:¬ (L.getD 2 []).length=4),Bool.false_and,Bool.and_false,Bool.and_false,Bool.and_false])])
 obtain⟨R,hR⟩:∃ R,R=L.drop 3:=⟨_,rfl⟩
 have hRl:R.length=L.length - 3:=by rw [hR,List.length_drop]
 rw [← hR,← hRl]
 refine⟨by omega,by omega,?_⟩
 refine zcb (by kernel_rfl) (by kernel_rfl) ?_
 try simp -implicitDefEqProofs only [LM10,LB25,eq_self,zab (h:=T68),zad,zac,zaa,TB,SB,Int.reduceToNat,Nat.reduceAdd,Nat.reduceEqDiff,Nat.reduceLT,Nat.reduceMod,Nat.reducePow,Nat.reduceSub,if_true,reduceIte]
 refine⟨by omega,by omega,by omega,?_⟩
 refine zbt (zdn (L.getD 1 []) (by omega)) (by first | rfl | simp [renL,AV.ren,zaw,zaf str zae,zaL,zaB,zaA,zaj,zax,zae]) (by first | rfl | simp [AEnd.noid,AV.ren,renL,zaw,zaL,zaB,zaA,zaj,zax,zae]) ?_
 try simp -implicitDefEqProofs only [LM10,LB25,eq_self,zab (h:=T68),zad,zac,zaa,TB,SB,Int.reduceToNat,Nat.reduceAdd,Nat.reduceEqDiff,Nat.reduceLT,Nat.reduceMod,Nat.reducePow,Nat.reduceSub,if_true,reduceIte]
 refine⟨by omega,by omega,by omega,?_⟩
 refine zbt (zdn (L.getD 2 []) (by omega)) (by first | rfl | simp [renL,AV.ren,zaw,zaf str zae,zaL,zaB,zaA,zaj,zax,zae]) (by first | rfl | simp [AEnd.noid,AV.ren,renL,zaw,zaL,zaB,zaA,zaj,zax,zae]) ?_
 try simp -implicitDefEqProofs only [LM10,LB25,eq_self,zab (h:=T68),zad,zac,zaa,TB,SB,Int.reduceToNat,Nat.reduceAdd,Nat.reduceEqDiff,Nat.reduceLT,Nat.reduceMod,Nat.reducePow,Nat.reduceSub,if_true,reduceIte]
 try simp -implicitDefEqProofs only [LM10,LB25,eq_self,zab (h:=T68),zad,zac,zaa,ziG,TB,SB,Int.reduceToNat,Nat.reduceAdd,Nat.reduceEqDiff,Nat.reduceLT,Nat.reduceMod,Nat.reducePow,Nat.reduceSub,if_true,reduceIte]
 by_cases g5:1073741824 < (zaG (L.getD 1 [])).toNat
 ·rw [decide_eq_true g5]
  try simp -implicitDefEqProofs only [LM10,LB25,eq_self,zab (h:=T68),zad,zac,zaa,TB,SB,Int.reduceToNat,Nat.reduceAdd,Nat.reduceEqDiff,Nat.reduceLT,Nat.reduceMod,Nat.reducePow,Nat.reduceSub,if_true,reduceIte]
  exact zeF (by rw [hno (by rw [okL,decide_eq_false (by omega:¬ (zaG (L.getD 1 [])).toNat≤1073741824),Bool.false_and,Bool.and_false,Bool.and_false,Bool.and_false,Bool.and_false])])
 rw [decide_eq_false g5]
 try simp -implicitDefEqProofs only [LM10,LB25,eq_self,zab (h:=T68),zad,zac,zaa,ziG,TB,SB,Int.reduceToNat,Nat.reduceAdd,Nat.reduceEqDiff,Nat.reduceLT,Nat.reduceMod,Nat.reducePow,Nat.reduceSub,if_true,reduceIte]
 have hz:=read4_lt (l:=L.getD 2 []) (by omega)
 obtain⟨m,hm⟩:∃ m,m=(zaG (L.getD 2 [])).toNat:=⟨_,rfl⟩
 have e1:(2#64 * zaG (L.getD 2 [])).toNat=2 * m:=by
  rw [BitVec.toNat_mul,← hm,show (2#64).toNat=2 from rfl];omega
 have e2:(BitVec.ofInt 64 (R.length:Int)).toNat=R.length:=by
  rw [BitVec.toNat_ofInt];omega
 rw [e1,e2]
 refine⟨fun g6=>?_,fun g6=>?_⟩
 ·exact zeF (by rw [hno (by rw [okL,← hm,decide_eq_false (by omega:¬ 2 * m≤L.length - 3),Bool.and_false,Bool.and_false,Bool.and_false,Bool.and_false,Bool.and_false])])
 have hok:okL L=true:=by
  simp only [okL,← hm,Bool.and_eq_true,decide_eq_true_eq]
  exact⟨by omega,by omega,by omega,by omega,by omega,by omega⟩
 rw [if_neg (by rw [hok];decide)] at hX
 refine zhc 16 17 9 24 79 (by kernel_rfl) (by kernel_rfl) (by kernel_rfl) (by exact Nat.le_of_ble_eq_true rfl) ?_
 try simp -implicitDefEqProofs only [LM10,LB25,eq_self,zab (h:=T68),zad,zac,zaa,wslS_hiU,wslS_loU,TB,SB,Int.reduceToNat,Nat.reduceAdd,Nat.reduceEqDiff,Nat.reduceLT,Nat.reduceMod,Nat.reducePow,Nat.reduceSub,if_true,reduceIte]
 rw [e1]
 have ht:(R.take (2 * m)).length=2 * m:=by rw [List.length_take];omega
 have hd:(R.drop (2 * m)).length=R.length - 2 * m:=List.length_drop
 have hi1:=items_ok (R.take (2 * m)) (by omega) (by omega)
 have hi2:=items_ok (R.drop (2 * m)) (by omega) (by omega)
 rw [ht] at hi1
 rw [hd] at hi2
 have eB:itA (R.take (2 * m)) (2 * m / 2)=itA R m:=by
  rw [show 2 * m / 2=m by omega]
  conv=>rhs;rw [← List.take_append_drop (2 * m) R]
  rw [itA_pre ht]
 rw [eB] at hi1
 have hrd:rdS L=⟨itA R m,itA (R.drop (2 * m)) ((R.length - 2 * m) / 2),L.getD 0 [],IntKind.i64.wrap ((zaG (L.getD 1 [])).toNat:Int)⟩:=by
  rw [rdS,← hm,← hR,← hRl]
 rw [hrd] at hX
 have lB:=zbe R m
 have lC:=zbe (R.drop (2 * m)) ((R.length - 2 * m) / 2)
 generalize itA R m=B at hi1 hX lB
 generalize itA (R.drop (2 * m)) ((R.length - 2 * m) / 2)=C at hi2 hX lC
 refine⟨g6' g6,?_⟩
 refine zbt hi1 (renL_rows _ _) (by simp [AEnd.noid,zix]) ?_
 try simp -implicitDefEqProofs only [LM10,LB25,eq_self,zab (h:=T68),zad,zac,zaa,wslS_hiU,wslS_loU,TB,SB,Int.reduceToNat,Nat.reduceAdd,Nat.reduceEqDiff,Nat.reduceLT,Nat.reduceMod,Nat.reducePow,Nat.reduceSub,if_true,reduceIte]
 rw [e1]
 refine⟨g6' g6,?_⟩
 refine zbt hi2 (renL_rows _ _) (by simp [AEnd.noid,zix]) ?_
 try simp -implicitDefEqProofs only [LM10,LB25,eq_self,zab (h:=T68),zad,zac,zaa,TB,SB,Int.reduceToNat,Nat.reduceAdd,Nat.reduceEqDiff,Nat.reduceLT,Nat.reduceMod,Nat.reducePow,Nat.reduceSub,if_true,reduceIte]
 refine⟨by omega,by omega,by omega,?_⟩
 rw [zbl,zbl]
 try simp -implicitDefEqProofs only [LM10,LB25,eq_self,zab (h:=T68),zad,zac,zaa,bd_Sx,TB,SB,Int.reduceToNat,Nat.reduceAdd,Nat.reduceEqDiff,Nat.reduceLT,Nat.reduceMod,Nat.reducePow,Nat.reduceSub,if_true,reduceIte]
 refine⟨rfl,rfl,rfl,?_⟩
 have hck:=zfN ⟨B,C,L.getD 0 [],IntKind.i64.wrap ((zaG (L.getD 1 [])).toNat:Int)⟩ (by dsimp only;omega) (by dsimp only;omega)
 rw [zbZ,zbl,zbl] at hck
 dsimp only at hck
 generalize IntKind.i64.wrap ((zaG (L.getD 1 [])).toNat:Int)=nn at hck hX ⊢
 try simp -implicitDefEqProofs only [LM10,LB25,eq_self,zab (h:=T68),zad,zac,zaa,TB,SB,Int.reduceToNat,Nat.reduceAdd,Nat.reduceEqDiff,Nat.reduceLT,Nat.reduceMod,Nat.reducePow,Nat.reduceSub,if_true,reduceIte]
 refine hck.pure (by simp [renL,zaH,AV.ren,zae,zaj]) ?_
 rintro _ σ rfl
 refine⟨zaj _ _,?_⟩
 cases hc:chkS ⟨B,C,L.getD 0 [],nn⟩ with
 | false =>
  rw [hc,if_pos rfl] at hX
  rw [if_neg (by decide)]
  try simp -implicitDefEqProofs only [LM10,LB25,eq_self,zab (h:=T68),zad,zac,zaa,show decide ((1:Int)=0)=false from rfl,TB,SB,Int.reduceToNat,Nat.reduceAdd,Nat.reduceEqDiff,Nat.reduceLT,Nat.reduceMod,Nat.reducePow,Nat.reduceSub,if_true,reduceIte]
  exact zeF (by rw [hX])
 | true =>
  rw [hc,if_neg (by decide)] at hX
  rw [if_pos rfl]
  try simp -implicitDefEqProofs only [LM10,LB25,eq_self,zab (h:=T68),zad,zac,zaa,show decide ((0:Int)=0)=true from rfl,TB,SB,Int.reduceToNat,Nat.reduceAdd,Nat.reduceEqDiff,Nat.reduceLT,Nat.reduceMod,Nat.reducePow,Nat.reduceSub,if_true,reduceIte]
  exact zbd (by simp [AV.ren,renL,zaH,zae,zaj]) (by rw [hX];rfl)
end Go.Proofs.YtdmiflfhaobngaaGreatDoor
end

