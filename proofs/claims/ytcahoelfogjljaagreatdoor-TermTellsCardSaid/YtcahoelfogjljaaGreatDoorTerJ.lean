/-
  How the document reads texts and values. No condition.
-/
import Derived.Test.YtcahoelfogjljaaGreatDoorTerI
set_option linter.unusedSimpArgs false
set_option linter.unusedVariables false
set_option linter.unusedSectionVars false
section
namespace Go.Proofs.YtcahoelfogjljaaGreatDoor
open Go Go.Eng
section
variable {σ : zaa} {K : AV → Prop} {KS : AV → zaa → Prop} {id : Nat}
theorem lz_i (a:AV) (r:List AV):ld2 (some zaD) (some (a::r)) 0 K=K a:=lz0 rfl rfl a r
theorem lz_s (a:AV) (r:List AV):ld2 (some tyStr) (some (a::r)) 0 K=K a:=lz0 rfl rfl a r
theorem lz_l (e:TypeId) (a:AV) (r:List AV):ld2 (some (tySl e)) (some (a::r)) 0 K=K a:=lz0 rfl rfl a r
theorem sz_i (a:AV) (r:List AV) (off:Nat) (x:Int):st2 (some zaD) (some (.rw (a::r))) id off (i64 x) σ KS=(off < (a::r).length∧KS (.lit undef) (σ.set id (.rw ((a::r).set off (i64 x))))):=sz1 rfl a r id off _ rfl
theorem sz_s (a:AV) (r:List AV) (off:Nat) (x:List UInt8):st2 (some tyStr) (some (.rw (a::r))) id off (str x) σ KS=(off < (a::r).length∧KS (.lit undef) (σ.set id (.rw ((a::r).set off (str x))))):=sz1 rfl a r id off _ rfl
theorem sz_l (e:TypeId) (a:AV) (r:List AV) (off:Nat) (cs:List AV) (n:Nat):st2 (some (tySl e)) (some (.rw (a::r))) id off (.sl cs n) σ KS=(off < (a::r).length∧KS (.lit undef) (σ.set id (.rw ((a::r).set off (.sl cs n))))):=sz1 rfl a r id off _ rfl
theorem sz_r (e:TypeId) (a:AV) (r:List AV) (off i j n s:Nat):st2 (some (tySl e)) (some (.rw (a::r))) id off (.ref i j n s) σ KS=(off < (a::r).length∧KS (.lit undef) (σ.set id (.rw ((a::r).set off (.ref i j n s))))):=sz1 rfl a r id off _ rfl
theorem sz_n (e:TypeId) (a:AV) (r:List AV) (off:Nat):st2 (some (tySl e)) (some (.rw (a::r))) id off (.lit (.slice none 0 0)) σ KS=(off < (a::r).length∧KS (.lit undef) (σ.set id (.rw ((a::r).set off (.lit (.slice none 0 0)))))):=sz1 rfl a r id off _ rfl
end
end Go.Proofs.YtcahoelfogjljaaGreatDoor
end

section
namespace Go.Proofs.YtcahoelfogjljaaGreatDoor
open Go Go.Eng
set_option linter.defProp false in
def LB23:=And.intro @lz_i (And.intro @lz_s (And.intro @lz_l (And.intro @sz_i (And.intro @sz_s (And.intro @sz_l (And.intro @sz_r (@sz_n)))))))
section
variable {σ : zaa} {K : AV → Prop} {KS : AV → zaa → Prop} {id : Nat}
theorem bd_Se1 (i j n m:Nat) (k:Int):za1 T 124 [(0,.ref i j n m),(1,i64 k)] K=K (.agg [.ref i j n m,i64 k,bl false]):=by
 simp [za1,T124,T3,T4,T22,tySe,zbF,zaI,zb2,zb9,cells_ref,one_ref,za7,zaD,tySl,zeM]
 rfl
theorem bd_Se2 (b:Bool):za1 T 124 [(2,bl b)] K=K (.agg [.lit (.slice none 0 0),i64 0,bl b]):=by
 simp [za1,T124,T3,T4,T22,tySe,zbF,zaI,cells_bl',one_bl',za7,zaD,tySl,zeM]
 rfl
theorem lw_Se (a b c:AV):ld2 (some tySe) (some [a,b,c]) 0 K=K (.agg [a,b,c]):=lzW rfl rfl
theorem fp_Se0 (o:Nat):zaf T 124 (.ptr id o) 0 K=K (.ptr id (o+0)):=fzP T124 rfl rfl T22 (by decide) id o
theorem fp_Se1 (o:Nat):zaf T 124 (.ptr id o) 1 K=K (.ptr id (o+1)):=fzP T124 rfl rfl T3 (by decide) id o
theorem fp_Se2 (o:Nat):zaf T 124 (.ptr id o) 2 K=K (.ptr id (o+2)):=fzP T124 rfl rfl T4 (by decide) id o
theorem lz_b (a:AV) (r:List AV):ld2 (some zeM) (some (a::r)) 0 K=K a:=lz0 rfl rfl a r
theorem bs_Nd1 (n:Nd):bs2 (some tyNd) 1 [(0,nA n)] σ KS=KS (.ref σ.length 0 1 4) (σ++[.rw (nC n)]):=by
 simp [bs2,tyNd,zbF,zbV,AV.cells,za7,List.range_succ,List.replicate,zbR,zb9,nC,nA]
end
end Go.Proofs.YtcahoelfogjljaaGreatDoor
end

section
namespace Go.Proofs.YtcahoelfogjljaaGreatDoor
open Go Go.Eng
set_option linter.defProp false in
def LB24:=And.intro @bd_Se1 (And.intro @bd_Se2 (And.intro @lw_Se (And.intro @fp_Se0 (And.intro @fp_Se1 (And.intro @fp_Se2 (And.intro @lz_b (@bs_Nd1)))))))
set_option linter.defProp false in
def LM5:=And.intro LM0 (And.intro LB21 (And.intro LB23 (LB24)))
end Go.Proofs.YtcahoelfogjljaaGreatDoor
end

section
namespace Go.Proofs.YtcahoelfogjljaaGreatDoor
open Go Go.Eng
end Go.Proofs.YtcahoelfogjljaaGreatDoor
end

section
namespace Go.Proofs.YtcahoelfogjljaaGreatDoor
open Go Go.Eng
theorem zbC (K:AV→Prop):za1 T 51 [] K=K (nA ⟨0,0,[],0⟩):=by
 simp [za1,T51,T49,T2,T9,T3,tyNd,zbF,zaI,zaD,tyStr,nA,nC,i64,str]
end Go.Proofs.YtcahoelfogjljaaGreatDoor
end

section
namespace Go.Proofs.YtcahoelfogjljaaGreatDoor
open Go Go.Eng
section
variable {K : AV → Prop} {KS : AV → zaa → Prop} {σ : zaa} {id : Nat}
theorem ld_k3 (k c:Int) (t:List UInt8) (n:Int) (r:List AV):ld2 (some zaD) (some (i64 k::i64 n::str t::i64 c::r)) 3 K=K (i64 c):=by simp [ld2,wfin,zaD,TD.agg]
theorem st_k3 (k c x:Int) (t:List UInt8) (n:Int) (r:List AV):st2 (some zaD) (some (.rw (i64 k::i64 n::str t::i64 c::r))) id 3 (i64 x) σ KS=KS (.lit undef) (σ.set id (.rw (i64 k::i64 n::str t::i64 x::r))):=by simp [st2,zaD,zb2,zb9,za7]
end
end Go.Proofs.YtcahoelfogjljaaGreatDoor
end

section
namespace Go.Proofs.YtcahoelfogjljaaGreatDoor
open Go Go.Eng
set_option linter.defProp false in
def LB25:=And.intro @ld_k3 (@st_k3)
set_option linter.defProp false in
def LM9:=And.intro LM5 (LB25)
end Go.Proofs.YtcahoelfogjljaaGreatDoor
end

