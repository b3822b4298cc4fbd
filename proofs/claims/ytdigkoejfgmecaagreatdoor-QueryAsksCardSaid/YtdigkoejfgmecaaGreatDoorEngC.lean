/-
  The rules as equations, canonical values, and the step to a law. No condition.
-/
import Derived.Test.YtdigkoejfgmecaaGreatDoorEngB
import Derived.Below
import Derived.RecoverIn
import Derived.Sort.Grow
import Derived.Sort.EncStr
import Derived.Shelf.Strings.Builder1
set_option linter.unusedSimpArgs false
set_option linter.unusedVariables false
set_option linter.unusedSectionVars false
section
namespace Go.Eng
open Go
def u8 (b:UInt8):AV:=.lit (.int .u8 (b.toNat:Int))
def u32 (x:BitVec 32):AV:=.lit (.int .u32 (x.toNat:Int))
def u64 (x:BitVec 64):AV:=.lit (.int .u64 (x.toNat:Int))
def i64 (n:Int):AV:=.lit (.int .i64 n)
def bl (b:Bool):AV:=.lit (.bool b)
def str (l:List UInt8):AV:=.lit (.string ⟨l.toArray⟩)
theorem ofVal_u8 (n:Nat) (h:n < 256):zc9 (.int .u8 (no_index (OfNat.ofNat n)))=u8 (UInt8.ofNat n):=by
 simp only [zc9,u8,AV.lit.injEq,Value.int.injEq,true_and]
 rw [UInt8.toNat_ofNat',Nat.mod_eq_of_lt h]
 rfl
theorem ofVal_u32 (n:Nat) (h:n < 4294967296):zc9 (.int .u32 (no_index (OfNat.ofNat n)))=u32 (BitVec.ofNat 32 n):=by
 simp only [zc9,u32,AV.lit.injEq,Value.int.injEq,true_and]
 rw [BitVec.toNat_ofNat,Nat.mod_eq_of_lt h]
 rfl
theorem ofVal_u64 (n:Nat) (h:n < 18446744073709551616):zc9 (.int .u64 (no_index (OfNat.ofNat n)))=u64 (BitVec.ofNat 64 n):=by
 simp only [zc9,u64,AV.lit.injEq,Value.int.injEq,true_and]
 rw [BitVec.toNat_ofNat,Nat.mod_eq_of_lt h]
 rfl
theorem ofVal_i64 (n:Int):zc9 (.int .i64 n)=i64 n:=rfl
theorem ofVal_bl (b:Bool):zc9 (.bool b)=bl b:=rfl
theorem ofVal_str (l:List UInt8):zc9 (.string ⟨l.toArray⟩)=str l:=rfl
theorem wcond_bt (A B:Env→zaa→Prop) (env:Env) (σ:zaa):zhT (bl true) A B env σ=A env σ:=wcond_true A B env σ
theorem wcond_bf (A B:Env→zaa→Prop) (env:Env) (σ:zaa):zhT (bl false) A B env σ=B env σ:=wcond_false A B env σ
theorem wcond_bl (p:Bool) (A B:Env→zaa→Prop) (env:Env) (σ:zaa):zhT (bl p) A B env σ=((p=true→A env σ)∧(p=false→B env σ)):=rfl
theorem wcond_bd (p:Prop) [Decidable p] (A B:Env→zaa→Prop) (env:Env) (σ:zaa):zhT (bl (decide p)) A B env σ=((p→A env σ)∧(¬ p→B env σ)):=by
 rw [wcond_bl];simp
section
variable {T : Tab} {t : TypeId} {K : AV → Prop}
def inI (n:Int):Prop:=-9223372036854775808≤n∧n≤9223372036854775807
theorem bin_i64_add (a b:Int):wbin T .add t (i64 a) (i64 b) K=(inI (a+b)∧K (i64 (a+b))):=by simp [wbin,i64,zeH,inI]
theorem bin_i64_sub (a b:Int):wbin T .sub t (i64 a) (i64 b) K=(inI (a - b)∧K (i64 (a - b))):=by simp [wbin,i64,zeH,inI]
theorem bin_i64_mul (a b:Int):wbin T .mul t (i64 a) (i64 b) K=(inI (a * b)∧K (i64 (a * b))):=by simp [wbin,i64,zeH,inI]
theorem bin_i64_lss (a b:Int):wbin T .lss t (i64 a) (i64 b) K=K (bl (decide (a < b))):=by simp [wbin,i64,bl,zdT,cmpV]
theorem bin_i64_leq (a b:Int):wbin T .leq t (i64 a) (i64 b) K=K (bl (decide (a≤b))):=by simp [wbin,i64,bl,zdT,cmpV]
theorem bin_i64_gtr (a b:Int):wbin T .gtr t (i64 a) (i64 b) K=K (bl (decide (b < a))):=by simp [wbin,i64,bl,zdT,cmpV]
theorem bin_i64_geq (a b:Int):wbin T .geq t (i64 a) (i64 b) K=K (bl (decide (b≤a))):=by simp [wbin,i64,bl,zdT,cmpV]
theorem bin_i64_eql (a b:Int):wbin T .eql t (i64 a) (i64 b) K=K (bl (decide (a=b))):=by simp [wbin,i64,bl,zdT,cmpV]
theorem bin_i64_neq (a b:Int):wbin T .neq t (i64 a) (i64 b) K=K (bl (!decide (a=b))):=by simp [wbin,i64,bl,zdT,cmpV]
theorem zha (z:Int):IntKind.u32.wrap z=((BitVec.ofInt 32 z).toNat:Int):=by
 simp only [IntKind.wrap,IntKind.bits,IntKind.signed,Bool.false_and,Bool.false_eq_true,if_false,BitVec.toNat_ofInt]
 omega
theorem wrap_u64 (z:Int):IntKind.u64.wrap z=((BitVec.ofInt 64 z).toNat:Int):=by
 simp only [IntKind.wrap,IntKind.bits,IntKind.signed,Bool.false_and,Bool.false_eq_true,if_false,BitVec.toNat_ofInt]
 omega
theorem wrap_u8 (z:Int):IntKind.u8.wrap z=((UInt8.ofBitVec (BitVec.ofInt 8 z)).toNat:Int):=by
 simp only [IntKind.wrap,IntKind.bits,IntKind.signed,Bool.false_and,Bool.false_eq_true,if_false,UInt8.toNat_ofBitVec,BitVec.toNat_ofInt]
 omega
theorem zhU {n:Nat} (x:BitVec n):BitVec.ofInt n (x.toNat:Int)=x:=by
 rw [BitVec.ofInt_natCast,BitVec.ofNat_toNat,BitVec.setWidth_eq]
theorem bin_u32_add (x y:BitVec 32):wbin T .add t (u32 x) (u32 y) K=K (u32 (x+y)):=by
 simp [wbin,u32,zeH,zha,BitVec.ofInt_add,zhU]
theorem bin_u32_mul (x y:BitVec 32):wbin T .mul t (u32 x) (u32 y) K=K (u32 (x * y)):=by
 simp [wbin,u32,zeH,zha,BitVec.ofInt_mul,zhU]
theorem shr_val {n:Nat} (x:BitVec n) (k:Nat):((x.toNat:Int).fdiv (2 ^ (min k n)))=((x >>> k).toNat:Int):=by
 rw [BitVec.toNat_ushiftRight,Nat.shiftRight_eq_div_pow]
 have h2:((2:Int) ^ (min k n))=((2 ^ (min k n):Nat):Int):=by simp
 rw [h2,Int.fdiv_eq_ediv_of_nonneg _ (Int.natCast_nonneg _),← Int.natCast_ediv]
 congr 1
 rcases Nat.le_total k n with hk | hk
 ·rw [Nat.min_eq_left hk]
 ·rw [Nat.min_eq_right hk,Nat.div_eq_of_lt x.isLt,Nat.div_eq_of_lt (Nat.lt_of_lt_of_le x.isLt (Nat.pow_le_pow_right (by omega) hk))]
theorem bin_u64_shr' (x y:BitVec 64):wbin T .shr t (u64 x) (u64 y) K=K (u64 (x >>> y.toNat)):=by
 simp only [wbin,u64,IntKind.bits,Int.toNat_natCast,shr_val,Int.natCast_nonneg,true_and]
theorem bin_u8_eql (x y:UInt8):wbin T .eql t (u8 x) (u8 y) K=K (bl (decide (x=y))):=by simp [wbin,u8,bl,zdT,cmpV,Int.ofNat_inj,UInt8.toNat_inj]
theorem bin_u8_neq (x y:UInt8):wbin T .neq t (u8 x) (u8 y) K=K (bl (!decide (x=y))):=by simp [wbin,u8,bl,zdT,cmpV,Int.ofNat_inj,UInt8.toNat_inj]
theorem bin_u32_quo (x y:BitVec 32) (h:y≠0#32):wbin T .quo t (u32 x) (u32 y) K=K (u32 (x / y)):=by
 have hy:(y.toNat:Int)≠0:=by
  intro h0
  exact h (BitVec.eq_of_toNat_eq (by simpa using h0))
 simp only [wbin,u32,zeH,zha,true_and,ne_eq,hy,not_false_eq_true]
 rw [show BitVec.ofInt 32 ((x.toNat:Int).tdiv (y.toNat:Int))=x / y by
  rw [Int.tdiv_eq_ediv_of_nonneg (by omega),← Int.natCast_ediv,BitVec.ofInt_natCast]
  apply BitVec.eq_of_toNat_eq
  rw [BitVec.toNat_ofNat,BitVec.toNat_udiv,Nat.mod_eq_of_lt]
  exact Nat.lt_of_le_of_lt (Nat.div_le_self _ _) x.isLt]
theorem min_i64 (x y:Int):zbW false [i64 x,i64 y] K=K (i64 (min x y)):=by simp [zbW,i64]
theorem max_i64 (x y:Int):zbW true [i64 x,i64 y] K=K (i64 (max x y)):=by simp [zbW,i64]
theorem str_eql (a b:List UInt8):wbin T .eql t (str a) (str b) K=K (bl (decide (a=b))):=by simp [wbin,str,strV,bl]
theorem str_neq (a b:List UInt8):wbin T .neq t (str a) (str b) K=K (bl (!decide (a=b))):=by simp [wbin,str,strV,bl]
end
end Go.Eng
end

section
namespace Go.Eng
open Go
def zaC:TI:=⟨.int .i64,1,8,[.int .i64 0],false⟩
def zeS:TI:=⟨.bool,1,1,[.bool false],false⟩
def tyU8:TI:=⟨.int .u8,1,1,[.int .u8 0],false⟩
def tyU32:TI:=⟨.int .u32,1,4,[.int .u32 0],false⟩
def tyU64:TI:=⟨.int .u64,1,8,[.int .u64 0],false⟩
def zbf:TI:=⟨.str,1,16,[.string ⟨#[]⟩],false⟩
def tySl (e:TypeId):TI:=⟨.slice e,1,24,[.slice none 0 0],false⟩
def one1 (ti:TI) (z:AV):Prop:=ti.size=1∧ti.d.agg=false∧zaE ti.zero=[z]
theorem zc4:one1 zaC (i64 0):=⟨rfl,rfl,rfl⟩
theorem one_bool:one1 zeS (bl false):=⟨rfl,rfl,rfl⟩
theorem one_u8:one1 tyU8 (u8 0):=⟨rfl,rfl,rfl⟩
theorem zgB:one1 zbf (str []):=⟨rfl,rfl,rfl⟩
theorem one_sl (e:TypeId):one1 (tySl e) (.lit (.slice none 0 0)):=⟨rfl,rfl,rfl⟩
section
variable {T : Tab} {σ : zaa} {K : AV → Prop} {KS : AV → zaa → Prop}
def len2 (ti:Option TI) (x:AV) (K:AV→Prop):Prop :=
 match ti with
 | some ti=>match ti.d,x with
  | .str,.lit (.string s)=>K (.lit (.int .i64 s.size))
  | .array n _,_=>K (.lit (.int .i64 n))
  | .slice _,x=>match slen x with
   | some n=>K (.lit (.int .i64 n))
   | none=>False
  | _,_=>False
 | none=>False
theorem wlen_eq (t:TypeId) (x:AV):wlen T t x K=len2 (T t) x K:=rfl
theorem len_str (l:List UInt8):len2 (some zbf) (str l) K=K (i64 l.length):=rfl
theorem len_sl (e:TypeId) (cs:List AV) (n:Nat):len2 (some (tySl e)) (.sl cs n) K=K (i64 n):=rfl
theorem len_ref (e:TypeId) (id off n sz:Nat):len2 (some (tySl e)) (.ref id off n sz) K=K (i64 n):=rfl
def idx2 (T:Tab) (ti:Option TI) (x i:AV) (K:AV→Prop):Prop :=
 match ti,i with
 | some ti,.lit (.int _ n)=>match ti.d,x with
  | .str,.lit (.string s)=>0≤n∧n < s.size∧K (.lit (.int .u8 ((s.data.toList.getD n.toNat 0).toNat:Int)))
  | .array len e,.agg l=>0≤n∧n < len∧∃ te,T e=some te∧zht te l (n.toNat * te.size) K
  | _,_=>False
 | _,_=>False
theorem windex_eq (t:TypeId) (x i:AV):zeI T t x i K=idx2 T (T t) x i K:=rfl
theorem idx_str (l:List UInt8) (n:Int):idx2 T (some zbf) (str l) (i64 n) K=(0≤n∧n < l.length∧K (u8 (l.getD n.toNat 0))):=rfl
def ia3 (te:Option TI) (x:AV) (n:Int) (K:AV→Prop):Prop :=
 match te,x with
 | some te,.sl cs len=>0 < te.size∧0≤n∧n < len∧len * te.size≤cs.length∧K (.rp (cs.drop (n.toNat * te.size)))
 | some te,.ref id off len sz=>te.size=sz∧0≤n∧n < len∧K (.ptr id (off+n.toNat * sz))
 | _,_=>False
def zg5 (T:Tab) (ts td:Option TI) (x:AV) (σ:zaa) (K:AV→zaa→Prop):Prop :=
 match ts,td with
 | some ts,some td=>match td.d,x with
  | .int k,.lit (.int _ n)=>K (.lit (.int k (k.wrap n))) σ
  | .str,.lit (.string s)=>K (.lit (.string s)) σ
  | .str,x=>match ts.d with
   | .slice e=>(∃ te,T e=some te∧te.d=.int .u8)∧match asl σ 1 x with
    | some (cs,_)=>match zcz cs with
     | some bs=>K (.lit (.string ⟨bs.toArray⟩)) σ
     | none=>False
    | none=>False
   | _=>False
  | .slice e,.lit (.string s)=>ts.d=.str∧(∃ te,T e=some te∧te.d=.int .u8)∧s.size≤9223372036854775807∧K (.ref σ.length 0 s.size 1) (σ++[.rw (s.data.toList.map (fun b=>.lit (.int .u8 (b.toNat:Int))))])
  | _,_=>False
 | _,_=>False
theorem wconv_eq (s d:TypeId) (x:AV):zjb T s d x σ KS=zg5 T (T s) (T d) x σ KS:=rfl
theorem conv_i64_u64 (ts:TI) (n:Int):zg5 T (some ts) (some tyU64) (i64 n) σ KS=KS (u64 (BitVec.ofInt 64 n)) σ:=by
 simp only [zg5,tyU64,i64,u64,wrap_u64]
theorem zhV {a b:Nat} (x:BitVec a):BitVec.ofInt b (x.toNat:Int)=x.setWidth b:=by
 rw [BitVec.ofInt_natCast,BitVec.ofNat_toNat]
theorem conv_u64_u32 (ts:TI) (x:BitVec 64):zg5 T (some ts) (some tyU32) (u64 x) σ KS=KS (u32 (x.setWidth 32)) σ:=by
 simp only [zg5,tyU32,u64,u32,zha,zhV]
theorem conv_u8_i64 (ts:TI) (x:UInt8):zg5 T (some ts) (some zaC) (u8 x) σ KS=KS (i64 x.toNat) σ:=by
 simp only [zg5,zaC,i64,u8]
 rw [zft (by omega) (by have:=x.toNat_lt;omega)]
theorem zhW:∀ (l:List UInt8),zcz (l.map u8)=some l
 | []=>rfl
 | b::l=>by
  simp only [List.map_cons,u8,zcz]
  rw [zhW l]
  simp
theorem zeros_one {ti:TI} {z:AV} (h:one1 ti z) (n:Nat):zbz ti.zero n=List.replicate n z:=by
 obtain⟨_,_,h3⟩:=h
 match hz:ti.zero,h3 with
 | [v],h3 =>
  simp only [zaE,List.map_cons,List.map_nil,List.cons.injEq,and_true] at h3
  subst h3
  apply List.ext_getElem
  ·simp [zbz]
  ·intro i h1 h2
   simp [zbz,Nat.mod_one]
 | [],h3=>simp [zaE] at h3
 | a::b::r,h3=>simp [zaE] at h3
theorem zjn {ti:TI} {z:AV} (h:one1 ti z):ti.zero.length=ti.size:=by
 obtain⟨h1,_,h3⟩:=h
 have:=congrArg List.length h3
 simp [zaE] at this
 omega
theorem zhX {t:TypeId} (ht:T t=some zbf) (l:List UInt8) (a b:Int):zbi T t (str l) (some (i64 a)) (some (i64 b)) σ K=(0≤a∧a≤b∧b≤l.length∧K (str ((l.take b.toNat).drop a.toNat))):=by
 simp only [zbi,ht,zbf,str,bnd,i64]
 congr 3
 congr 2
 congr 1
 apply ByteArray.ext
 simp [ByteArray.data_extract,List.drop_take]
theorem slice_str_lo {t:TypeId} (ht:T t=some zbf) (l:List UInt8) (a:Int):zbi T t (str l) (some (i64 a)) none σ K=(0≤a∧a≤l.length∧K (str (l.drop a.toNat))):=by
 have h:=zhX (σ:=σ) (K:=K) ht l a l.length
 have e:zbi T t (str l) (some (i64 a)) none σ K=zbi T t (str l) (some (i64 a)) (some (i64 l.length)) σ K:=by
  simp only [zbi,ht,zbf,str,bnd,i64]
  rfl
 rw [e,h]
 simp
theorem slice_str_hi {t:TypeId} (ht:T t=some zbf) (l:List UInt8) (b:Int):zbi T t (str l) none (some (i64 b)) σ K=(0≤b∧b≤l.length∧K (str (l.take b.toNat))):=by
 have h:=zhX (σ:=σ) (K:=K) ht l 0 b
 have e:zbi T t (str l) none (some (i64 b)) σ K=zbi T t (str l) (some (i64 0)) (some (i64 b)) σ K:=by
  simp only [zbi,ht,zbf,str,bnd,i64]
 rw [e,h]
 simp
theorem append_ref {ts:Array TypeId} {t t1 e:TypeId} {te:TI} {z:AV} {tx:TI} (h0:ts[0]?=some t) (h1:ts[1]?=some t1) (ht:T t=some (tySl e)) (ht1:T t1=some tx) (hx:(∀ k,tx.d≠.int k)∧tx.d≠.other) (he:T e=some te) (ho:one1 te z)
  {id n:Nat} {cs xs:List AV} {m:Nat} {x:AV} (hc:σ[id]?=some (.rw cs)) (hn:n≤cs.length) (hs:asrc σ 1 x=some (xs,m)) (ho1:cs.all AV.one=true) (ho2:xs.all AV.one=true) :
  zbA T ts (.ref id 0 n 1) x σ KS=(n+m≤9223372036854775807∧(n+m) * te.bytes≤140737488355328∧KS (.ref σ.length 0 (n+m) 1) (σ.set id .dead++[.rw (cs.take n++xs)])):=by
 have hot:(cs.take n).all AV.one=true:=by
  rw [List.all_eq_true] at ho1 ⊢
  exact fun y hy=>ho1 y (List.mem_of_mem_take hy)
 simp only [zbA,h0,h1,Option.bind_some,ht,ht1,tySl,hx.1,hx.2,he,Option.some.injEq,exists_eq_left',ho.1,hs,adst,hc,if_true,Nat.mul_one,hn,zjn ho,ho2,hot,true_and,ne_eq,not_false_eq_true,implies_true]
theorem append_nil {ts:Array TypeId} {t t1 e:TypeId} {te:TI} {z:AV} {tx:TI} (h0:ts[0]?=some t) (h1:ts[1]?=some t1) (ht:T t=some (tySl e)) (ht1:T t1=some tx) (hx:(∀ k,tx.d≠.int k)∧tx.d≠.other) (he:T e=some te) (ho:one1 te z)
  {xs:List AV} {m:Nat} {x:AV} (hs:asrc σ 1 x=some (xs,m)) (ho2:xs.all AV.one=true) :
  zbA T ts (.lit (.slice none 0 0)) x σ KS=(m≤9223372036854775807∧m * te.bytes≤140737488355328∧KS (.ref σ.length 0 m 1) (σ++[.rw xs])):=by
 simp only [zbA,h0,h1,Option.bind_some,ht,ht1,tySl,hx.1,hx.2,he,Option.some.injEq,exists_eq_left',ho.1,hs,adst,zjn ho,ho2,true_and,ne_eq,not_false_eq_true,implies_true,List.all_nil,Nat.zero_add,List.nil_append]
theorem zfD {α:Type} (f:α→AV) (h:∀ a,(f a).one=true) (l:List α):(l.map f).all AV.one=true:=by
 rw [List.all_map,List.all_eq_true]
 intro x _
 exact h x
theorem zgC (b:Int):(i64 b).one=true:=rfl
theorem zeT (b:List UInt8):(str b).one=true:=rfl
theorem zc5 (e:TypeId):(∀ k,(tySl e).d≠.int k)∧(tySl e).d≠.other:=⟨fun _ h=>(by cases h),fun h=>(by cases h)⟩
end
theorem zam {α:Type} (f:α→AV) (h:∀ q a,(f a).ren q=some (f a)) (q:List Nat):∀ (l:List α),renL q (l.map f)=some (l.map f)
 | []=>rfl
 | a::l=>by simp [renL,h,zam f h q l]
theorem zcO (q:List Nat) (b:UInt8):(u8 b).ren q=some (u8 b):=rfl
theorem zbY (q:List Nat) (b:BitVec 32):(u32 b).ren q=some (u32 b):=rfl
theorem zbt (q:List Nat) (b:BitVec 64):(u64 b).ren q=some (u64 b):=rfl
theorem zac (q:List Nat) (b:Int):(i64 b).ren q=some (i64 b):=rfl
theorem zay (q:List Nat) (b:Bool):(bl b).ren q=some (bl b):=rfl
theorem zaj (q:List Nat) (b:List UInt8):(str b).ren q=some (str b):=rfl
theorem zjo {l:List UInt8} {σ:zaa} {K:AV→zaa→Prop} (h:K (str l) []):endQ 0 (str l) σ K:=zjm h
theorem zap {l:Int} {σ:zaa} {K:AV→zaa→Prop} (h:K (i64 l) []):endQ 0 (i64 l) σ K:=zjm h
theorem zaq {l:Bool} {σ:zaa} {K:AV→zaa→Prop} (h:K (bl l) []):endQ 0 (bl l) σ K:=zjm h
end Go.Eng
end

section
namespace Go.Eng
open Go
section
variable {T : Tab} {σ : zaa} {K : AV → Prop} {KS : AV → zaa → Prop}
theorem rd_rw0 (cs:List AV) (σ:zaa):rd (.rw cs::σ) 0=some cs:=rfl
theorem rd_succ (x:Blk) (σ:zaa) (n:Nat):rd (x::σ) (n+1)=rd σ n:=by simp [rd]
def st2 (ti:Option TI) (b:Option Blk) (id off:Nat) (x:AV) (σ:zaa) (K:AV→zaa→Prop):Prop :=
 match ti,b with
 | some ti,some (.rw cs)=>x.cells.length=ti.size∧off+x.cells.length≤cs.length∧x.cells.all AV.one=true∧K (.lit undef) (σ.set id (.rw (za0 cs off x.cells)))
 | some ti,some (.rt xx e cs)=>x.cells.length=ti.size∧off+x.cells.length≤cs.length∧x.cells.all AV.one=true∧K (.lit undef) (σ.set id (.rt xx e (za0 cs off x.cells)))
 | _,_=>False
theorem wstore_ptr (t:TypeId) (id off:Nat) (x:AV):zgV T t (.ptr id off) x σ KS=st2 (T t) (σ[id]?) id off x σ KS:=by
 unfold zgV st2
 cases T t with
 | none=>rfl
 | some ti =>
  simp only
  cases σ[id]? with
  | none=>rfl
  | some b=>cases b <;> rfl
theorem zjp {ti:TI} {z:AV} (h1:one1 ti z) (cs:List AV) (id off:Nat) (x:AV) (hx:x.one=true):st2 (some ti) (some (.rw cs)) id off x σ KS=(off < cs.length∧KS (.lit undef) (σ.set id (.rw (cs.set off x)))):=by
 obtain⟨h2,h3,_⟩:=h1
 have hc:x.cells=[x]:=by cases x <;> first | rfl | (cases hx;done)
 simp [st2,h2,hc,hx,za0]
 intro _
 omega
theorem st_u8 (cs:List AV) (id off:Nat) (b:UInt8):st2 (some tyU8) (some (.rw cs)) id off (u8 b) σ KS=(off < cs.length∧KS (.lit undef) (σ.set id (.rw (cs.set off (u8 b))))):=zjp one_u8 _ _ _ _ rfl
theorem st_i64 (cs:List AV) (id off:Nat) (b:Int):st2 (some zaC) (some (.rw cs)) id off (i64 b) σ KS=(off < cs.length∧KS (.lit undef) (σ.set id (.rw (cs.set off (i64 b))))):=zjp zc4 _ _ _ _ rfl
theorem st_bl (cs:List AV) (id off:Nat) (b:Bool):st2 (some zeS) (some (.rw cs)) id off (bl b) σ KS=(off < cs.length∧KS (.lit undef) (σ.set id (.rw (cs.set off (bl b))))):=zjp one_bool _ _ _ _ rfl
theorem st_str (cs:List AV) (id off:Nat) (b:List UInt8):st2 (some zbf) (some (.rw cs)) id off (str b) σ KS=(off < cs.length∧KS (.lit undef) (σ.set id (.rw (cs.set off (str b))))):=zjp zgB _ _ _ _ rfl
def ld2 (ti:Option TI) (cs:Option (List AV)) (off:Nat) (K:AV→Prop):Prop :=
 match ti,cs with
 | some ti,some cs=>wfin ti (cs.drop off) K
 | _,_=>False
theorem wload_ptr (t:TypeId) (id off:Nat):zen T t (.ptr id off) σ K=ld2 (T t) (rd σ id) off K:=by
 unfold zen ld2
 cases T t with
 | none=>rfl
 | some ti =>
  simp only
  cases rd σ id <;> rfl
theorem wload_rp (t:TypeId) (cs:List AV):zen T t (.rp cs) σ K=ld2 (T t) (some cs) 0 K:=by
 unfold zen ld2
 cases T t <;> rfl
theorem ld2_one {ti:TI} {z:AV} (h1:one1 ti z) (cs:List AV) (off:Nat):ld2 (some ti) (some cs) off K=(off < cs.length∧K ((cs[off]?).getD .bot)):=by
 obtain⟨h2,h3,_⟩:=h1
 simp [ld2,wfin,h2,h3]
 intro _
 omega
theorem ld2_map {α:Type} {ti:TI} {z:AV} (h1:one1 ti z) (f:α→AV) (d:α) (l:List α) (off:Nat):ld2 (some ti) (some (l.map f)) off K=(off < l.length∧K (f (l.getD off d))):=by
 rw [ld2_one h1]
 apply propext
 constructor
 ·rintro⟨h,k⟩
  simp only [List.length_map] at h
  exact⟨h,by simpa [h] using k⟩
 ·rintro⟨h,k⟩
  exact⟨by simpa using h,by simpa [h] using k⟩
theorem ld2_mapd {α:Type} {ti:TI} {z:AV} (h1:one1 ti z) (f:α→AV) (d:α) (l:List α) (i off:Nat):ld2 (some ti) (some ((l.map f).drop i)) off K=(i+off < l.length∧K (f (l.getD (i+off) d))):=by
 have e:ld2 (some ti) (some ((l.map f).drop i)) off K=ld2 (some ti) (some (l.map f)) (i+off) K:=by
  simp [ld2,List.drop_drop]
 rw [e,ld2_map h1]
def ia2 (T:Tab) (ti:Option TI) (x i:AV) (K:AV→Prop):Prop :=
 match ti,i with
 | some ti,.lit (.int _ n)=>match ti.d,x with
  | .slice e,.sl cs len=>∃ te,T e=some te∧0 < te.size∧0≤n∧n < len∧len * te.size≤cs.length∧K (.rp (cs.drop (n.toNat * te.size)))
  | .slice e,.ref id off len sz=>∃ te,T e=some te∧te.size=sz∧0≤n∧n < len∧K (.ptr id (off+n.toNat * sz))
  | .array len e,.ptr id off=>∃ te,T e=some te∧0≤n∧n < len∧K (.ptr id (off+n.toNat * te.size))
  | .array len e,.rp cs=>∃ te,T e=some te∧0≤n∧n < len∧K (.rp (cs.drop (n.toNat * te.size)))
  | _,_=>False
 | _,_=>False
theorem windexAddr_eq (t:TypeId) (x i:AV):zbl T t x i K=ia2 T (T t) x i K:=rfl
theorem ia2_sl (e:TypeId) (x:AV) (n:Int):ia2 T (some (tySl e)) x (i64 n) K=ia3 (T e) x n K:=by
 simp only [ia2,tySl,i64]
 cases x <;> simp only [ia3] <;> (cases hT:T e <;> simp)
theorem zjq {te:TI} {z:AV} (h1:one1 te z) (id off len:Nat) (n:Int):ia3 (some te) (.ref id off len 1) n K=(0≤n∧n < len∧K (.ptr id (off+n.toNat))):=by
 simp only [ia3,h1.1,true_and,Nat.mul_one]
theorem ia3_sl1 {te:TI} {z:AV} (h1:one1 te z) {α:Type} (f:α→AV) (l:List α) (n:Int):ia3 (some te) (.sl (l.map f) l.length) n K=(0≤n∧n < l.length∧K (.rp ((l.map f).drop n.toNat))):=by
 simp [ia3,h1.1]
theorem ia_ref_u8 (id off len:Nat) (n:Int):ia3 (some tyU8) (.ref id off len 1) n K=(0≤n∧n < len∧K (.ptr id (off+n.toNat))):=zjq one_u8 _ _ _ _
def conv3 (te:Option TI) (x:AV) (σ:zaa) (K:AV→zaa→Prop):Prop :=
 (∃ t,te=some t∧t.d=.int .u8)∧match asl σ 1 x with
    | some (cs,_)=>match zcz cs with
     | some bs=>K (.lit (.string ⟨bs.toArray⟩)) σ
     | none=>False
    | none=>False
theorem conv2_sl_ref (e:TypeId) (id off n sz:Nat):zg5 T (some (tySl e)) (some zbf) (.ref id off n sz) σ KS=conv3 (T e) (.ref id off n sz) σ KS:=rfl
def conv4 (cs:Option (List AV)) (off n:Nat) (σ:zaa) (K:AV→zaa→Prop):Prop :=
 match cs with
 | some cs=>off+n≤cs.length∧match zcz ((cs.drop off).take n) with
  | some bs=>K (.lit (.string ⟨bs.toArray⟩)) σ
  | none=>False
 | none=>False
theorem conv3_ref (id off n:Nat):conv3 (some tyU8) (.ref id off n 1) σ KS=conv4 (rd σ id) off n σ KS:=by
 simp only [conv3,asl,if_true,tyU8]
 cases rd σ id with
 | none=>simp [conv4]
 | some cs =>
  simp only [conv4,Option.bind_some,Nat.mul_one]
  by_cases h:off+n≤cs.length <;> simp [h]
theorem conv4_map (l:List UInt8) (off n:Nat):conv4 (some (l.map u8)) off n σ KS=(off+n≤l.length∧KS (str ((l.drop off).take n)) σ):=by
 simp only [conv4,← List.map_drop,← List.map_take,zhW,List.length_map]
 rfl
def mk2 (te:Option TI) (l c:Int) (σ:zaa) (K:AV→zaa→Prop):Prop :=
 match te with
 | some te=>te.zero.length=te.size∧0≤l∧l≤c∧c≤9223372036854775807∧c * te.bytes≤281474976710656∧K (.ref σ.length 0 l.toNat te.size) (σ++[.rw (zbz te.zero l.toNat)])
 | none=>False
def mk1 (T:Tab) (ti:Option TI) (l c:AV) (σ:zaa) (K:AV→zaa→Prop):Prop :=
 match ti,l,c with
 | some ti,.lit (.int _ l),.lit (.int _ c)=>match ti.d with
  | .slice e=>∃ te,T e=some te∧te.zero.length=te.size∧0≤l∧l≤c∧c≤9223372036854775807∧c * te.bytes≤281474976710656∧K (.ref σ.length 0 l.toNat te.size) (σ++[.rw (zbz te.zero l.toNat)])
  | _=>False
 | _,_,_=>False
theorem wmake_eq (t:TypeId) (l c:AV):zjZ T t l c σ KS=mk1 T (T t) l c σ KS:=rfl
theorem mk1_sl (e:TypeId) (l c:Int):mk1 T (some (tySl e)) (i64 l) (i64 c) σ KS=mk2 (T e) l c σ KS:=by
 simp only [mk1,tySl,i64,mk2]
 cases T e <;> simp
theorem mk2_one {te:TI} {z:AV} (h1:one1 te z) (l c:Int):mk2 (some te) l c σ KS=(0≤l∧l≤c∧c≤9223372036854775807∧c * te.bytes≤281474976710656∧KS (.ref σ.length 0 l.toNat 1) (σ++[.rw (List.replicate l.toNat z)])):=by
 simp only [mk2,zjn h1,zeros_one h1,h1.1,true_and]
def sl2 (ti:Option TI) (x:AV) (lo hi:Option AV) (K:AV→Prop):Prop :=
 match ti with
 | none=>False
 | some ti=>match ti.d,x with
  | .str,.lit (.string s)=>match bnd 0 lo,bnd s.size hi with
   | some l,some h=>0≤l∧l≤h∧h≤s.size∧K (.lit (.string (s.extract l.toNat h.toNat)))
   | _,_=>False
  | _,_=>False
theorem slice_str_eq (t:TypeId) (l:List UInt8) (lo hi:Option AV) (h:T t=some zbf):zbi T t (str l) lo hi σ K=sl2 (some zbf) (str l) lo hi K:=by
 simp only [zbi,h]
 rfl
theorem sl2_both (l:List UInt8) (a b:Int):sl2 (some zbf) (str l) (some (i64 a)) (some (i64 b)) K=(0≤a∧a≤b∧b≤l.length∧K (str ((l.take b.toNat).drop a.toNat))):=by
 have h:=zhX (T:=fun _=>some zbf) (t:=0) (σ:=[]) (K:=K) rfl l a b
 rw [← h]
 rfl
theorem sl2_lo (l:List UInt8) (a:Int):sl2 (some zbf) (str l) (some (i64 a)) none K=(0≤a∧a≤l.length∧K (str (l.drop a.toNat))):=by
 have h:=slice_str_lo (T:=fun _=>some zbf) (t:=0) (σ:=[]) (K:=K) rfl l a
 rw [← h]
 rfl
theorem sl2_hi (l:List UInt8) (b:Int):sl2 (some zbf) (str l) none (some (i64 b)) K=(0≤b∧b≤l.length∧K (str (l.take b.toNat))):=by
 have h:=slice_str_hi (T:=fun _=>some zbf) (t:=0) (σ:=[]) (K:=K) rfl l b
 rw [← h]
 rfl
def bs2 (te:Option TI) (n:Nat) (ps:List (Nat × AV)) (σ:zaa) (K:AV→zaa→Prop):Prop :=
 match te with
 | some te=>te.zero.length=te.size∧n≤16777216∧n * te.size≤16777216∧match zbo (fun i=>some (i * te.size,te.size)) (zbz te.zero n) ps with
   | some cs=>K (.ref σ.length 0 n te.size) (σ++[.rw cs])
   | none=>False
 | none=>False
def bs1 (T:Tab) (ti:Option TI) (n:Nat) (ps:List (Nat × AV)) (σ:zaa) (K:AV→zaa→Prop):Prop :=
 match ti with
 | some ti=>match ti.d with
  | .slice e=>∃ te,T e=some te∧te.zero.length=te.size∧n≤16777216∧n * te.size≤16777216∧match zbo (fun i=>some (i * te.size,te.size)) (zbz te.zero n) ps with
   | some cs=>K (.ref σ.length 0 n te.size) (σ++[.rw cs])
   | none=>False
  | _=>False
 | none=>False
theorem wbuildSlice_eq (t:TypeId) (n:Nat) (ps:List (Nat × AV)):zbL T t n ps σ KS=bs1 T (T t) n ps σ KS:=rfl
theorem bs1_sl (e:TypeId) (n:Nat) (ps:List (Nat × AV)):bs1 T (some (tySl e)) n ps σ KS=bs2 (T e) n ps σ KS:=by
 simp only [bs1,tySl,bs2]
 cases T e <;> simp
end
end Go.Eng
end

section
namespace Go.Eng
open Go
section
variable [Globs] {P : Program} {T : Tab} {σ : zaa} {K : AV → Prop} {KS : AV → zaa → Prop}
def qBoth (P:Program) (T:Tab) (ops:Array Oper) (σ:zaa) (d:Option Tmp) (op:Op) (rest:List Oper) (env:Env) (Q:Env→Prop):Bool→Prop
 | true=>Qop P T op (zaN env) σ (wqK P T ops σ rest env d Q)
 | false=>wq P T ops σ rest (aput env d (.lit undef)) Q
theorem qBoth_true (ops:Array Oper) (d:Option Tmp) (op:Op) (rest:List Oper) (env:Env) (Q:Env→Prop):qBoth P T ops σ d op rest env Q true=Qop P T op (zaN env) σ (wqK P T ops σ rest env d Q):=rfl
theorem qBoth_false (ops:Array Oper) (d:Option Tmp) (op:Op) (rest:List Oper) (env:Env) (Q:Env→Prop):qBoth P T ops σ d op rest env Q false=wq P T ops σ rest (aput env d (.lit undef)) Q:=rfl
def gGo (x:AV) (want:Bool) (A:Bool→Prop):Prop :=
 match x with
 | .lit (.bool b)=>(b=want→A true)∧(b≠want→A false)
 | .lit (.tuple _)=>A false
 | _=>False
def gSlot (d:Option Tmp) (env:Env) (want:Bool) (A:Bool→Prop):Prop :=
 match d with
 | none=>A false
 | some t=>gGo ((env[t]?).getD .bot) want A
theorem gSlot_some (t:Tmp) (env:Env) (want:Bool) (A:Bool→Prop):gSlot (some t) env want A=gGo ((env[t]?).getD .bot) want A:=rfl
theorem gGo_tt (A:Bool→Prop):gGo (bl true) true A=A true:=by simp [gGo,bl]
theorem gGo_ft (A:Bool→Prop):gGo (bl false) true A=A false:=by simp [gGo,bl]
theorem gGo_tf (A:Bool→Prop):gGo (bl true) false A=A false:=by simp [gGo,bl]
theorem gGo_ff (A:Bool→Prop):gGo (bl false) false A=A true:=by simp [gGo,bl]
theorem gGo_undef (want:Bool) (A:Bool→Prop):gGo (.lit undef) want A=A false:=rfl
theorem wq_guarded (l:List Oper) (d:Option Tmp) (op:Op) (ty:TypeId) (pos:String) (after:Array Edge) (j:Nat) (want:Bool) (rest:List Oper) (env:Env) (Q:Env→Prop):wq P T l.toArray σ ({ dst:=d,op:=op,type:=ty,pos:=pos,after:=after,guard:=some (j,want) }::rest) env Q =
  gSlot ((l[j]?).bind (·.dst)) env want (qBoth P T l.toArray σ d op rest env Q):=by
 simp only [wq,zb6,List.getElem?_toArray]
 cases (l[j]?).bind (·.dst) <;> rfl
def oBoth (P:Program) (T:Tab) (ops:Array Oper) (d:Option Tmp) (op:Op) (rest:List Oper) (env:Env) (σ:zaa) (Q:Post):Bool→Prop
 | true=>Wop P T op (zaN env) σ (opsK (wops P T ops rest) env d Q) (panK env Q)
 | false=>wops P T ops rest (aput env d (.lit undef)) σ Q
theorem oBoth_true (ops:Array Oper) (d:Option Tmp) (op:Op) (rest:List Oper) (env:Env) (Q:Post):oBoth P T ops d op rest env σ Q true=Wop P T op (zaN env) σ (opsK (wops P T ops rest) env d Q) (panK env Q):=rfl
theorem oBoth_false (ops:Array Oper) (d:Option Tmp) (op:Op) (rest:List Oper) (env:Env) (Q:Post):oBoth P T ops d op rest env σ Q false=wops P T ops rest (aput env d (.lit undef)) σ Q:=rfl
theorem wops_guarded (l:List Oper) (d:Option Tmp) (op:Op) (ty:TypeId) (pos:String) (after:Array Edge) (j:Nat) (want:Bool) (rest:List Oper) (env:Env) (Q:Post):wops P T l.toArray ({ dst:=d,op:=op,type:=ty,pos:=pos,after:=after,guard:=some (j,want) }::rest) env σ Q =
  gSlot ((l[j]?).bind (·.dst)) env want (oBoth P T l.toArray d op rest env σ Q):=by
 simp only [wops,zb6,List.getElem?_toArray]
 cases (l[j]?).bind (·.dst) <;> rfl
theorem pick_true (a b:AV):zgv (bl true) a b K=K a:=by simp [zgv,bl]
theorem pick_false (a b:AV):zgv (bl false) a b K=K b:=by simp [zgv,bl]
def qb2 (te:Option TI) (n:Nat) (ps:List (Nat × AV)) (K:AV→Prop):Prop :=
 match te with
 | some te=>te.zero.length=te.size∧n≤16777216∧n * te.size≤16777216∧match zbo (fun i=>some (i * te.size,te.size)) (zbz te.zero n) ps with
   | some cs=>K (.sl cs n)
   | none=>False
 | none=>False
def qb1 (T:Tab) (ti:Option TI) (n:Nat) (ps:List (Nat × AV)) (K:AV→Prop):Prop :=
 match ti with
 | some ti=>match ti.d with
  | .slice e=>∃ te,T e=some te∧te.zero.length=te.size∧n≤16777216∧n * te.size≤16777216∧match zbo (fun i=>some (i * te.size,te.size)) (zbz te.zero n) ps with
   | some cs=>K (.sl cs n)
   | none=>False
  | _=>False
 | none=>False
theorem qbuildSlice_eq (t:TypeId) (n:Nat) (ps:List (Nat × AV)):zb7 T t n ps K=qb1 T (T t) n ps K:=rfl
theorem qb1_sl (e:TypeId) (n:Nat) (ps:List (Nat × AV)):qb1 T (some (tySl e)) n ps K=qb2 (T e) n ps K:=by
 simp only [qb1,tySl,qb2]
 cases T e <;> simp
end
variable [Globs]
theorem zab {n0 : Nat} {env env' : Env} {σ σ' : zaa} {q : List Nat} (h1 : q.length = σ'.length) (h2 : q.take n0 = List.range n0) (h3 : q.Nodup) (h4 : leR q env env') (h5 : zaw σ q q σ') : fits n0 env σ env' σ' := ⟨_, _, .refl _ _, .inr ⟨q, h1, h2, h3, h4, h5⟩⟩
theorem leR_nil (q:List Nat):leR q [] []=True:=rfl
theorem leR_bot (q:List Nat) (a:AV) (l r:Env):leR q (a::l) (.bot::r)=leR q l r:=by simp [leR]
theorem leR_cons (q:List Nat) (a b:AV) (l r:Env):leR q (a::l) (b::r)=((b=.bot∨b.ren q=some a)∧leR q l r):=rfl
theorem zfE (q:List Nat) (a:AV) (v:Value) (l r:Env):leR q (a::l) (.lit v::r)=(.lit v=a∧leR q l r):=by simp [leR,AV.ren]
theorem leR_u8 (q:List Nat) (a:AV) (b:UInt8) (l r:Env):leR q (a::l) (u8 b::r)=(u8 b=a∧leR q l r):=zfE _ _ _ _ _
theorem leR_u32 (q:List Nat) (a:AV) (b:BitVec 32) (l r:Env):leR q (a::l) (u32 b::r)=(u32 b=a∧leR q l r):=zfE _ _ _ _ _
theorem leR_u64 (q:List Nat) (a:AV) (b:BitVec 64) (l r:Env):leR q (a::l) (u64 b::r)=(u64 b=a∧leR q l r):=zfE _ _ _ _ _
theorem leR_i64 (q:List Nat) (a:AV) (b:Int) (l r:Env):leR q (a::l) (i64 b::r)=(i64 b=a∧leR q l r):=zfE _ _ _ _ _
theorem leR_bl (q:List Nat) (a:AV) (b:Bool) (l r:Env):leR q (a::l) (bl b::r)=(bl b=a∧leR q l r):=zfE _ _ _ _ _
theorem leR_str (q:List Nat) (a:AV) (b:List UInt8) (l r:Env):leR q (a::l) (str b::r)=(str b=a∧leR q l r):=zfE _ _ _ _ _
theorem keepB_nil (σ:zaa) (q:List Nat):zaw σ q [] []=True:=rfl
omit [Globs] in
theorem zhb {α:Type} (f:α→AV) (hf:∀ q a,(f a).ren q=some (f a)) (σ:zaa) (q:List Nat) (k:Nat) (ks:List Nat) (l:List α) (xs:zaa):zaw σ q (k::ks) (.rw (l.map f)::xs)=(σ[k]?=some (.rw (l.map f))∧zaw σ q ks xs):=by
 simp [zaw,Blk.ren,zam f hf]
theorem keepB_dead (σ:zaa) (q:List Nat) (k:Nat) (ks:List Nat) (xs:zaa):zaw σ q (k::ks) (.dead::xs)=zaw σ q ks xs:=by
 simp [zaw]
theorem u32_inj (x y:BitVec 32):(u32 x=u32 y)=(x=y):=by simp [u32,Int.ofNat_inj,BitVec.toNat_inj]
theorem u64_inj (x y:BitVec 64):(u64 x=u64 y)=(x=y):=by simp [u64,Int.ofNat_inj,BitVec.toNat_inj]
theorem u8_inj (x y:UInt8):(u8 x=u8 y)=(x=y):=by simp [u8,Int.ofNat_inj,UInt8.toNat_inj]
theorem i64_inj (x y:Int):(i64 x=i64 y)=(x=y):=by simp [i64]
theorem bl_inj (x y:Bool):(bl x=bl y)=(x=y):=by simp [bl]
theorem str_inj (x y:List UInt8):(str x=str y)=(x=y):=by simp [str]
theorem wcond_bnd (p:Prop) [Decidable p] (A B:Env→zaa→Prop) (env:Env) (σ:zaa):zhT (bl (!decide p)) A B env σ=((¬ p→A env σ)∧(p→B env σ)):=by simp [zhT,bl]
theorem bs_i64_1 {σ:zaa} {KS:AV→zaa→Prop} (a:Int):bs2 (some zaC) 1 [(0,i64 a)] σ KS=KS (.ref σ.length 0 1 1) (σ++[.rw ([a].map i64)]):=by
 simp [bs2,zaC,zbo,zbz,AV.cells,i64,za0,AV.one,Value.oneCell']
theorem bs_str_1 {σ:zaa} {KS:AV→zaa→Prop} (a:List UInt8):bs2 (some zbf) 1 [(0,str a)] σ KS=KS (.ref σ.length 0 1 1) (σ++[.rw ([a].map str)]):=by
 simp [bs2,zbf,zbo,zbz,AV.cells,str,za0,AV.one,Value.oneCell']
theorem zaG {α:Type} {T:Tab} (f:α→AV) (hf:∀ a,(f a).one=true) {ts:Array TypeId} {t t1 e:TypeId} {te:TI} {z:AV} {tx:TI} (h0:ts[0]?=some t) (h1:ts[1]?=some t1) (ht:T t=some (tySl e)) (ht1:T t1=some tx) (hx:(∀ k,tx.d≠.int k)∧tx.d≠.other) (he:T e=some te) (ho:one1 te z)
  {id n:Nat} {l ys:List α} {m:Nat} {x:AV} {σ:zaa} {KS:AV→zaa→Prop} (hc:σ[id]?=some (.rw (l.map f))) (hn:n=l.length) (hs:asrc σ 1 x=some (ys.map f,m)) (g1:n+m≤9223372036854775807) (g2:(n+m) * te.bytes≤140737488355328)
  (hk:KS (.ref σ.length 0 (n+m) 1) (σ.set id .dead++[.rw ((l++ys).map f)])):zbA T ts (.ref id 0 n 1) x σ KS:=by
 rw [append_ref h0 h1 ht ht1 hx he ho hc (by simp [hn]) hs (zfD f hf l) (zfD f hf ys)]
 refine⟨g1,g2,?_⟩
 rw [List.take_of_length_le (by simp [hn]),← List.map_append]
 exact hk
theorem zcg {P:Program} {f:FuncId} {as9:List AV} {σ:zaa} {v:AV} {K:AV→Prop} (h:ACalls P f as9 [] (fun y _=>y=.ret v)) (ha:renL [] as9=some as9) (hv:(AEnd.ret v).noid) (hk:K v):exq (callV P f as9 σ) K :=
 ⟨v,h.pure ha (by rintro _ _ rfl;exact⟨hv,rfl,rfl⟩),hk⟩
theorem un_not (b:Bool) {K:AV→Prop}:wun .not (bl b) K=K (bl (!b)):=rfl
theorem bin_bl_eql {T:Tab} {t:TypeId} {K:AV→Prop} (ht:T t=some zeS) (a b:Bool):wbin T .eql t (bl a) (bl b) K=K (bl (a == b)):=by
 simp [wbin,bl,ht,zeS]
end Go.Eng
end

section
namespace Go.Eng
open Go
structure Vc (α:Type) (n:Nat) where
 l:List α
 h:l.length=n
def Vc.rep {α:Type} (n:Nat) (x:α):Vc α n:=⟨List.replicate n x,by simp⟩
def Vc.set {α:Type} {n:Nat} (v:Vc α n) (i:Nat) (x:α):Vc α n:=⟨v.l.set i x,by simp [v.h]⟩
theorem Vc.ext {α:Type} {n:Nat} {a b:Vc α n} (h:a.l=b.l):a=b:=by
 cases a;cases b;cases h;rfl
def zhY (n:Nat) (e:TypeId) (te:TI):TI:=⟨.array n e,n * te.size,n * te.bytes,(List.replicate n te.zero).flatten,false⟩
def zf6 (e:TypeId):TI:=⟨.ptr e,1,8,[.pointer none],false⟩
def tyFn:TI:=⟨.other,1,8,[.nilFunc],false⟩
section
variable {T : Tab} {σ : zaa} {K : AV → Prop} {KS : AV → zaa → Prop}
theorem box_ptr {eB:TypeId} (id off:Nat):wbox eB (.ptr id off) σ KS=KS (.ptr σ.length 0) (σ++[.rw [.ptr id off]]):=by
 simp [wbox,zdo,AV.cells,AV.one]
theorem box_i64 {eB:TypeId} (n:Int):wbox eB (i64 n) σ KS=KS (.ptr σ.length 0) (σ++[.rw [i64 n]]):=by
 simp [wbox,zdo,i64,AV.cells,AV.one,Value.oneCell']
def al1 (T:Tab) (e:TypeId) (ti:Option TI) (σ:zaa) (KS:AV→zaa→Prop):Prop :=
 match ti with
 | some te=>match te.d with
  | .bld fs=>te.zero=[.pointer none,.slice none 0 0]∧∃ ta tb tc,fs=[(ta,0),(tb,1)]∧T tb=some tc∧∃ eb,tc.d=.slice eb∧KS (.ptr σ.length 0) (σ++[.rt true e [.lit (.pointer none),.bsl (σ.length+1) 0]]++[.rt false eb []])
  | _=>KS (.ptr σ.length 0) (σ++[.rw (zaE te.zero)])
 | none=>False
theorem walloc_eq (e:TypeId):zhw T e σ KS=al1 T e (T e) σ KS:=rfl
theorem ext_0 (a:AV) (l:List AV):zcd (.tup (a::l)) 0 K=K a:=rfl
theorem ext_1 (a b:AV) (l:List AV):zcd (.tup (a::b::l)) 1 K=K b:=rfl
theorem ext_2 (a b c:AV) (l:List AV):zcd (.tup (a::b::c::l)) 2 K=K c:=rfl
theorem ld_ptr (e:TypeId) (id off:Nat):ld2 (some (zf6 e)) (some [.ptr id off]) 0 K=K (.ptr id off):=by
 simp [ld2,wfin,zf6,TD.agg]
end
theorem zas {n0:Nat} {r:AV} {σ:zaa} {K:AV→zaa→Prop} (h:K r σ):endQ n0 r σ K:=.inr (.inr (.inr h))
theorem zcs (q:List Nat) (l:List (BitVec 32)):renL q (l.map u32)=some (l.map u32):=zam u32 zbY q l
theorem zbI {n0:Nat} {env env':Env} {σ:zaa} (h:leI env env'):fits n0 env σ env' σ:=⟨_,_,.refl _ _,.inl ⟨rfl,h⟩⟩
theorem leI_nil:leI [] []=True:=rfl
theorem leI_bot (a:AV) (l r:Env):leI (a::l) (.bot::r)=leI l r:=by simp [leI]
theorem leI_cons (a b:AV) (l r:Env):leI (a::l) (b::r)=((b=.bot∨b=a)∧leI l r):=rfl
theorem leI_same (a:AV) (l r:Env):leI (a::l) (a::r)=leI l r:=by simp [leI]
end Go.Eng
end

section
namespace Go.Eng
open Go Go.RowKit
theorem ACalls.law [Globs] {P:Program} {f:FuncId} {as9:List AV} (h:ACalls P f as9 [] (fun y _=>y=.ret (bl true))) {w:World} {vs:Array Value} (hc:zaW P f=true) (hg:Glob w (own (fun _=>False) [] [])) (hr:reps w (own (fun _=>False) [] []) [] as9 vs.toList) :
  Calls P f vs w fun e w'=>e=.returned (.bool true)∧Below w.heap.size w w':=by
 have s0:St (fun _=>False) w [] []:=St.none fun b hb=>hb.elim
 refine(CallsR.calls (h (fun _=>False) w [] vs hg s0 hr) hc).mono ?_
 rintro e w' ⟨x, m', σ', h1, h2, h3, rfl⟩
 refine⟨?_,h2.os,h2.tape,h2.output,h2.heap,fun k hk=>h2.same k hk ?_⟩
 ·cases e <;> simp only [zb5] at h3
  simp only [bl,rep] at h3
  first | rw [h3] | exact congrArg _ h3
 ·rintro(hb | ⟨i,cs,hi,_⟩)
  ·exact hb
  ·simp at hi
theorem rep_i64 {w:World} {O:Nat→Prop} {m:Ids} (x:Int):rep w O m (i64 x) (.int .i64 x):=by simp only [i64,rep]
theorem rep_str {w:World} {O:Nat→Prop} {m:Ids} (x:ByteArray):rep w O m (str x.data.toList) (.string x):=by
 simp only [str,rep]
end Go.Eng
end

section
namespace Go.Eng
open Go
section
variable {T : Tab} {σ : zaa} {K : AV → Prop} {KS : AV → zaa → Prop}
end
end Go.Eng
end

section
/-
 Interfaces,and slices with a third bound,as9 equations. No condition.
-/
namespace Go.Eng
open Go
def tyI:TI:=⟨.iface,1,16,[.nilIface],false⟩
section
variable [Globs] {P : Program} {T : Tab} {σ : zaa} {K : AV → Prop} {KS Kp : AV → zaa → Prop}
def nilc2 (ti:Option TI) (op:BinOp) (b:Option Bool) (K:AV→Prop):Prop :=
 match ti with
 | some ti=>ti.d=.iface∧match op,b with
  | .eql,some b=>K (.lit (.bool b))
  | .neq,some b=>K (.lit (.bool (!b)))
  | _,_=>False
 | none=>False
theorem wnilc_eq (op:BinOp) (t:TypeId) (x:AV):zjc T op t x K=nilc2 (T t) op (zhA x) K:=rfl
theorem isNilB_ifc (t:TypeId) (v:AV):zhA (.ifc t v)=some false:=rfl
theorem isNilB_nil:zhA (.lit .nilIface)=some true:=rfl
theorem nilc2_nt:nilc2 (some tyI) .neq (some true) K=K (bl false):=by simp [nilc2,tyI,bl]
theorem nilc2_nf:nilc2 (some tyI) .neq (some false) K=K (bl true):=by simp [nilc2,tyI,bl]
def mkI2 (ti:Option TI) (t:TypeId) (x:AV) (K:AV→Prop):Prop :=
 match ti with
 | some ti=>ti.d.conc=true∧K (.ifc t x)
 | none=>False
theorem wmkI_eq (t:TypeId) (x:AV):wmkI T t x K=mkI2 (T t) t x K:=rfl
theorem mkI2_some {ti:TI} (h:ti.d.conc=true) (t:TypeId) (x:AV):mkI2 (some ti) t x K=K (.ifc t x):=by simp [mkI2,h]
def app2 (T:Tab) (tx:Option TI) (t u:TypeId) (s x:AV) (σ:zaa) (K:AV→zaa→Prop):Prop :=
 match tx with
 | some tx=>if tx.d.isInt=true then wappZ T t s x σ K else zbA T #[t,u] s x σ K
 | none=>False
theorem wappO_eq (t u:TypeId) (s x:AV):wappO T #[t,u] s x σ KS=app2 T (T u) t u s x σ KS:=rfl
theorem app2_sl (e t u:TypeId) (s x:AV):app2 T (some (tySl e)) t u s x σ KS=zbA T #[t,u] s x σ KS:=by simp [app2,tySl,TD.isInt]
def nils2 (ti:Option TI) (op:BinOp) (x:AV) (K:AV→Prop):Prop :=
 match ti with
 | some ti=>(∃ e,ti.d=.slice e)∧match op,x with
  | .eql,.lit (.slice none 0 0)=>K (.lit (.bool true))
  | .neq,.lit (.slice none 0 0)=>K (.lit (.bool false))
  | .eql,.sl cs _=>∀ b:Bool,(b=true→cs=[])→K (.lit (.bool b))
  | .neq,.sl cs _=>∀ b:Bool,(b=true→cs=[])→K (.lit (.bool (!b)))
  | .eql,.ref _ _ n _=>∀ b:Bool,(b=true→n=0)→K (.lit (.bool b))
  | .neq,.ref _ _ n _=>∀ b:Bool,(b=true→n=0)→K (.lit (.bool (!b)))
  | _,_=>False
 | none=>False
theorem wnils_eq (op:BinOp) (t:TypeId) (x:AV):zkd T op t x K=nils2 (T t) op x K:=rfl
theorem nils2_es (e:TypeId) (cs:List AV) (n:Nat):nils2 (some (tySl e)) .eql (.sl cs n) K=∀ b:Bool,(b=true→cs=[])→K (bl b):=by simp [nils2,tySl,bl]
end
end Go.Eng
end

section
/-
 The rules of a step,in bundles. No condition.
-/
set_option linter.defProp false
namespace Go.Eng
open Go
def sb0:=And.intro @W_skip (And.intro @W_region (And.intro @W_seq (And.intro @W_cond (And.intro @W_block (And.intro @W_exit (And.intro @W_ret (And.intro @W_range (And.intro @wrange_fn (And.intro @kont_eq (And.intro @wcond_bt (And.intro @wcond_bf (And.intro @seqQ_normal (And.intro @seqQ_exit (And.intro @seqQ_ret (And.intro @seqQ_pan (And.intro @blockQ_normal (And.intro @blockQ_exit (And.intro @blockQ_ret (And.intro @blockQ_pan (And.intro @loopQ_exit (And.intro @loopQ_ret (And.intro @loopQ_pan (And.intro @wops_nil (And.intro @wops_one (And.intro @opsK_eq (And.intro @panK_eq (@aput_some)))))))))))))))))))))))))))
def sb1:=And.intro @aput_none (And.intro @treeK_eq (And.intro @wtree_done (And.intro @wtree_nil (And.intro @wtree_br (And.intro @wtop_some (And.intro @fitQ_eq (And.intro @aeval_tmp (And.intro @aeval_func (And.intro @aeval_const (And.intro @ofVal_i64 (And.intro @ofVal_u8 (And.intro @ofVal_u32 (And.intro @ofVal_u64 (And.intro @ofVal_bl (And.intro @ofVal_str (And.intro @ofVal_slice (And.intro @ofVal_pointer (And.intro @onS_eq (And.intro @Wop_move (And.intro @Wop_assign (And.intro @Wop_alloc (And.intro @Wop_box (And.intro @Wop_build (And.intro @Wop_buildSlice (And.intro @Wop_load (@Wop_store))))))))))))))))))))))))))
def sb2:=And.intro @zgX (And.intro @wnil_ptr (And.intro @Wop_binOp (And.intro @wbW_tmp (And.intro @wbW_int (And.intro @wbW_str (And.intro @wbW_nil (And.intro @wbW_nils (And.intro @qbW_tmp (@qbW_int)))))))))
def sb3:=And.intro @wappO_eq (And.intro @app2_sl (And.intro @wnils_eq (And.intro @nils2_es (And.intro @Wop_mkI (And.intro @Wop_unOp (And.intro @Wop_convert (And.intro @Wop_makeFunc (And.intro @Wop_makeSlice (@Wop_slice)))))))))
def sb4:=And.intro @Wop_fieldAddr (And.intro @Wop_field (And.intro @Wop_indexAddr (And.intro @Wop_index (And.intro @Wop_extract (And.intro @Wop_call (And.intro @wcall_fn (And.intro @wcall_yl (And.intro @Wop_len (And.intro @Wop_append (And.intro @Wop_min (And.intro @Wop_max (And.intro @callK_ret (And.intro @callK_pan (And.intro @retQ_one (And.intro @retQ_none (And.intro @retQ_none' (And.intro @wlen_eq (And.intro @len_str (And.intro @len_sl (And.intro @len_ref (And.intro @windex_eq (And.intro @idx_str (And.intro @wconv_eq (@conv_i64_u64))))))))))))))))))))))))
def sb5:=And.intro @conv_u64_u32 (And.intro @conv_u8_i64 (And.intro @un_not (And.intro @bin_bl_eql (And.intro @bin_i64_add (And.intro @bin_i64_sub (And.intro @bin_i64_mul (And.intro @bin_i64_lss (And.intro @bin_i64_leq (And.intro @bin_i64_gtr (And.intro @bin_i64_geq (And.intro @bin_i64_eql (And.intro @bin_i64_neq (And.intro @bin_u32_add (@bin_u32_mul))))))))))))))
def sb6:=And.intro @bin_u64_shr' (@bin_u8_eql)
def sb7:=And.intro @bin_u8_neq (And.intro @str_eql (And.intro @str_neq (And.intro @wcond_bd (And.intro @wcond_bnd (And.intro @min_i64 (And.intro @max_i64 (And.intro @rd_rw0 (And.intro @rd_succ (And.intro @wstore_ptr (And.intro @st_u8 (And.intro @st_i64 (And.intro @st_bl (And.intro @st_str (And.intro @wload_ptr (And.intro @wload_rp (And.intro @windexAddr_eq (And.intro @ia2_sl (@ia_ref_u8))))))))))))))))))
def sb8:=And.intro @conv2_sl_ref (And.intro @conv3_ref (And.intro @conv4_map (And.intro @wmake_eq (And.intro @mk1_sl (And.intro @slice_str_eq (And.intro @sl2_both (And.intro @sl2_lo (And.intro @sl2_hi (And.intro @wbuildSlice_eq (And.intro @bs1_sl (And.intro @bs_i64_1 (And.intro @box_ptr (And.intro @box_i64 (@walloc_eq))))))))))))))
def sb9:=And.intro @ld_ptr (And.intro @ext_0 (And.intro @ext_1 (And.intro @ext_2 (And.intro @wMfin_eq (And.intro @wMk1_eq (And.intro @wMs1_some (And.intro @wM_nil (And.intro @wM_mk (And.intro @wM_st (And.intro @envA_nil (And.intro @envA_cons (@stoA_nil))))))))))))
def sb10:=And.intro @stoA_cons (And.intro @wS1_some (And.intro @wS2_eq (And.intro @wS4_eq (And.intro @wd_nil (And.intro @wd_cons (And.intro @wdE_one (And.intro @atN_eq (And.intro @wqK_eq (And.intro @wq_nil (And.intro @wq_one (And.intro @wq_guarded (And.intro @wops_guarded (And.intro @oBoth_true (And.intro @oBoth_false (And.intro @qBoth_true (And.intro @qBoth_false (And.intro @gSlot_some (And.intro @gGo_tt (And.intro @gGo_ft (And.intro @gGo_tf (And.intro @gGo_ff (And.intro @gGo_undef (And.intro @pick_true (And.intro @pick_false (And.intro @Qop_move (And.intro @Qop_assign (@Qop_pick)))))))))))))))))))))))))))
def sb11:=And.intro @Wop_pick (And.intro @Qop_build (And.intro @Qop_buildSlice (And.intro @Qop_load (And.intro @Qop_nilCheck (And.intro @Qop_binOp (And.intro @wnilc_eq (And.intro @isNilB_ifc (And.intro @isNilB_nil (And.intro @nilc2_nt (And.intro @nilc2_nf (@wmkI_eq)))))))))))
def sb12:=And.intro @Qop_unOp (And.intro @Qop_slice (And.intro @Qop_fieldAddr (And.intro @Qop_field (And.intro @Qop_indexAddr (And.intro @Qop_index (And.intro @Qop_extract (And.intro @Qop_call (And.intro @qcall_fn (And.intro @Qop_len (And.intro @qbuildSlice_eq (@qb1_sl)))))))))))
def sb14:=And.intro @and_true (And.intro @List.map_cons.{0,0} (And.intro @List.map_nil.{0,0} (And.intro @List.getElem?_cons_zero.{0} (And.intro @List.getElem?_cons_succ.{0} (And.intro @Option.getD_some.{0} (And.intro @List.set_cons_zero.{0} (And.intro @List.set_cons_succ.{0} (And.intro @List.cons_append.{0} (And.intro @List.nil_append.{0} (And.intro @List.append_nil.{0} (And.intro @List.length_cons.{0} (And.intro @List.length_nil.{0} (And.intro @List.replicate_succ.{0} (And.intro @List.replicate_zero.{0} (And.intro @Option.map_some.{0,0} (And.intro @Option.map_none.{0,0} (And.intro @true_and (And.intro @beq_self_eq_true.{0} (And.intro @Nat.add_zero (And.intro @Nat.zero_add (And.intro @BitVec.toNat_ofNat (And.intro @List.take_succ_cons.{0} (And.intro @List.take_zero.{0} (And.intro @List.drop_succ_cons.{0} (And.intro @List.drop_zero.{0} (And.intro @decide_true (And.intro @decide_false (And.intro @Bool.not_true (And.intro @Bool.not_false (@Option.bind_some.{0,0}))))))))))))))))))))))))))))))
def SB:=And.intro @sb0 (And.intro @sb1 (And.intro @sb2 (And.intro @sb3 (And.intro @sb4 (And.intro @sb5 (And.intro @sb6 (And.intro @sb7 (And.intro @sb8 (And.intro @sb9 (And.intro @sb10 (And.intro @sb11 (And.intro @sb12 (@sb14)))))))))))))
def FB:=And.intro @List.set_cons_zero.{0} (And.intro @List.set_cons_succ.{0} (And.intro @List.length_cons.{0} (And.intro @List.length_nil.{0} (And.intro @List.cons_append.{0} (And.intro @List.nil_append.{0} (And.intro @leR_bot (And.intro @leR_u8 (And.intro @leR_u32 (And.intro @leR_u64 (And.intro @leR_i64 (And.intro @leR_bl (And.intro @leR_str (And.intro @zfE (And.intro @leR_nil (And.intro @leR_cons (And.intro @zcO (And.intro @zbY (And.intro @zbt (And.intro @zac (And.intro @zay (And.intro @zaj (And.intro (zam u8 zcO) (And.intro (zam u32 zbY) (And.intro @keepB_nil (And.intro @keepB_dead (And.intro (zhb u8 zcO) (And.intro (zhb u32 zbY) (And.intro (zhb i64 zac) (And.intro (zhb u64 zbt) (And.intro (zam u64 zbt) (And.intro (zam i64 zac) (And.intro @List.getElem?_cons_zero.{0} (And.intro @List.getElem?_cons_succ.{0} (And.intro @Option.map_some.{0,0} (And.intro @u32_inj (And.intro @u64_inj (And.intro @u8_inj (And.intro @i64_inj (And.intro @bl_inj (And.intro @str_inj (And.intro @true_and (And.intro @and_true (And.intro @or_true (And.intro @true_or (And.intro @false_or (And.intro @Option.some.injEq.{0} (And.intro @Blk.rw.injEq (And.intro @AV.sl.injEq (And.intro @AV.ref.injEq (@AV.ptr.injEq))))))))))))))))))))))))))))))))))))))))))))))))))
theorem zbg {p q:Prop} (hq:q) (hp:p:=by first | omega | decide | (unfold inI;omega) | (simp only [List.length_append,List.length_reverse,List.length_take,List.length_drop,List.length_cons,List.length_nil,List.length_map,List.length_replicate];omega)):p∧q:=⟨hp,hq⟩
end Go.Eng
end

section
/-
 Slices of strings. No condition.
-/
namespace Go.Eng
open Go
section
variable {T : Tab} {σ : zaa} {K : AV → Prop} {KS : AV → zaa → Prop}
theorem ia_sl_str (l:List (List UInt8)) (n:Int):ia3 (some zbf) (.sl (l.map str) l.length) n K=(0≤n∧n < l.length∧K (.rp ((l.map str).drop n.toNat))):=ia3_sl1 zgB _ _ _
theorem ldd_str (l:List (List UInt8)) (i off:Nat):ld2 (some zbf) (some ((l.map str).drop i)) off K=(i+off < l.length∧K (str (l.getD (i+off) []))):=ld2_mapd zgB _ _ _ _ _
end
end Go.Eng
end

section
/-
 Functions in cells,whole numbers in slices and cells. No condition.
-/
namespace Go.Eng
open Go
section
variable {T : Tab} {σ : zaa} {t : TypeId} {K : AV → Prop} {KS : AV → zaa → Prop}
theorem box_fn {eB:TypeId} (f:Fn) (rs caps:List AV):wbox eB (.fn f rs caps) σ KS=KS (.ptr σ.length 0) (σ++[.rw [.fn f rs caps]]):=by
 simp [wbox,zdo,AV.cells,AV.one]
theorem ld_i64 (n:Int):ld2 (some zaC) (some [i64 n]) 0 K=K (i64 n):=by
 simp [ld2,wfin,zaC,TD.agg]
theorem ld_sl1 (e:TypeId) (x:AV):ld2 (some (tySl e)) (some [x]) 0 K=K x:=by
 simp [ld2,wfin,tySl,TD.agg]
theorem al_i64 (e0:TypeId):al1 T e0 (some zaC) σ KS=KS (.ptr σ.length 0) (σ++[.rw [i64 0]]):=rfl
theorem al_sl (e0 e:TypeId):al1 T e0 (some (tySl e)) σ KS=KS (.ptr σ.length 0) (σ++[.rw [.lit (.slice none 0 0)]]):=rfl
theorem st_slc (e:TypeId) (id:Nat) (c:AV) (i o l s:Nat):st2 (some (tySl e)) (some (.rw [c])) id 0 (.ref i o l s) σ KS=KS (.lit undef) (σ.set id (.rw [.ref i o l s])):=by
 simp [st2,tySl,AV.cells,AV.one,za0]
theorem ia_sl_i64 (l:List Int) (n:Int):ia3 (some zaC) (.sl (l.map i64) l.length) n K=(0≤n∧n < l.length∧K (.rp ((l.map i64).drop n.toNat))):=ia3_sl1 zc4 _ _ _
theorem ldd_i64 (l:List Int) (i off:Nat):ld2 (some zaC) (some ((l.map i64).drop i)) off K=(i+off < l.length∧K (i64 (l.getD (i+off) 0))):=ld2_mapd zc4 _ _ _ _ _
theorem bin_u8_lss (x y:UInt8):wbin T .lss t (u8 x) (u8 y) K=K (bl (decide ((x.toNat:Int) < y.toNat))):=by
 simp [wbin,u8,bl,zdT,cmpV]
theorem zbk (ts:TI) (x:BitVec 64):zg5 T (some ts) (some zaC) (u64 x) σ KS=KS (i64 (IntKind.i64.wrap x.toNat)) σ:=by
 simp [zg5,zaC,u64,i64]
end
end Go.Eng
end

section
/-
 Numbers of sixteen bits,as9 they come in. No condition.
-/
namespace Go.Eng
open Go
section
variable {T : Tab} {σ : zaa} {KS : AV → zaa → Prop}
end
end Go.Eng
end

section
/-
 strings.Builder: two blocks,one of its two cells,one of its bytes. No condition.
-/
namespace Go.Eng
open Go
section
variable {T : Tab} {σ : zaa} {t : TypeId} {K : AV → Prop} {KS : AV → zaa → Prop}
end
theorem zar (q:List Nat) (cs:List AV):(Blk.rw cs).ren q=(renL q cs).map .rw:=rfl
theorem bren_ro (q:List Nat) (cs:List AV):(Blk.ro cs).ren q=(renL q cs).map .ro:=rfl
theorem bren_rt (q:List Nat) (x:Bool) (e:TypeId) (cs:List AV):(Blk.rt x e cs).ren q=(renL q cs).map (.rt x e):=rfl
theorem bren_dead (q:List Nat):Blk.dead.ren q=some .dead:=rfl
theorem bren_lp (q:List Nat) (st:LoopState) (pend:Option Code) (env:List AV) (ps:Array Tmp) (as9 bd:Code):(Blk.lp st pend env ps as9 bd).ren q=(renL q env).map (.lp st pend · ps as9 bd):=rfl
section
variable [Globs] {P : Program} {T : Tab} {ev : Operand → AV} {σ : zaa} {K Kp : AV → zaa → Prop}
end
theorem zgY [Globs] {P:Program} {f:FuncId} {as9:List AV} {v:AV} (hc:zaW P f=true)
  (h:∀ (w:World) (O:Nat→Prop) (m:Ids) (vs:Array Value),reps w O m as9 vs.toList→Calls P f vs w fun e w'=>(∃ u,e=.returned u∧∀ (w':World) (O:Nat→Prop) (m:Ids),rep w' O m v u)∧RowKit.Below w.heap.size w w'):ACalls P f as9 [] (fun x _=>x=.ret v):=by
 refine fun H w m vs hg hs hr=>.inl ⟨hc,(h w _ m vs hr).mono ?_⟩
 rintro e w' ⟨⟨u,rfl,hu⟩,hb⟩
 obtain⟨s1,x1⟩:=hs.old (w':=w') hb.size hb.block hb.os hb.tape hb.output
 exact⟨.ret v,m,[],s1,x1,hu _ _ _,rfl⟩
end Go.Eng
end

section
/-
 Arrays: their equality,of a slice;arrays of whole numbers,and of rows of them. No condition.
-/
namespace Go.Eng
open Go
def v4 {α:Type} (a b c d:α):Vc α 4:=⟨[a,b,c,d],rfl⟩
section
variable {T : Tab} {σ : zaa} {t e e2 : TypeId} {K : AV → Prop} {KS : AV → zaa → Prop}
theorem ld_i64m (l:List Int) (off:Nat):ld2 (some zaC) (some (l.map i64)) off K=(off < l.length∧K (i64 (l.getD off 0))):=ld2_map zc4 _ _ _ _
theorem bin_u64_lss (x y:BitVec 64):wbin T .lss t (u64 x) (u64 y) K=K (bl (decide ((x.toNat:Int) < y.toNat))):=by
 simp [wbin,u64,bl,zdT,cmpV]
end
theorem zaF {r:AV} {σ:zaa} {K:AV→zaa→Prop} (h:r.ren []=some r) (hk:K r []):endQ 0 r σ K:=.inl ⟨[],r,[],rfl,rfl,List.nodup_nil,h,trivial,hk⟩
end Go.Eng
end

section
/-
 Arrays of whole numbers of 64 bits. No condition.
-/
namespace Go.Eng
open Go
section
variable {T : Tab} {σ : zaa} {t e e2 : TypeId} {K : AV → Prop} {KS : AV → zaa → Prop}
def v3 {α:Type} (a b c:α):Vc α 3:=⟨[a,b,c],rfl⟩
end
end Go.Eng
end

section
/-
 Functions of the model's own that read or turn the store. No condition.
-/
namespace Go.Eng
open Go
theorem ACalls.same [Globs] {P : Program} {f : FuncId} {as9 : List AV} {σ : zaa} {x : AV} {K : AEnd → zaa → Prop} (h : ACalls P f as9 σ (fun y σ' => y = .ret x ∧ σ' = σ)) (hk : K (.ret x) σ) : ACalls P f as9 σ K :=
 h.mono fun _ _ ⟨a,b⟩=>by subst a b;exact hk
end Go.Eng
end

section
/-
 A function that defers a call of its own,which may recover. No condition.
-/
namespace Go.Eng
open Go
variable {H : Nat → Prop} [Globs]
theorem zdw {F:Fence} {n:Nat} {P:Program} {ops:Array Oper} {Q:Exit→Act→World→Prop} {l':List Oper}:∀ (l:List Oper) (a:Act) (w:World),
  wpListIn F n P ops (Exit.then (wpListIn F n P ops Q l') Q) l a w→wpListIn F n P ops Q (l++l') a w
 | [],a,w,h=>h
 | o::rest,a,w,h=>by
  simp only [List.cons_append,wpListIn] at h ⊢
  split at h
  ·rename_i hw
   rw [if_pos hw]
   refine⟨h.1,?_⟩
   have h2:=h.2
   clear h
   have step:∀ a w,wpListIn F n P ops (Exit.then (wpListIn F n P ops Q l') Q) rest a w→wpListIn F n P ops Q (rest++l') a w:=fun a w h=>zdw rest a w h
   generalize (o.semAt F.round a.eval).run P w=res at h2
   have lets:LetsOut (Exit.then (wpListIn F n P ops Q l') Q)→LetsOut Q:=fun ⟨a,w,h⟩=>⟨a,w,h⟩
   cases res with
   | ok x w' =>
    cases x <;> simp only [Oper.uponIn] at h2 ⊢ <;>
     first
      | exact step _ _ h2
      | exact⟨h2.1,CallsIn.mono h2.2 (fun e w'' he=>by cases e <;> first | exact step _ _ he | exact he | exact lets he)⟩
      | exact⟨h2.1,RoundIn.mono h2.2 (fun e w'' he=>by cases e <;> first | exact step _ _ he | exact he | exact lets he)⟩
      | exact⟨h2.1,RowsIn.mono h2.2 (fun _ _ he=>step _ _ he)⟩
   | halt x w'=>cases x <;> simp only [Oper.uponIn] at h2 ⊢ <;> exact h2
  ·rename_i hw
   rw [if_neg hw]
   exact⟨h.1,zdw rest _ w h.2⟩
def zgD (w:World) (O:Nat→Prop) (m:Ids):Option AV→FrameMode→Prop
 | none,u=>u=.returning
 | some r,u=>∃ v,u=.panicking [{ v:=v,recovered:=false }]∧rep w O m r v
def DCalls (P:Program) (f:FuncId) (as9:List AV) (σ:zaa) (u:Option AV) (K:zaa→Prop):Prop :=
 ∀ (H:Nat→Prop) (w:World) (m:Ids) (vs:Array Value) (u1:FrameMode),Glob w (own H m σ)→St H w m σ→reps w (own H m σ) m as9 vs.toList→zgD w (own H m σ) m u u1 →
  CallsDIn Fence.wide 0 P f vs u1 w fun e u2 w' => (∃ v, e = .returned v) ∧ settle u2 = .returning ∧ ∃ m' σ', St H w' m' σ' ∧ Ext H w (own H m σ) m w' (own H m' σ') m' ∧ K σ'
def zcS:Code→Option (Array Oper × List Oper × Operand)
 | .region _ ops false=>match ops.toList.reverse with
  | { dst:=none,op:=.defer c,type:=_,pos:=_,after:=_,guard:=none }::l=>match c.callee,c.args.toList with
   | .value x,[]=>some (ops,l.reverse,x)
   | _,_=>none
  | _=>none
 | _=>none
def WD (P:Program) (T:Tab) (n0:Nat):Code→Env→zaa→Post→(AV→Code→Env→zaa→Prop)→Prop
 | .seq a b,env,σ,Q,D=>match zcS a with
  | some (ops,l,x)=>wops P T ops l env σ (seqQ (fun env σ=>D (zaN env x) b env σ) Q)
  | none=>W P T n0 a env σ (seqQ (fun env σ=>WD P T n0 b env σ Q D) Q)
 | _,_,_,_,_=>False
theorem splitDefer_some {c:Code} {ops:Array Oper} {l:List Oper} {x:Operand} (h:zcS c=some (ops,l,x)) :
  ∃ id ts ty pos af,c=.region id ops false∧ops.toList=l++[{ dst:=none,op:=.defer { callee:=.value x,args:=#[],argTypes:=ts },type:=ty,pos:=pos,after:=af,guard:=none }]:=by
 unfold zcS at h
 split at h
 ·rename_i id ops'
  split at h
  ·rename_i cc ty pos af l' hl
   obtain⟨cal,args,ts⟩:=cc
   simp only at h
   split at h
   ·rename_i x1 x2 harg
    simp only [Option.some.injEq,Prod.mk.injEq] at h
    obtain⟨rfl,rfl,rfl⟩:=h
    have ha:args=#[]:=by cases args;simp at harg;simp [harg]
    subst ha
    refine⟨id,ts,ty,pos,af,rfl,?_⟩
    have:=congrArg List.reverse hl
    simpa using this
   ·cases h
  ·cases h
 ·cases h
def zev (f:FuncId) (cap:Array Value):Deferred:={ target:=.fn (.func f) cap,args:=#[] }
theorem WD_sound {P:Program} {T:Tab} (hT:zaD P T) {n0:Nat} {Q:Post} {D:AV→Code→Env→zaa→Prop} {w0:World} {O0:Nat→Prop} {m0:Ids} (hG:Glob w0 O0) (hn:m0.length=n0) {Fin:Exit→Act→World→Prop}
  (h1:∀ e a w,lift H w0 O0 m0 Q e a w→Fin e a w)
  (h2:∀ (f:FuncId) (cap:List AV) (capv:Array Value) (b:Code) (env:Env) (σ:zaa) (a:Act) (w:World) (m:Ids),D (.fn (.func f) [] cap) b env σ→Ext H w0 O0 m0 w (own H m σ) m→St H w m σ→reps w (own H m σ) m env a.tmps.toList→reps w (own H m σ) m cap capv.toList →
   Mk w0.heap.size w (own H m σ) a.defers→b.wpIn (FR none) 0 P Fin { a with defers:=zev f capv::a.defers } w)
  (h3:∀ x b env σ,D x b env σ→∃ f cap,x=.fn (.func f) [] cap) :
  ∀ (c:Code) (env:Env) (σ:zaa) (a:Act) (w:World) (m:Ids),WD P T n0 c env σ Q D→Ext H w0 O0 m0 w (own H m σ) m→St H w m σ→reps w (own H m σ) m env a.tmps.toList→Mk w0.heap.size w (own H m σ) a.defers→c.wpIn (FR none) 0 P Fin a w:=by
 intro c
 induction c with
 | seq x y _ ihy =>
  intro env σ a w m h h0 hs he hd
  simp only [WD] at h
  split at h
  ·rename_i ops l xx hsp
   obtain⟨id,ts,ty,pos,af,rfl,hl⟩:=splitDefer_some hsp
   refine wpIn_seq (wpIn_region_list ?_)
   rw [hl]
   refine zdw l a w ?_
   have hw:=ze5 (r:=none) (n:=0) (ops:=ops) (P:=P) hT hG l env σ a w m h h0 hs he hd
   have mono:∀ (l:List Oper) (Q Q':Exit→Act→World→Prop) (a:Act) (w:World),(∀ e a w,Q e a w→Q' e a w)→wpListIn (FR none) 0 P ops Q l a w→wpListIn (FR none) 0 P ops Q' l a w:=by
    intro l Q Q'
    induction l with
    | nil=>exact fun a w hq h=>hq _ _ _ h
    | cons o rest ih =>
     intro a w hq h
     simp only [wpListIn] at h ⊢
     split at h
     ·rename_i hwd
      rw [if_pos hwd]
      refine⟨h.1,?_⟩
      have h2:=h.2
      have step:∀ a w,wpListIn (FR none) 0 P ops Q rest a w→wpListIn (FR none) 0 P ops Q' rest a w:=fun a w h=>ih a w hq h
      generalize (o.semAt (FR none).round a.eval).run P w=res at h2
      have lets:LetsOut Q→LetsOut Q':=fun ⟨a,w,h⟩=>⟨a,w,hq _ _ _ h⟩
      cases res with
      | ok x w' =>
       cases x <;> simp only [Oper.uponIn] at h2 ⊢ <;>
        first
         | exact step _ _ h2
         | exact⟨h2.1,CallsIn.mono h2.2 (fun e w'' he=>by cases e <;> first | exact step _ _ he | exact hq _ _ _ he | exact lets he)⟩
         | exact⟨h2.1,RoundIn.mono h2.2 (fun e w'' he=>by cases e <;> first | exact step _ _ he | exact hq _ _ _ he | exact lets he)⟩
         | exact⟨h2.1,RowsIn.mono h2.2 (fun _ _ he=>step _ _ he)⟩
      | halt x w'=>cases x <;> simp only [Oper.uponIn] at h2 ⊢ <;> first | exact hq _ _ _ h2 | exact h2
     ·rename_i hwd
      rw [if_neg hwd]
      exact⟨h.1,ih _ _ hq h.2⟩
   refine mono l _ _ a w ?_ hw
   rintro e a' w' ⟨x', env', σ', m', g1, g2, g3, g4, g5, g6⟩
   cases x' with
   | normal =>
    cases e <;> simp only [xRep] at g5
    simp only [seqQ] at g6
    simp only [Exit.then,wpListIn,Region.wanted,if_true]
    refine⟨fun _ _=>trivial,?_⟩
    have hx:=zaO (hG.mono g2) g3 xx
    obtain⟨f,cap,hfc⟩:=h3 _ _ _ _ g6
    rw [hfc] at hx g6
    simp only [rep,reps] at hx
    obtain⟨fa,capv,hev,hfa,hcap⟩:=hx
    have hfe:fa=#[]:=by cases fa;simp at hfa;simp [hfa]
    subst hfe
    have hr:(Oper.semAt (FR none).round a'.eval { dst:=none,op:=.defer { callee:=.value xx,args:=#[],argTypes:=ts },type:=ty,pos:=pos,after:=af,guard:=none }).run P w'=.ok (.defer (zev f capv)) w':=by
     show (Oper.semAt none a'.eval _).run P w'=_
     rw [Oper.semAt_none]
     simp only [execOp,resolve,hev,Deferred.ofValue]
     simp [zev]
    rw [hr]
    simp only [Oper.uponIn,wpListIn,Act.put]
    exact h2 f cap capv y env' σ' a' w' m' g6 g2 g1 g3 hcap g4
   | exit i =>
    cases e <;> simp only [xRep] at g5
    exact h1 _ _ _ ⟨.exit i, env', σ', m', g1, g2, g3, g4, g5, g6⟩
   | ret =>
    cases e <;> simp only [xRep] at g5
    exact h1 _ _ _ ⟨.ret, env', σ', m', g1, g2, g3, g4, trivial, g6⟩
   | pan r =>
    cases e <;> simp only [xRep] at g5
    exact h1 _ _ _ ⟨.pan r, env', σ', m', g1, g2, g3, g4, g5, g6⟩
  ·refine wpIn_seq (wpIn_mono (zhS (r:=none) (n:=0) hT x env σ _ w0 O0 m0 a w m h (.inl rfl) hG hn h0 hs he hd) ?_)
   rintro e a' w' ⟨x', env', σ', m', g1, g2, g3, g4, g5, g6⟩
   cases x' with
   | normal =>
    cases e <;> simp only [xRep] at g5
    exact ihy env' σ' a' w' m' g6 g2 g1 g3 g4
   | exit i =>
    cases e <;> simp only [xRep] at g5
    exact h1 _ _ _ ⟨.exit i, env', σ', m', g1, g2, g3, g4, g5, g6⟩
   | ret =>
    cases e <;> simp only [xRep] at g5
    exact h1 _ _ _ ⟨.ret, env', σ', m', g1, g2, g3, g4, trivial, g6⟩
   | pan r =>
    cases e <;> simp only [xRep] at g5
    exact h1 _ _ _ ⟨.pan r, env', σ', m', g1, g2, g3, g4, g5, g6⟩
 | _=>intro env σ a w m h;exact h.elim
theorem zew {P:Program} {fn:Func} {tmps:Array Value} {R:Ending→World→Prop} {u:FrameMode} {J:World→Prop} {b:Nat} {tail:List Deferred} (hu:u≠.run) (hJ:∀ D w,b≤D→J w→w.heap[D]?=some (.deferred (some []))→J (w.putObj D (.deferred none))) (hfin:∀ w,J w→LeavesInM Fence.wide 0 P fn tmps R tail u w) :
  ∀ (l:List Nat) (w:World),l.Nodup→(∀ D∈l,b≤D∧w.heap[D]?=some (.deferred (some [])))→J w→LeavesInM Fence.wide 0 P fn tmps R (l.map (fun D=>{ target:=.collected D,args:=#[] })++tail) u w
 | [],w,_,_,h=>hfin w h
 | D::l,w,hn,hl,h=>by
  obtain⟨h1,h2⟩:=hl D (by simp)
  obtain⟨n1,n2⟩:=List.nodup_cons.1 hn
  refine⟨hu,.inl ⟨D,_,rfl,run_takeDeferred h2,zew hu hJ hfin l _ n2 (fun E hE=>?_) (hJ D w h1 h h2)⟩⟩
  obtain⟨h3,h4⟩:=hl E (List.mem_cons_of_mem _ hE)
  exact⟨h3,by rw [World.putObj_heap_other (by rintro rfl;exact n1 hE)];exact h4⟩
def recQ (P:Program) (T:Tab) (n0:Nat) (rs:List ResultVar) (K:AEnd→zaa→Prop) (f:FuncId) (cap:List AV):Post:=fun x env σ =>
 match x with
 | .normal | .ret => DCalls P f cap σ none (fun σ' => wres T env σ' rs fun l => endQ n0 (zcR l) σ' (fun r σ' => K (.ret r) σ'))
 | .pan r => DCalls P f cap σ (some r) (fun σ' => wres T env σ' rs fun l => endQ n0 (zcR l) σ' (fun r σ' => K (.ret r) σ'))
 | .exit _=>False
def recD (P:Program) (T:Tab) (n0:Nat) (rs:List ResultVar) (K:AEnd→zaa→Prop):AV→Code→Env→zaa→Prop:=fun x b env σ=>match x with
 | .fn (.func g) [] cap=>zaW P g=true∧W P T σ.length b env σ (recQ P T n0 rs K g cap)
 | _=>False
theorem WD_base (G:Globs) (b:List Deferred) (P:Program) (T:Tab) (n0:Nat):∀ c,@WD (za8 G b) P T n0 c=@WD G P T n0 c:=by
 intro c
 induction c with
 | seq x y _ ihy =>
  funext env σ Q D
  simp only [WD,zeP,zj4,ihy]
  rfl
 | _=>rfl
theorem leaves_rec {P:Program} {T:Tab} (hT:zaD P T) {fn:Func} {rs:List ResultVar} (hrs:fn.results.toList=rs) {K:AEnd→zaa→Prop} {w0:World} {m0:Ids} {σ0:zaa} (hg:Glob w0 (own H m0 σ0)) (hn:m0.length=σ0.length) (hh:∀ b,H b→b < w0.heap.size)
  {w1 w:World} {m1 m:Ids} {σ1 σ:zaa} {env:Env} {tmps:Array Value} {g:FuncId} {cap:List AV} {capv:Array Value} {ms0 ms:List Nat} {u:Option AV} {u1:FrameMode} (hgc:zaW P g=true)
  (h01:Ext H w0 (own H m0 σ0) m0 w1 (own H m1 σ1) m1) (h1:Ext H w1 (own H m1 σ1) m1 w (own H m σ) m) (hs:St H w m σ) (he:reps w (own H m σ) m env tmps.toList) (hcap:reps w (own H m σ) m cap capv.toList) (hu:u1≠.run) (hur:zgD w (own H m σ) m u u1)
  (hms0:ms0.Nodup∧∀ D∈ms0,w0.heap.size≤D∧¬ own H m1 σ1 D∧w1.heap[D]?=some (.deferred (some [])))
  (hms:ms.Nodup∧∀ D∈ms,w1.heap.size≤D∧¬ own H m σ D∧w.heap[D]?=some (.deferred (some [])))
  (hD : DCalls P g cap σ u (fun σ' => wres T env σ' rs fun l => endQ σ0.length (zcR l) σ' (fun r σ' => K (.ret r) σ'))) :
  LeavesInM Fence.wide 0 P fn tmps (fun e w' => ∃ x m' σ', St H w' m' σ' ∧ Ext H w0 (own H m0 σ0) m0 w' (own H m' σ') m' ∧ zb5 w' (own H m' σ') m' x e ∧ K x σ') (ms.map (fun D => { target := .collected D, args := #[] }) ++ (zev g capv :: ms0.map (fun D => { target := .collected D, args := #[] }))) u1 w := by
 have hh1:∀ b,H b→b < w1.heap.size:=fun b hb=>Nat.lt_of_lt_of_le (hh b hb) h01.heap
 refine zew (b:=w1.heap.size) (J:=fun w'=>St H w' m σ∧Ext H w1 (own H m1 σ1) m1 w' (own H m σ) m∧reps w' (own H m σ) m env tmps.toList∧reps w' (own H m σ) m cap capv.toList∧zgD w' (own H m σ) m u u1) hu ?_ ?_ ms w hms.1 (fun D hD=>⟨(hms.2 D hD).1,(hms.2 D hD).2.2⟩) ⟨hs,h1,he,hcap,hur⟩
 ·rintro D w' hb ⟨j1,j2,j3,j4,j5⟩ hd
  refine⟨j1.alike (.deferred hd _),j2.shut hb hd _ hh1,zbm (.deferred hd _) _ _ j3,zbm (.deferred hd _) _ _ j4,?_⟩
  cases u with
  | none=>exact j5
  | some r =>
   obtain⟨v,e,hv⟩:=j5
   exact⟨v,e,zd5 (.deferred hd _) _ _ hv⟩
 ·rintro w' ⟨j1,j2,j3,j4,j5⟩
  refine⟨hu,.inr ⟨fun h=>absurd h (by simp [Fence.wide]),.func g,capv,g,#[]++capv,rfl,?_,fun _ _=>trivial,?_⟩⟩
  ·show (callFunc g (#[]++capv)).run P w'=_
   rw [zdH hgc]
  ·rw [show (#[]++capv:Array Value)=capv by simp]
   refine(hD H w' m capv u1 ((hg.mono h01).mono j2) j1 j4 j5).mono ?_
   rintro e u2 w2 ⟨⟨v,rfl⟩,hset,m2,σ2,g1,g2,g3⟩
   simp only [hset]
   have x2:=j2.trans g2
   have hlive:∀ D∈ms0,w0.heap.size≤D∧w2.heap[D]?=some (.deferred (some [])):=fun D hD=>by
    obtain⟨k1,k2,k3⟩:=hms0.2 D hD
    have hlt:=(Array.getElem?_eq_some_iff.1 k3).1
    exact⟨k1,(x2.same D hlt k2).trans k3⟩
   rw [show ms0.map (fun D=>({ target:=.collected D,args:=#[] }:Deferred))=ms0.map (fun D=>{ target:=.collected D,args:=#[] })++[] by simp]
   refine zew (b:=w0.heap.size) (J:=fun w'=>St H w' m2 σ2∧Ext H w0 (own H m0 σ0) m0 w' (own H m2 σ2) m2∧reps w' (own H m2 σ2) m2 env tmps.toList) (by simp) ?_ ?_ ms0 w2 hms0.1 hlive ⟨g1,h01.trans x2,zah g2 _ _ j3⟩
   ·rintro D w' hb ⟨j1,j2,j3⟩ hd
    exact⟨j1.alike (.deferred hd _),j2.shut hb hd _ hh,zbm (.deferred hd _) _ _ j3⟩
   ·rintro w3 ⟨q1,q2,q3⟩
    subst hrs
    obtain⟨v,l,p1,p2,hk⟩:=zdv (a:={ tmps:=tmps,defers:=[] }) (P:=P) hT q1 q3 g3
    obtain⟨r',m3,σ3,k1,k2,k3,k4⟩:=zd4 hk q1 p2 q2 hn
    exact⟨v,p1,.ret r',m3,σ3,k1,k2,k3,k4⟩
theorem ACalls.bodyD {P:Program} {T:Tab} (hT:zaD P T) {f:FuncId} {fn:Func} {c:Code} {as9:List AV} {σ:zaa} {K:AEnd→zaa→Prop} {n:Nat} {rs:List ResultVar} (hf:P.funcs[f]?=some fn) (hc:zaW P f=true) (hb:fn.body=some c) (hn:fn.ntmps=n) (hrs:fn.results.toList=rs)
  (h:WD P T σ.length c (as9++List.replicate (n - as9.length) .bot) σ (retQ T σ.length rs K) (recD P T σ.length rs K)):ACalls P f as9 σ K:=by
 refine fun H w m vs hg hs hr=>.inl ⟨hc,callsIn_wide.1 (callsIn_of_wp_marks (F:=Fence.wide) (n:=0) hf hb trivial ?_)⟩
 have hl:=zan hr
 have hh:∀ b,H b→b < w.heap.size:=fun b hb=>(hs.hid b hb).1
 replace h:=(congrFun (congrFun (congrFun (congrFun (WD_base ‹Globs› [] P T σ.length c) (as9++List.replicate (n - as9.length) .bot)) σ) (retQ T σ.length rs K)) (recD P T σ.length rs K)).mpr h
 refine @WD_sound H (za8 ‹Globs› []) P T hT σ.length (retQ T σ.length rs K) (recD P T σ.length rs K) w (own H m σ) m hg hs.len _ ?_ ?_ ?_ c _ σ { tmps:=vs++Array.replicate (fn.ntmps - vs.size) undef,defers:=[] } w m h (Ext.refl _ _ _) hs (by
  simp only [Array.toList_append,Array.toList_replicate]
  refine zby hr ?_
  rw [show vs.size=as9.length by simpa using hl,hn]
  exact zeR _ _) (@Mk.nil (za8 ‹Globs› []) _ _ _)
 · rintro e a w' ⟨x, env, σ', m', g1, g2, g3, g4, g5, g6⟩
   have fin : wres T env σ' rs (fun l => endQ σ.length (zcR l) σ' (fun r σ' => K (.ret r) σ')) → LeavesInM Fence.wide 0 P fn a.tmps (fun e w' => ∃ x m' σ', St H w' m' σ' ∧ Ext H w (own H m σ) m w' (own H m' σ') m' ∧ zb5 w' (own H m' σ') m' x e ∧ K x σ') a.defers .returning w' := by
    intro hk
    rw [← hrs] at hk
    obtain⟨ms,e,hnd,hms⟩:=g4
    replace e:a.defers=ms.map (fun D=>{ target:=.collected D,args:=#[] })++[]:=e
    rw [List.append_nil] at e
    rw [e]
    refine zc1 (J := fun w' => St H w' m' σ' ∧ Ext H w (own H m σ) m w' (own H m' σ') m' ∧ reps w' (own H m' σ') m' env a.tmps.toList) (b := w.heap.size) (by simp) (fun D w' hD ⟨j1, j2, j3⟩ hd => ⟨j1.alike (.deferred hd _), j2.shut hD hd _ hh, zbm (.deferred hd _) _ _ j3⟩) ?_ ms w' hnd (fun D hD => ⟨(hms D hD).1, (hms D hD).2.2⟩) ⟨g1, g2, g3⟩
    rintro w' ⟨j1,j2,j3⟩
    obtain⟨v,l,h1,h2,hk⟩:=zdv (P:=P) hT j1 j3 hk
    obtain⟨r',m2,σ2,k1,k2,k3,k4⟩:=zd4 hk j1 h2 j2 hs.len
    exact⟨v,h1,.ret r',m2,σ2,k1,k2,k3,k4⟩
   cases x with
   | normal =>
    cases e <;> simp only [xRep] at g5
    exact fin g6
   | ret =>
    cases e <;> simp only [xRep] at g5
    exact fin g6
   | exit i=>exact g6.elim
   | pan r =>
    cases e <;> simp only [xRep] at g5
    obtain⟨v,rfl,h2⟩:=g5
    obtain⟨ms,e,hnd,hms⟩:=g4
    replace e:a.defers=ms.map (fun D=>{ target:=.collected D,args:=#[] })++[]:=e
    rw [List.append_nil] at e
    simp only [bodyPostM]
    rw [e]
    refine zc1 (J := fun w' => St H w' m' σ' ∧ Ext H w (own H m σ) m w' (own H m' σ') m' ∧ rep w' (own H m' σ') m' r v) (b := w.heap.size) (by simp) (fun D w' hD ⟨j1, j2, j3⟩ hd => ⟨j1.alike (.deferred hd _), j2.shut hD hd _ hh, zd5 (.deferred hd _) _ _ j3⟩) ?_ ms w' hnd (fun D hD => ⟨(hms D hD).1, (hms D hD).2.2⟩) ⟨g1, g2, h2⟩
    rintro w' ⟨j1,j2,j3⟩
    obtain⟨r',m2,σ2,k1,k2,k3,k4⟩:=zd4 g6 j1 j3 j2 hs.len
    exact⟨.pan r',m2,σ2,k1,k2,⟨v,rfl,k3⟩,k4⟩
 ·rintro g cap capv b env1 σ1 a w1 m1 ⟨hgc,hD⟩ h01 hs1 he1 hcap hmk
  obtain⟨ms0,e0,hnd0,hms0⟩:=hmk
  replace e0:a.defers=ms0.map (fun D=>{ target:=.collected D,args:=#[] })++[]:=e0
  rw [List.append_nil] at e0
  replace hD:=(congrFun (congrFun (congrFun (zj4 ‹Globs› (zev g capv::a.defers) P T σ1.length b) env1) σ1) (recQ P T σ.length rs K g cap)).mpr hD
  have hw:=@zhS H (za8 ‹Globs› (zev g capv::a.defers)) none 0 P T hT σ1.length b env1 σ1 _ w1 (own H m1 σ1) m1 { a with defers:=zev g capv::a.defers } w1 m1 hD (.inl rfl) (hg.mono h01) hs1.len (Ext.refl _ _ _) hs1 he1 (@Mk.nil (za8 ‹Globs› (zev g capv::a.defers)) _ _ _)
  refine wpIn_mono hw ?_
  rintro e a' w' ⟨x, env, σ', m', g1, g2, g3, g4, g5, g6⟩
  obtain⟨ms,e2,hnd,hms⟩:=g4
  replace e2:a'.defers=ms.map (fun D=>{ target:=.collected D,args:=#[] })++(zev g capv::a.defers):=e2
  rw [e0] at e2
  have fin : ∀ (u : Option AV) (u1 : FrameMode), u1 ≠ .run → zgD w' (own H m' σ') m' u u1 → DCalls P g cap σ' u (fun σ' => wres T env σ' rs fun l => endQ σ.length (zcR l) σ' (fun r σ' => K (.ret r) σ')) →
    LeavesInM Fence.wide 0 P fn a'.tmps (fun e w' => ∃ x m' σ', St H w' m' σ' ∧ Ext H w (own H m σ) m w' (own H m' σ') m' ∧ zb5 w' (own H m' σ') m' x e ∧ K x σ') a'.defers u1 w' := fun u u1 hu hur hk => by
   rw [e2]
   exact leaves_rec hT hrs hg hs.len hh hgc h01 g2 g1 g3 (zah g2 _ _ hcap) hu hur ⟨hnd0,hms0⟩ ⟨hnd,hms⟩ hk
  cases x with
  | normal =>
   cases e <;> simp only [xRep] at g5
   exact fin none _ (by simp) rfl g6
  | ret =>
   cases e <;> simp only [xRep] at g5
   exact fin none _ (by simp) rfl g6
  | exit i=>exact g6.elim
  | pan r =>
   cases e <;> simp only [xRep] at g5
   obtain⟨v,rfl,hv⟩:=g5
   exact fin (some r) _ (by simp) ⟨v,rfl,hv⟩ g6
 · rintro x b env σ' hx
   unfold recD at hx
   split at hx
   ·exact⟨_,_,rfl⟩
   ·exact hx.elim
end Go.Eng
end

section
/-
 The call that a function defers,where it recovers first. No condition.
-/
namespace Go.Eng
open Go
variable {H : Nat → Prop} [Globs]
theorem wpIn_keep {r:Option Nat} {n:Nat} {P:Program} {w w0:World} {O0:Nat→Prop} {m0:Ids} {o:Oper} {a:Act} {next:Act→World→Prop} {Q:Post} {ds:List Deferred} (hds:a.defers=ds)
  (h:o.wpIn (FR r) n P a w next (lift H w0 O0 m0 Q)):o.wpIn (FR r) n P a w next (fun e a' w'=>lift H w0 O0 m0 Q e a' w'∧a'.defers=ds):=by
 refine⟨h.1,?_⟩
 have h:=h.2
 have noo:¬ LetsOut (lift H w0 O0 m0 Q):=by
  rintro⟨a',w',y,_,_,_,_,_,_,_,hxr,hf⟩
  cases y <;> simp only [xRep] at hxr
 generalize (o.semAt (FR r).round a.eval).run P w=res at h
 cases res with
 | ok x w' =>
  cases x <;> simp only [Oper.uponIn] at h ⊢ <;>
   first
    | exact h
    | exact⟨h.1,CallsIn.mono h.2 (fun e w'' he=>by cases e <;> first | exact he | exact⟨he,hds⟩ | exact(noo he).elim)⟩
    | exact⟨h.1,RoundIn.mono h.2 (fun e w'' he=>by cases e <;> first | exact he | exact⟨he,hds⟩ | exact(noo he).elim)⟩
 | halt x w'=>cases x <;> simp only [Oper.uponIn] at h ⊢ <;> first | exact h | exact⟨h,hds⟩
theorem zc2 {r:Option Nat} {n:Nat} {P:Program} {T:Tab} (hT:zaD P T) {ops:Array Oper} {w0:World} {O0:Nat→Prop} {m0:Ids} (hG:Glob w0 O0) {Q:Post} {ds:List Deferred}:∀ (l:List Oper) (env:Env) (σ:zaa) (a:Act) (w:World) (m:Ids),wops P T ops l env σ Q →
  Ext H w0 O0 m0 w (own H m σ) m→St H w m σ→reps w (own H m σ) m env a.tmps.toList→Mk w0.heap.size w (own H m σ) a.defers→a.defers=ds→wpListIn (FR r) n P ops (fun e a' w'=>lift H w0 O0 m0 Q e a' w'∧a'.defers=ds) l a w
 | [],env,σ,a,w,m,h,h0,hs,he,hd,hds=>⟨⟨.normal,env,σ,m,hs,h0,he,hd,trivial,h⟩,hds⟩
 | o::rest,env,σ,a,w,m,h,h0,hs,he,hd,hds=>by
  simp only [wpListIn]
  simp only [wops] at h
  rcases zbj (a:=a) h he with ⟨hw,h⟩ | ⟨hw,h⟩
  ·rw [if_pos hw]
   have hop:=zcC hT (hG.mono h0) hs (o:=o) (ρ:=a.eval) h (zaO (hG.mono h0) he)
   exact wpIn_keep hds (zeq hG h0 hs he hd (zct h) hop fun v r w' m' σ' g1 g2 g3 g4 g5 => zc2 hT hG rest _ _ _ _ _ g5 g1 g2 g3 g4 (by rw [zaB]; exact hds))
  ·rw [if_neg (by simp [hw])]
   exact⟨fun _ _=>trivial,zc2 hT hG rest _ _ _ _ _ h h0 hs (zaM he _ (by simp only [rep])) (by rw [zaB];exact hd) (by rw [zaB];exact hds)⟩
def zfr:Code→Bool
 | .skip=>true
 | .ret=>true
 | .region _ _ d=>!d
 | .seq a b=>zfr a && zfr b
 | .cond _ a b=>zfr a && zfr b
 | _=>false
theorem W_sound_d {r:Option Nat} {n:Nat} {P:Program} {T:Tab} (hT:zaD P T) {n0:Nat} {w0:World} {O0:Nat→Prop} {m0:Ids} (hG:Glob w0 O0) {ds:List Deferred}:∀ (c:Code) (env:Env) (σ:zaa) (Q:Post) (a:Act) (w:World) (m:Ids),zfr c=true→W P T n0 c env σ Q →
  Ext H w0 O0 m0 w (own H m σ) m→St H w m σ→reps w (own H m σ) m env a.tmps.toList→Mk w0.heap.size w (own H m σ) a.defers→a.defers=ds→c.wpIn (FR r) n P (fun e a' w'=>lift H w0 O0 m0 Q e a' w'∧a'.defers=ds) a w:=by
 intro c
 induction c with
 | skip=>exact fun env σ Q a w m _ h h0 hs he hd hds=>wpIn_skip ⟨⟨.normal,env,σ,m,hs,h0,he,hd,trivial,h⟩,hds⟩
 | ret=>exact fun env σ Q a w m _ h h0 hs he hd hds=>wpIn_ret ⟨⟨.ret,env,σ,m,hs,h0,he,hd,trivial,h⟩,hds⟩
 | region id ops draw =>
  intro env σ Q a w m hp h h0 hs he hd hds
  cases draw with
  | true=>simp [zfr] at hp
  | false=>exact wpIn_region_list (zc2 hT hG _ _ _ _ _ _ h h0 hs he hd hds)
 | cond c x y ihx ihy =>
  intro env σ Q a w m hp h h0 hs he hd hds
  simp only [zfr,Bool.and_eq_true] at hp
  simp only [W] at h
  split at h
  ·rename_i p hpp
   have hc:=zaO (hG.mono h0) he c
   rw [hpp] at hc
   simp only [rep] at hc
   exact wpIn_cond_split hc (fun ht=>ihx env σ Q a w m hp.1 (h.1 ht) h0 hs he hd hds) (fun hf=>ihy env σ Q a w m hp.2 (h.2 hf) h0 hs he hd hds)
  ·exact h.elim
 | seq x y ihx ihy =>
  intro env σ Q a w m hp h h0 hs he hd hds
  simp only [zfr,Bool.and_eq_true] at hp
  refine wpIn_seq (wpIn_mono (ihx env σ _ a w m hp.1 h h0 hs he hd hds) ?_)
  rintro e a' w' ⟨⟨x', env', σ', m', g1, g2, g3, g4, g5, g6⟩, gd⟩
  cases x' with
  | normal =>
   cases e <;> simp only [xRep] at g5
   exact ihy env' σ' Q a' w' m' hp.2 g6 g2 g1 g3 g4 gd
  | exit i =>
   cases e <;> simp only [xRep] at g5
   exact ⟨⟨.exit i, env', σ', m', g1, g2, g3, g4, g5, g6⟩, gd⟩
  | ret =>
   cases e <;> simp only [xRep] at g5
   exact ⟨⟨.ret, env', σ', m', g1, g2, g3, g4, trivial, g6⟩, gd⟩
  | pan r =>
   cases e <;> simp only [xRep] at g5
   exact ⟨⟨.pan r, env', σ', m', g1, g2, g3, g4, g5, g6⟩, gd⟩
 | _=>intro env σ Q a w m hp;simp [zfr] at hp
def zeF (d:Tmp) (ts:Array TypeId) (ty:TypeId) (pos:String) (af:Array Edge):Oper:={ dst:=some d,op:=.call { callee:=.builtin .recover,args:=#[],argTypes:=ts },type:=ty,pos:=pos,after:=af,guard:=none }
def neOp (d d2:Tmp) (t t':TypeId) (ty:TypeId) (pos:String) (af:Array Edge):Oper:={ dst:=some d2,op:=.binOp .neq t (.tmp d) (.const .nilIface) t',type:=ty,pos:=pos,after:=af,guard:=none }
def recV:Option AV→AV
 | none=>.lit .nilIface
 | some r=>r
def endD (K : zaa → Prop) : Post := fun x _ σ' => match x with
 | .normal | .ret => K σ'
 | _=>False
theorem DCalls.body {P:Program} {T:Tab} (hT:zaD P T) {f:FuncId} {fn:Func} {id:Nat} {d d2:Tmp} {ts1:Array TypeId} {t1 t2 t3 t4:TypeId} {p1 p2:String} {e1 e2:Array Edge} {rest:Code} {as9:List AV} {σ:zaa} {u:Option AV} {b:Bool} {K:zaa→Prop} {n:Nat} (hf:P.funcs[f]?=some fn)
  (hb:fn.body=some (.seq (.region id #[zeF d ts1 t1 p1 e1,neOp d d2 t2 t3 t4 p2 e2] false) rest)) (hn:fn.ntmps=n) (hrs:fn.results=#[]) (hp:zfr rest=true)
  (hop:Wop P T (.binOp .neq t2 (.tmp d) (.const .nilIface) t3) (zaN ((as9++List.replicate (n - as9.length) AV.bot).set d (recV u))) σ (fun r s=>r=bl b∧s=σ) (fun _ _=>False))
  (h:W P T σ.length rest (((as9++List.replicate (n - as9.length) AV.bot).set d (recV u)).set d2 (bl b)) σ (endD K)):DCalls P f as9 σ u K:=by
 intro H w m vs u1 hg hs hr hu
 refine callsDIn_of_wpSIn hf hb trivial ?_
 intro c0 cs hm
 have hl:=zan hr
 refine wpSIn_seq (wpSIn_region ?_)
 have he0:reps w (own H m σ) m (as9++List.replicate (n - as9.length) .bot) (vs++Array.replicate (fn.ntmps - vs.size) undef).toList:=by
  simp only [Array.toList_append,Array.toList_replicate]
  refine zby hr ?_
  rw [show vs.size=as9.length by simpa using hl,hn]
  exact zeR _ _
 obtain⟨v,u2,hrec,hset,hv⟩:∃ v u2,(match recoverD (c0::cs) with
   | some (v,cs')=>(v,cs')
   | none=>(.nilIface,c0::cs))=(v,{ c0 with mode:=u2 }::cs)∧settle u2=.returning∧rep w (own H m σ) m (recV u) v:=by
  cases u with
  | none =>
   simp only [zgD] at hu
   subst hu
   refine⟨.nilIface,.returning,?_,rfl,by simp [recV,rep]⟩
   simp only [recoverD,hm]
   rw [← hm]
  | some r =>
   obtain⟨v,rfl,hv⟩:=hu
   refine⟨v,.panicking [{ v:=v,recovered:=true }],?_,rfl,hv⟩
   simp only [recoverD,hm]
 have go:∀ (a:Act),a.defers=[]→reps w (own H m σ) m ((as9++List.replicate (n - as9.length) AV.bot).set d (recV u)) a.tmps.toList →
   wpOpsSIn Fence.wide 0 P #[zeF d ts1 t1 p1 e1, neOp d d2 t2 t3 t4 p2 e2] (Exit.thenS (rest.wpSIn Fence.wide 0 P (bodyPostS P fn c0 cs (fun e u2 w' => (∃ v, e = .returned v) ∧ settle u2 = .returning ∧ ∃ m' σ', St H w' m' σ' ∧ Ext H w (own H m σ) m w' (own H m' σ') m' ∧ K σ'))) (bodyPostS P fn c0 cs (fun e u2 w' => (∃ v, e = .returned v) ∧ settle u2 = .returning ∧ ∃ m' σ', St H w' m' σ' ∧ Ext H w (own H m σ) m w' (own H m' σ') m' ∧ K σ'))) [1] a ({ c0 with mode := u2 } :: cs) w := by
  intro a hd ha
  have hop2:=zcC (H:=H) hT hg hs (o:=neOp d d2 t2 t3 t4 p2 e2) (ρ:=a.eval) hop (zaO hg ha)
  have hw1:Region.wanted (neOp d d2 t2 t3 t4 p2 e2) (yielded #[zeF d ts1 t1 p1 e1,neOp d d2 t2 t3 t4 p2 e2] a.tmps)=true:=rfl
  simp only [wpOpsSIn,List.getElem?_toArray,List.getElem?_cons_succ,List.getElem?_cons_zero,hw1,if_true]
  refine⟨fun _ _=>trivial,?_⟩
  have hex:∃ s:Sem Value,execOp a.eval (neOp d d2 t2 t3 t4 p2 e2)=(do pure (.value (← s))):=⟨_,rfl⟩
  obtain⟨s,hex⟩:=hex
  rw [hex,Sem.run_bind] at hop2 ⊢
  generalize s.run P w=res at hop2
  cases res with
  | halt x w' =>
   simp only [Result.andThen] at hop2
   cases x <;> simp only [OpOK] at hop2
   obtain⟨_,_,_,_,_,_,hk⟩:=hop2
   exact hk.elim
  | ok x w' =>
   simp only [Result.andThen_ok,Sem.run_pure,OpOK] at hop2 ⊢
   obtain ⟨r, m', σ', g1, g2, g3, rfl, rfl⟩ := hop2
   simp only [Exit.thenS]
   have ha2:=zaM (a:=a) (zah g2 _ _ ha) (some d2) g3
   have h' := (congrFun (congrFun (congrFun (zj4 ‹Globs› [] P T σ'.length rest) _) σ') (endD K)).mpr h
   have hw := @W_sound_d H (za8 ‹Globs› []) none 0 P T hT σ'.length w (own H m σ') m hg [] rest _ σ' _ (a.put (some d2) x) w' m' hp h' g2 g1 ha2 (by rw [zaB, hd]; exact @Mk.nil (za8 ‹Globs› []) _ _ _) (by rw [zaB]; exact hd)
   refine wpSIn_of_wpIn rfl (wpIn_mono hw ?_)
   rintro e a' w'' ⟨⟨x', env', σ'', m'', k1, k2, k3, k4, k5, k6⟩, kd⟩
   have fin : K σ'' → a'.defers = [] ∧ ∃ u', ({ c0 with mode := u2 } :: cs : List Frame) = { c0 with mode := u' } :: cs ∧ ∃ v, (results fn a'.tmps).run P w'' = .ok v w'' ∧ ((∃ v', (Ending.returned v) = .returned v') ∧ settle u' = .returning ∧ ∃ m' σ'', St H w'' m' σ'' ∧ Ext H w (own H m σ') m w'' (own H m' σ'') m' ∧ K σ'') := by
    intro hk
    obtain⟨v,l,q1,q2,_⟩:=zdv (P:=P) (T:=T) (fn:=fn) (K:=fun _=>True) (a:=a') hT k1 k3 (by rw [hrs];trivial)
    exact ⟨kd, u2, rfl, v, q1, ⟨v, rfl⟩, hset, m'', σ'', k1, k2, hk⟩
   cases x' with
   | normal =>
    cases e <;> simp only [xRep] at k5
    exact fin k6
   | ret =>
    cases e <;> simp only [xRep] at k5
    exact fin k6
   | exit i=>exact k6.elim
   | pan r=>exact k6.elim
 have hw0:∀ tm,Region.wanted (zeF d ts1 t1 p1 e1) (yielded #[zeF d ts1 t1 p1 e1,neOp d d2 t2 t3 t4 p2 e2] tm)=true:=fun _=>rfl
 show wpOpsSIn Fence.wide 0 P _ _ [0,1] _ _ w
 rw [wpOpsSIn]
 simp only [List.getElem?_toArray,List.getElem?_cons_zero,hw0,if_true]
 refine⟨fun _ _=>trivial,?_⟩
 have hr0:(execOp (Act.eval { tmps:=vs++Array.replicate (fn.ntmps - vs.size) undef,defers:=[] }) (zeF d ts1 t1 p1 e1)).run P w=.ok .recover w:=rfl
 rw [hr0]
 simp only
 have fin:=go (Act.put { tmps:=vs++Array.replicate (fn.ntmps - vs.size) undef,defers:=[] } (some d) v) rfl (zaM (a:={ tmps:=vs++Array.replicate (fn.ntmps - vs.size) undef,defers:=[] }) he0 (some d) hv)
 generalize recoverD (c0::cs)=rc at hrec
 cases rc with
 | none =>
  simp only [Prod.mk.injEq] at hrec
  obtain⟨rfl,e⟩:=hrec
  rw [← e] at fin
  exact fin
 | some q =>
  obtain⟨v',cs'⟩:=q
  simp only [Prod.mk.injEq] at hrec
  obtain⟨rfl,rfl⟩:=hrec
  exact fin
end Go.Eng
end

section
/-
 Maps by their keys,and panics,as9 steps. No condition.
-/
namespace Go.Eng
open Go
section
variable [Globs] {P : Program} {T : Tab} {σ : zaa} {ev : Operand → AV} {K Kp : AV → zaa → Prop} {KA : AV → Prop}
def tyMap (k e:TypeId):TI:=⟨.map k e,1,8,[.map none],false⟩
def wpan (x:AV) (σ:zaa) (Kp:AV→zaa→Prop):Prop:=match x with
 | .ifc t v=>Kp (.ifc t v) σ
 | _=>False
theorem wpan_ifc (t:TypeId) (v:AV):wpan (.ifc t v) σ Kp=Kp (.ifc t v) σ:=rfl
theorem Wop_panic (x:Operand):Wop P T (.panic x) ev σ K Kp=wpan (ev x) σ Kp:=rfl
end
end Go.Eng
end

section
/-
 Rules for functions that defer. No condition.
-/
namespace Go.Eng
open Go
section
variable [Globs] {P : Program} {T : Tab} {n0 : Nat} {env : Env} {σ : zaa} {Q : Post} {D : AV → Code → Env → zaa → Prop} {KS : AV → zaa → Prop} {K : AV → Prop}
theorem WD_none {a b:Code} (h:zcS a=none):WD P T n0 (.seq a b) env σ Q D=W P T n0 a env σ (seqQ (fun env σ=>WD P T n0 b env σ Q D) Q):=by
 simp only [WD,h]
theorem WD_some {a b:Code} {ops:Array Oper} {l:List Oper} {x:Operand} (h:zcS a=some (ops,l,x)):WD P T n0 (.seq a b) env σ Q D=wops P T ops l env σ (seqQ (fun env σ=>D (zaN env x) b env σ) Q):=by
 simp only [WD,h]
theorem recQ_ret (rs : List ResultVar) (KK : AEnd → zaa → Prop) (f : FuncId) (cap : List AV) : recQ P T n0 rs KK f cap .ret env σ = DCalls P f cap σ none (fun σ' => wres T env σ' rs fun l => endQ n0 (zcR l) σ' (fun r σ' => KK (.ret r) σ')) := rfl
theorem recQ_pan (rs : List ResultVar) (KK : AEnd → zaa → Prop) (f : FuncId) (cap : List AV) (r : AV) : recQ P T n0 rs KK f cap (.pan r) env σ = DCalls P f cap σ (some r) (fun σ' => wres T env σ' rs fun l => endQ n0 (zcR l) σ' (fun r σ' => KK (.ret r) σ')) := rfl
theorem wres_nil (KL:List AV→Prop):wres T env σ [] KL=KL []:=rfl
theorem wres_cell (a:Tmp) (t:TypeId) (r:List ResultVar) (KL:List AV→Prop):wres T env σ (.cell a t::r) KL=zen T t ((env[a]?).getD .bot) σ (fun v=>wres T env σ r fun l=>KL (v::l)):=rfl
theorem wres_tmp (t:Tmp) (r:List ResultVar) (KL:List AV→Prop):wres T env σ (.tmp t::r) KL=wres T env σ r fun l=>KL (((env[t]?).getD .bot)::l):=rfl
theorem packR_1 (x:AV):zcR [x]=x:=rfl
theorem packR_2 (x y:AV):zcR [x,y]=.tup [x,y]:=rfl
theorem packR_3 (x y z:AV):zcR [x,y,z]=.tup [x,y,z]:=rfl
theorem retQ_wres (r : ResultVar) (rs : List ResultVar) (KK : AEnd → zaa → Prop) : retQ T n0 (r :: rs) KK .ret env σ = wres T env σ (r :: rs) fun l => endQ n0 (zcR l) σ (fun r σ' => KK (.ret r) σ') := rfl
theorem endD_normal (KD:zaa→Prop):endD KD .normal env σ=KD σ:=rfl
theorem st_nilc (e:TypeId) (id:Nat) (c:AV):st2 (some (tySl e)) (some (.rw [c])) id 0 (.lit (.slice none 0 0)) σ KS=KS (.lit undef) (σ.set id (.rw [.lit (.slice none 0 0)])):=by
 simp [st2,tySl,AV.cells,AV.one,Value.oneCell',za0]
theorem st_slsc (e:TypeId) (id:Nat) (c:AV) (cs:List AV) (n:Nat):st2 (some (tySl e)) (some (.rw [c])) id 0 (.sl cs n) σ KS=KS (.lit undef) (σ.set id (.rw [.sl cs n])):=by
 simp [st2,tySl,AV.cells,AV.one,za0]
theorem box_slc {eB:TypeId} (cs:List AV) (n:Nat):wbox eB (.sl cs n) σ KS=KS (.ptr σ.length 0) (σ++[.rw [.sl cs n]]):=by
 simp [wbox,zdo,AV.cells,AV.one]
theorem box_refc {eB:TypeId} (i o l s:Nat):wbox eB (.ref i o l s) σ KS=KS (.ptr σ.length 0) (σ++[.rw [.ref i o l s]]):=by
 simp [wbox,zdo,AV.cells,AV.one]
end
end Go.Eng
end

section
/-
 The library's sort of texts,as9 a call that turns a row. No condition.
-/
namespace Go.Eng
open Go Go.Sort Go.Proofs
variable {H : Nat → Prop}
def srt (l:List (List UInt8)):List (List UInt8):=l.mergeSort fun x y=>decide (x≤y)
def SortDoes (P:Program) (f:FuncId):Prop:=∀ (blk off cap:Nat) (ss:List (List UInt8)) (w:World),Holds encStr w blk off ss.toArray→blk < w.heap.size→ss.length < 4611686018427387904 →
 Calls P f #[.slice (some ⟨blk,off,none⟩) ss.length cap] w fun e w'=>e=.returned (.tuple #[])∧∃ n os,w'=grow (putRow encStr (Sort.ahead w n) blk off (srt ss).toArray) os
theorem srt_len (l:List (List UInt8)):(srt l).length=l.length:=by simp [srt]
theorem ACalls.sortStr [Globs] {P:Program} {f:FuncId} (h:SortDoes P f) (hc:zaW P f=true) {σ:zaa} {id:Nat} {l:List (List UInt8)} (hi:σ[id]?=some (.rw (l.map str))) (hne:l≠[]) (hlen:l.length≤1000000) :
  ACalls P f [.ref id 0 l.length 1] σ (fun y σ' => y = .ret (.tup []) ∧ σ' = σ.set id (.rw ((srt l).map str))) := by
 intro H w m vs hg hs hr
 refine .inl ⟨hc,?_⟩
 have hpos:0 < l.length:=List.length_pos_iff.2 hne
 simp only [reps] at hr
 obtain⟨v,r0,hv,hr,rfl⟩:=hr
 simp only [rep] at hr
 rcases hr with ⟨_,h0,_⟩ | ⟨g,cap,c,rfl,hm,hlc,hcm,hcel,_⟩
 ·omega
 have hvs:vs=#[.slice (some ⟨g,0,none⟩) l.length cap]:=by
  apply Array.ext'
  rw [hv]
 subst hvs
 obtain⟨mi,hmi⟩:=hs.id hi
 rw [hm] at hmi
 cases hmi
 rcases hs.blk id _ _ hi hm with ⟨h1,_⟩ | ⟨g',c',e,hrow,hle,hat⟩
 ·exact absurd (List.map_eq_nil_iff.1 h1) hne
 cases e
 have hcc:c'=c:=hrow.cel.eq hcel
 subst hcc
 rw [List.length_map] at hle
 have hcells:∀ j (hj:j < l.length),w.cell? ⟨g,j,none⟩=some (encStr l[j]):=by
  intro j hj
  obtain⟨u,hu,hru⟩:=zbD hat j (str l[j]) (by simp [hj])
  rw [Nat.zero_add] at hu
  simp only [str,rep] at hru
  rw [hu,hru]
 have hH:Holds encStr w g 0 l.toArray:=by
  intro j hj
  have hj':j < l.length:=by simpa using hj
  rw [Nat.zero_add]
  refine⟨?_,hrow.frozen (by omega)⟩
  rw [hcells j hj']
  congr 1
  simp [hj']
 refine(h g 0 cap l w hH hrow.lt (by omega)).mono ?_
 rintro e w' ⟨rfl,n,os,rfl⟩
 obtain⟨el,lo,hi',hheap,hfr⟩:=hrow
 have hglt:g < w.heap.size:=(Array.getElem?_eq_some_iff.1 hheap).1
 obtain⟨w1,hw1⟩:∃ w1,putRow encStr (Sort.ahead w n) g 0 (srt l).toArray=w1:=⟨_,rfl⟩
 have hsz1:w1.heap.size=w.heap.size:=by rw [← hw1];simp [putRow,mapBlock,Sort.ahead]
 have hother:∀ b,b≠g→w1.heap[b]?=w.heap[b]?:=by
  intro b hb
  rw [← hw1]
  simp only [putRow,mapBlock,Sort.ahead,Array.getElem?_modify,Ne.symm hb,if_false]
 have hnew:w1.heap[g]?=some (.cells (putCells encStr 0 (srt l).toArray c') el (lo,hi')):=by
  rw [← hw1]
  simp only [putRow,mapBlock,Sort.ahead,Array.getElem?_modify,if_true,hheap,Option.map_some,onCells]
 have hcs:(putCells encStr 0 (srt l).toArray c').size=c'.size:=by simp [putCells]
 have hget:∀ j (hj:j < (srt l).length),(putCells encStr 0 (srt l).toArray c')[j]?=some (encStr (srt l)[j]):=by
  intro j hj
  have hj2:j < c'.size:=by rw [srt_len] at hj;omega
  simp only [putCells,Array.getElem?_mapIdx,Array.getElem?_eq_getElem hj2,Option.map_some,Nat.zero_le,true_and,Nat.zero_add,List.size_toArray,hj,if_true,Nat.sub_zero]
  simp [hj]
 obtain⟨s1,x1⟩:=hs.turn (w':=w1) (x':=.rw ((srt l).map str)) hi rfl rfl hm hsz1 hother (by rw [← hw1];rfl) (by rw [← hw1];rfl) (by rw [← hw1];rfl) (by
   intro cc hcc
   rw [hcel.eq hcc] at *
   exact⟨_,⟨el,(lo,hi'),hnew⟩,by rw [hcs]⟩) (by
   intro hext
   refine .inr ⟨g,_,rfl,⟨el,lo,hi',hnew,by rw [hcs];exact hfr⟩,by rw [List.length_map,srt_len,hcs];exact hle,zb0 fun j x hx=>?_⟩
   rw [List.getElem?_map,Option.map_eq_some_iff] at hx
   obtain⟨t,ht,rfl⟩:=hx
   obtain⟨hj,rfl⟩:=List.getElem?_eq_some_iff.1 ht
   refine⟨encStr (srt l)[j],?_,by simp only [str,rep]⟩
   rw [Nat.zero_add,Cel.cell ⟨el,(lo,hi'),hnew⟩ j,hget j hj])
 obtain⟨s2,x2⟩:=s1.old (w':=grow w1 os) (by simp [grow]) (fun b hb=>by simp only [grow];rw [Array.getElem?_append_left hb]) rfl rfl rfl
 rw [hw1]
 exact⟨.ret (.tup []),m,_,s2,x1.trans x2,by simp only [zb5,rep];exact⟨#[],rfl,by simp [reps]⟩,rfl,rfl⟩
end Go.Eng
end

section
namespace Go.Eng
open Go
variable [Globs]
theorem ACalls.frz {P:Program} {f:FuncId} {l l':List AV} {σ:zaa} {K:AEnd→zaa→Prop} (ids:List Nat) (hl:frzL (zdX σ ids) l l') (h:ACalls P f l' (zdX σ ids) K):ACalls P f l σ K:=by
 refine fun H w m vs hg hs hr=>?_
 obtain⟨k1,k2⟩:=zcP (w:=w) (m:=m) ids σ hs
 have h1:=ze4 k1 _ _ _ hl (zah k2 _ _ hr)
 refine(h H w m vs (hg.mono k2) k1 h1).mono ?_
 rintro e w' ⟨x, m', σ', g1, g2, g3, g4⟩
 exact ⟨x, m', σ', g1, k2.trans g2, g3, g4⟩
theorem ACalls.tell {P:Program} {f:FuncId} {l:List AV} {σ:zaa} {K:AEnd→zaa→Prop} (ids:List Nat) (i:Nat) {cs cs':List AV} (hi:(zdX σ ids)[i]?=some (.rw cs)) (hc:frzL (zdX σ ids) cs cs')
  (h:ACalls P f l ((zdX σ ids).set i (.rw cs')) K):ACalls P f l σ K:=by
 refine fun H w m vs hg hs hr=>?_
 obtain⟨k1,k2⟩:=zcP (w:=w) (m:=m) ids σ hs
 obtain⟨k3,k4⟩:=k1.retell hi hc
 have k5:=k2.trans k4
 refine(h H w m vs (hg.mono k5) k3 (zah k5 _ _ hr)).mono ?_
 rintro e w' ⟨x, m', σ', g1, g2, g3, g4⟩
 exact ⟨x, m', σ', g1, k5.trans g2, g3, g4⟩
end Go.Eng
end

section
/-
 A struct that begins with a strings.Builder. No condition.
-/
namespace Go.Eng
open Go
section
open Go.Proofs Go.Shelf Go.RowKit
variable {ρ : Go.Shelf.Ren} {P : Program}
end
theorem zf7 [Globs] {P:Program} {f:FuncId} {xs:List AV} {v:AV} (g:Nat) (hgi:g∈Globs.ints) (hc:zaW P f=true)
  (h:∀ (w:World) (O:Nat→Prop) (m:Ids) (vs:Array Value) (n:Int),w.cell? ⟨g,0,none⟩=some (.int .i64 n)→reps w O m xs vs.toList→Calls P f vs w fun e w'=>(∃ u,e=.returned u∧∀ (w':World) (O:Nat→Prop) (m:Ids),rep w' O m v u)∧RowKit.Below w.heap.size w w'):ACalls P f xs [] (fun x _=>x=.ret v):=by
 refine fun H w m vs hg hs hr=>.inl ⟨hc,?_⟩
 obtain⟨_,_,n,hn⟩:=hg.2.1 g hgi
 refine(h w _ m vs n hn hr).mono ?_
 rintro e w' ⟨⟨u,rfl,hu⟩,hb⟩
 obtain⟨s1,x1⟩:=hs.old (w':=w') hb.size hb.block hb.os hb.tape hb.output
 exact⟨.ret v,m,[],s1,x1,hu _ _ _,rfl⟩
theorem acalls_belowE [Globs] {P:Program} {f:FuncId} {xs:List AV} {v:AV} (g:Nat) (hgi:g∈Globs.errs) (hc:zaW P f=true)
  (h:∀ (w:World) (O:Nat→Prop) (m:Ids) (vs:Array Value) (t:TypeId) (x:Value),w.cell? ⟨g,0,none⟩=some (.iface t x)→reps w O m xs vs.toList→Calls P f vs w fun e w'=>(∃ u,e=.returned u∧∀ (w':World) (O:Nat→Prop) (m:Ids),rep w' O m v u)∧RowKit.Below w.heap.size w w'):ACalls P f xs [] (fun x _=>x=.ret v):=by
 refine fun H w m vs hg hs hr=>.inl ⟨hc,?_⟩
 obtain⟨_,_,t,x,hn⟩:=hg.2.2 g hgi
 refine(h w _ m vs t x hn hr).mono ?_
 rintro e w' ⟨⟨u,rfl,hu⟩,hb⟩
 obtain⟨s1,x1⟩:=hs.old (w':=w') hb.size hb.block hb.os hb.tape hb.output
 exact⟨.ret v,m,[],s1,x1,hu _ _ _,rfl⟩
end Go.Eng
end

section
/-
 Structs whose fields have one cell each,and rows of them. No condition.
-/
set_option linter.unusedSectionVars false
namespace Go.Eng
open Go
variable [Globs]
structure RowF {α:Type} (f:α→List AV) (w:Nat):Prop where
 len:∀ a,(f a).length=w
 one:∀ a,(f a).all AV.one=true
 ren:∀ (q:List Nat) a,renL q (f a)=some (f a)
section
variable {α : Type} {f : α → List AV} {w : Nat} {T : Tab} {σ : zaa} {K : AV → Prop} {KS : AV → zaa → Prop}
theorem RowF.flen (h:RowF f w) (l:List α):(l.flatMap f).length=l.length * w:=by
 induction l with
 | nil=>simp
 | cons a l ih=>rw [List.flatMap_cons,List.length_append,ih,h.len,List.length_cons,Nat.succ_mul,Nat.add_comm]
theorem RowF.fdrop (h:RowF f w) (l:List α) (k:Nat):(l.flatMap f).drop (k * w)=(l.drop k).flatMap f:=by
 induction l generalizing k with
 | nil=>simp
 | cons a l ih =>
  cases k with
  | zero=>simp
  | succ k =>
   rw [List.flatMap_cons,List.drop_succ_cons,← ih,Nat.succ_mul,Nat.add_comm (k * w) w,List.drop_append,h.len,List.drop_eq_nil_of_le (by rw [h.len];omega),List.nil_append,Nat.add_sub_cancel_left]
theorem RowF.fall (h:RowF f w) (l:List α):(l.flatMap f).all AV.one=true:=by
 induction l with
 | nil=>rfl
 | cons a l ih=>rw [List.flatMap_cons,List.all_append,h.one,ih];rfl
theorem renL_two (q:List Nat):∀ (a b:List AV),renL q a=some a→renL q b=some b→renL q (a++b)=some (a++b)
 | [],b,_,hb=>hb
 | x::a,b,ha,hb=>by
  simp only [renL,Option.bind_eq_some_iff,Option.map_eq_some_iff] at ha
  obtain⟨x',hx,a',ha',he⟩:=ha
  obtain⟨rfl,rfl⟩:x'=x∧a'=a:=by simpa using he
  simp only [List.cons_append,renL,hx,renL_two q _ _ ha' hb,Option.bind_some,Option.map_some]
theorem RowF.fren (h:RowF f w) (q:List Nat) (l:List α):renL q (l.flatMap f)=some (l.flatMap f):=by
 induction l with
 | nil=>rfl
 | cons a l ih=>rw [List.flatMap_cons];exact renL_two q _ _ (h.ren q a) ih
theorem RowF.fsl (h:RowF f w) (q:List Nat) (l:List α) (n:Nat):(AV.sl (l.flatMap f) n).ren q=some (.sl (l.flatMap f) n):=by
 simp only [AV.ren,h.fren,Option.map_some]
theorem RowF.full (h:RowF f w) (l:List α):(l.flatMap f).take (l.length * w)=l.flatMap f:=List.take_of_length_le (by rw [h.flen];exact Nat.le_refl _)
theorem mul_le_iff {w m n:Nat} (hw:0 < w):(m * w≤n * w)=(m≤n):=propext ⟨fun h=>Nat.le_of_mul_le_mul_right h hw,fun h=>Nat.mul_le_mul_right w h⟩
theorem RowF.ia (h:RowF f w) {ti:TI} (hs:ti.size=w) (hw:0 < w) (l:List α) (m:Nat) (k:Int):ia3 (some ti) (.sl (l.flatMap f) m) k K=(0≤k∧k < m∧m≤l.length∧K (.rp ((l.drop k.toNat).flatMap f))):=by
 subst hs
 simp only [ia3,h.flen,h.fdrop,mul_le_iff hw,hw,true_and]
theorem RowF.ld (h:RowF f w) {ti:TI} (hs:ti.size=w) (hw:0 < w) (ha:ti.d.agg=true) (d:α) (l:List α) (k:Nat):ld2 (some ti) (some ((l.drop k).flatMap f)) 0 K=(k < l.length∧K (.agg (f (l.getD k d)))):=by
 subst hs
 by_cases hk:k < l.length
 ·rw [List.drop_eq_getElem_cons hk,List.flatMap_cons]
  have e:l.getD k d=l[k]:=by simp [hk]
  simp only [ld2,wfin,List.drop_zero,List.length_append,h.len,ha,if_true,hk,true_and,e]
  rw [List.take_append_of_le_length (by rw [h.len];exact Nat.le_refl _),List.take_of_length_le (by rw [h.len];exact Nat.le_refl _)]
  simp
 ·rw [List.drop_eq_nil_of_le (by omega)]
  simp [ld2,wfin,hk]
  omega
theorem RowF.ldf (h:RowF f w) {ti:TI} (h1:ti.size=1) (ha:ti.d.agg=false) (o:Nat) (ho:o < w) (d:α) (l:List α) (k:Nat):ld2 (some ti) (some (((l.drop k).flatMap f).drop o)) 0 K=(k < l.length∧K (((f (l.getD k d))[o]?).getD .bot)):=by
 by_cases hk:k < l.length
 ·rw [List.drop_eq_getElem_cons hk,List.flatMap_cons]
  have e:l.getD k d=l[k]:=by simp [hk]
  have hl:=h.len l[k]
  simp only [ld2,wfin,List.drop_zero,List.length_drop,List.length_append,hl,ha,h1,if_false,hk,true_and,e,Bool.false_eq_true,List.getElem?_drop,Nat.add_zero]
  rw [List.getElem?_append_left (by omega)]
  simp only [show (1≤w+(List.flatMap f (List.drop (k+1) l)).length - o)=True from eq_true (by omega),true_and]
 ·have e:l.drop k=[]:=List.drop_eq_nil_of_le (by omega)
  rw [e]
  simp [ld2,wfin,hk,h1]
theorem RowF.ldf0 (h:RowF f w) {ti:TI} (h1:ti.size=1) (ha:ti.d.agg=false) (ho:0 < w) (d:α) (l:List α) (k:Nat):ld2 (some ti) (some ((l.drop k).flatMap f)) 0 K=(k < l.length∧K (((f (l.getD k d))[0]?).getD .bot)):=by
 have:=h.ldf (K:=K) h1 ha 0 ho d l k
 simpa using this
theorem RowF.asrc (h:RowF f w) (l:List α):Go.Eng.asrc σ w (.sl (l.flatMap f) l.length)=some (l.flatMap f,l.length):=by
 simp only [Go.Eng.asrc,asl,h.flen,Nat.le_refl,if_true,h.full]
theorem RowF.app (h:RowF f w) {ts:Array TypeId} {t t1 e:TypeId} {te tx:TI} (h0:ts[0]?=some t) (h1:ts[1]?=some t1) (ht:T t=some (tySl e)) (ht1:T t1=some tx) (hx:(∀ k,tx.d≠.int k)∧tx.d≠.other) (he:T e=some te) (hs:te.size=w) (hz:te.zero.length=w) {id m:Nat} {l ys:List α} {x:AV}
  (hc:σ[id]?=some (.rw (l.flatMap f))) (hx2:Go.Eng.asrc σ w x=some (ys.flatMap f,m)) (hm:m=ys.length) (g1:l.length+m≤9223372036854775807) (g2:(l.length+m) * te.bytes≤140737488355328)
  (hk:KS (.ref σ.length 0 (l.length+m) w) (σ.set id .dead++[.rw ((l++ys).flatMap f)])):zbA T ts (.ref id 0 l.length w) x σ KS:=by
 subst hs
 have hd:adst σ te.size (.ref id 0 l.length te.size)=some (l.flatMap f,l.length,σ.set id .dead):=by
  simp only [adst,hc,h.flen,if_true,Nat.le_refl,h.full]
 simp only [zbA,h0,h1,Option.bind_some,ht,ht1]
 simp only [tySl]
 refine⟨hx.1,hx.2,te,he,?_⟩
 simp only [hx2,hd]
 refine⟨hz,h.fall ys,h.fall l,g1,g2,?_⟩
 rw [List.flatMap_append] at hk
 exact hk
theorem RowF.frz (h:RowF f w) {id n:Nat} {l:List α} (hc:σ[id]?=some (.ro (l.flatMap f))) (hn:n=l.length):frzA σ (.ref id 0 n w) (.sl (l.flatMap f) l.length):=by
 subst hn
 refine .inr ⟨_,hc,by rw [h.flen];omega,?_⟩
 rw [List.drop_zero,h.full]
theorem RowF.endQ (h:RowF f w) {id:Nat} {l:List α} (hc:σ[id]?=some (.rw (l.flatMap f))) (hk:KS (.sl (l.flatMap f) l.length) []):Go.Eng.endQ 0 (.ref id 0 l.length w) σ KS:=by
 refine zfC hc (by rw [h.flen];omega) (h.fren _ _) ?_
 rw [List.drop_zero,h.full]
 exact hk
end
section
variable {T : Tab} {σ : zaa} {K : AV → Prop} {KS : AV → zaa → Prop}
theorem lz0 {ti:TI} (h1:ti.size=1) (ha:ti.d.agg=false) (a:AV) (r:List AV):ld2 (some ti) (some (a::r)) 0 K=K a:=by
 simp [ld2,wfin,h1,ha]
theorem lzS {ti:TI} (a:AV) (r:List AV) (n:Nat):ld2 (some ti) (some (a::r)) (n+1) K=ld2 (some ti) (some r) n K:=by
 simp [ld2]
theorem lzW {ti:TI} {cs:List AV} (hs:ti.size=cs.length) (ha:ti.d.agg=true):ld2 (some ti) (some cs) 0 K=K (.agg cs):=by
 simp [ld2,wfin,hs,ha]
theorem putAt_fullZ (cs:List AV):∀ (ds:List AV) (pre:List AV),cs.length=ds.length→za0 (pre++cs) pre.length ds=pre++ds:=by
 induction cs with
 | nil =>
  intro ds pre h
  have:ds=[]:=List.eq_nil_of_length_eq_zero (by simpa using h.symm)
  subst this
  simp [za0]
 | cons a cs ih =>
  intro ds pre h
  cases ds with
  | nil=>simp at h
  | cons b ds =>
   have e:(pre++a::cs).set pre.length b=(pre++[b])++cs:=by simp
   rw [za0,e]
   have:=ih ds (pre++[b]) (by simpa using h)
   simp only [List.length_append,List.length_singleton] at this
   rw [this]
   simp
theorem szW {ti:TI} {cs ds:List AV} (hs:ti.size=ds.length) (hl:cs.length=ds.length) (hd:ds.all AV.one=true) (id:Nat):st2 (some ti) (some (.rw cs)) id 0 (.agg ds) σ KS=KS (.lit undef) (σ.set id (.rw ds)):=by
 have:=putAt_fullZ cs ds [] hl
 simp only [List.nil_append,List.length_nil] at this
 simp only [st2,AV.cells,hs,hl,hd,this,Nat.zero_add,Nat.le_refl,true_and]
theorem bxW {cs:List AV} (hd:cs.all AV.one=true) (hb:zdo cs=false) (e:TypeId):wbox e (.agg cs) σ KS=KS (.ptr σ.length 0) (σ++[.rw cs]):=by
 simp only [wbox,AV.cells,hd,hb,Bool.false_eq_true,if_false,true_and]
theorem fzP {t:TypeId} {ti:TI} {fs:List (TypeId × Nat)} {i:Nat} {ft:TypeId} {off:Nat} {tf:TI} (ht:T t=some ti) (hd:ti.d=.struct fs) (hf:fs[i]?=some (ft,off)) (h2:T ft=some tf) (h3:tf.size≠0) (id o:Nat):zag T t (.ptr id o) i K=K (.ptr id (o+off)):=by
 simp only [zag,ht,hd,hf]
 exact propext ⟨fun h=>h.2,fun h=>⟨⟨tf,h2,h3⟩,h⟩⟩
theorem fzR {t:TypeId} {ti:TI} {fs:List (TypeId × Nat)} {i:Nat} {ft:TypeId} {off:Nat} {tf:TI} (ht:T t=some ti) (hd:ti.d=.struct fs) (hf:fs[i]?=some (ft,off)) (h2:T ft=some tf) (h3:tf.size≠0) (cs:List AV):zag T t (.rp cs) i K=K (.rp (cs.drop off)):=by
 simp only [zag,ht,hd,hf]
 exact propext ⟨fun h=>h.2,fun h=>⟨⟨tf,h2,h3⟩,h⟩⟩
end
end Go.Eng
end

section
/-
 Maps that are gone through,as9 steps. No condition.
-/
namespace Go.Eng
open Go
section
variable [Globs] {P : Program} {T : Tab} {σ : zaa} {ev : Operand → AV} {K Kp : AV → zaa → Prop} {KA : AV → Prop}
theorem bren_mpi (q:List Nat) (ks:List Value) (vs:List AV) (sn:List Nat):(Blk.mpi ks vs sn).ren q=(renL q vs).map (.mpi ks · sn):=rfl
end
end Go.Eng
end

section
/-
 The call that a function defers,where it recovers first and then looks at what it has;regions whose order is open,order by order. No condition.
-/
namespace Go.Eng
open Go
variable {H : Nat → Prop} [Globs]
theorem tree_any_d {r:Option Nat} {n:Nat} {P:Program} {T:Tab} (hT:zaD P T) {ops:Array Oper} {w0:World} {O0:Nat→Prop} {m0:Ids} (hG:Glob w0 O0) {Q:Post} {ds:List Deferred}:∀ (fuel:Nat) (l:Array Bool) (env:Env) (σ:zaa) (a:Act) (w:World) (m:Ids),l.size=ops.size→cnt l ops.size≤fuel →
  zcQ P T ops (zdJ ops fuel l) env σ Q→Ext H w0 O0 m0 w (own H m σ) m→St H w m σ→reps w (own H m σ) m env a.tmps.toList→Mk w0.heap.size w (own H m σ) a.defers→a.defers=ds →
  wpAnyIn (FR r) n P .any ops (fun e a' w'=>lift H w0 O0 m0 Q e a' w'∧a'.defers=ds) fuel l a w:=by
 intro fuel
 induction fuel with
 | zero =>
  intro l env σ a w m hls hc h h0 hs he hd hds
  have hall:=zdI (l:=l) ops.size (by omega)
  have hr:Region.ready .any ops l=[]:=by
   cases hr:Region.ready .any ops l with
   | nil=>rfl
   | cons i rs =>
    obtain⟨o,ho,_,h1,_⟩:=zaS (i:=i) (by rw [hr];simp)
    have hi:=(Array.getElem?_eq_some_iff.1 ho).1
    rw [hall i hi] at h1
    simp at h1
  exact⟨hr,⟨.normal,env,σ,m,hs,h0,he,hd,trivial,h⟩,hds⟩
 | succ fuel ih =>
  intro l env σ a w m hls hc h h0 hs he hd hds
  simp only [zdJ] at h
  refine⟨fun hr=>?_,fun i hi=>?_⟩
  ·rw [hr] at h
   exact⟨⟨.normal,env,σ,m,hs,h0,he,hd,trivial,h⟩,hds⟩
  ·have h':zcQ P T ops ((Region.ready .any ops l).foldr (fun i acc=>.br i (zdJ ops fuel (l.setIfInBounds i true)) acc) .nil) env σ Q:=by
    cases hr:Region.ready .any ops l with
    | nil=>rw [hr] at hi;cases hi
    | cons j rs=>rw [hr] at h;exact h
   have hm:=zhJ _ h' i hi
   obtain⟨o,ho,_,hun,_⟩:=zaS hi
   have hi':=(Array.getElem?_eq_some_iff.1 ho).1
   have hil:i < l.size:=by rw [hls];exact hi'
   rw [ho] at hm
   simp only at hm
   have hcnt:cnt (l.setIfInBounds i true) ops.size≤fuel:=by
    have:=zf4 (l:=l) (l':=l.setIfInBounds i true) (fun j hj=>by rw [zaf hil,hj];simp) hun (by rw [zaf hil,if_pos rfl]) ops.size hi'
    omega
   unfold wpOpIn
   rw [ho]
   simp only
   rcases zbj (a:=a) hm he with ⟨hw,h⟩ | ⟨hw,h⟩
   ·rw [if_pos hw]
    have hop:=zcC hT (hG.mono h0) hs (o:=o) (ρ:=a.eval) h (zaO (hG.mono h0) he)
    exact wpIn_keep hds (zeq hG h0 hs he hd (zct h) hop fun v r w' m' σ' g1 g2 g3 g4 g5 => ih _ _ _ _ _ m' (by simpa using hls) hcnt g5 g1 g2 g3 g4 (by rw [zaB]; exact hds))
   ·rw [if_neg (by simp [hw])]
    exact⟨fun _ _=>trivial,ih _ _ _ _ _ m (by simpa using hls) hcnt h h0 hs (zaM he _ (by simp only [rep])) (by rw [zaB];exact hd) (by rw [zaB];exact hds)⟩
theorem drawT_sound_d {r:Option Nat} {n:Nat} {P:Program} {T:Tab} (hT:zaD P T) {ops:Array Oper} {w0:World} {O0:Nat→Prop} {m0:Ids} (hG:Glob w0 O0) {Q:Post} {ds:List Deferred} {σ:zaa} {env:Env} {a:Act} {w:World} {m:Ids} {id:Nat} (hm:P.follows .mixedOrders=true)
  (h:zcQ P T ops (zdJ ops ops.size (zhK ops)) env σ Q) (h0:Ext H w0 O0 m0 w (own H m σ) m) (hs:St H w m σ) (he:reps w (own H m σ) m env a.tmps.toList) (hd:Mk w0.heap.size w (own H m σ) a.defers) (hds:a.defers=ds):(Code.region id ops true).wpIn (FR r) n P (fun e a' w'=>lift H w0 O0 m0 Q e a' w'∧a'.defers=ds) a w:=by
 refine wpIn_region_any hm ?_
 obtain⟨k1,k2⟩:=hs.old (w':={ heap:=w.heap,tape:=w.tape,drawn:=w.drawn+1,os:=w.os,output:=w.output }) (Nat.le_refl _) (fun _ _=>rfl) rfl rfl rfl
 refine tree_any_d hT hG ops.size _ env σ a _ m (by simp) ?_ h (h0.trans k2) k1 (zah k2 _ _ he) (hd.mono k2) hds
 have:∀ n,cnt (Array.replicate ops.size false) n≤n:=by
  intro n
  induction n with
  | zero=>exact Nat.le_refl _
  | succ n ih=>simp only [cnt];split <;> omega
 exact this _
def WP (P:Program) (T:Tab) (n0:Nat):Code→Env→zaa→Post→Prop
 | .skip,env,σ,Q=>Q .normal env σ
 | .region _ ops false,env,σ,Q=>wops P T ops ops.toList env σ Q
 | .region _ ops true,env,σ,Q=>P.follows .mixedOrders=true∧zcQ P T ops (zdJ ops ops.size (zhK ops)) env σ (fitX n0 Q)
 | .seq a b,env,σ,Q=>WP P T n0 a env σ (seqQ (fun env σ=>WP P T n0 b env σ Q) Q)
 | .cond c a b,env,σ,Q=>match zaN env c with
  | .lit (.bool p)=>(p=true→WP P T n0 a env σ Q)∧(p=false→WP P T n0 b env σ Q)
  | _=>False
 | .ret,env,σ,Q=>Q .ret env σ
 | _,_,_,_=>False
def kontP (P:Program) (T:Tab) (n0:Nat) (c:Code) (Q:Post) (env:Env) (σ:zaa):Prop:=WP P T n0 c env σ Q
section
variable {P : Program} {T : Tab} {n0 : Nat}
end
theorem WP_base (b:List Deferred) (G:Globs) (P:Program) (T:Tab) (n0:Nat):∀ c,@WP (za8 G b) P T n0 c=@WP G P T n0 c:=by
 intro c
 induction c with
 | region id ops draw =>
  funext env σ Q
  cases draw with
  | false=>simp only [WP,zeP]
  | true=>simp only [WP,zd3]
 | seq x y ihx ihy=>funext env σ Q;simp only [WP,ihx,ihy]
 | cond c x y ihx ihy=>funext env σ Q;simp only [WP,ihx,ihy];rfl
 | _=>rfl
theorem WP_sound {r:Option Nat} {n:Nat} {P:Program} {T:Tab} (hT:zaD P T) {n0:Nat} {w0:World} {O0:Nat→Prop} {m0:Ids} (hG:Glob w0 O0) (hn:m0.length=n0) {ds:List Deferred}:∀ (c:Code) (env:Env) (σ:zaa) (Q:Post) (a:Act) (w:World) (m:Ids),WP P T n0 c env σ Q →
  Ext H w0 O0 m0 w (own H m σ) m→St H w m σ→reps w (own H m σ) m env a.tmps.toList→Mk w0.heap.size w (own H m σ) a.defers→a.defers=ds→c.wpIn (FR r) n P (fun e a' w'=>lift H w0 O0 m0 Q e a' w'∧a'.defers=ds) a w:=by
 intro c
 induction c with
 | skip=>exact fun env σ Q a w m h h0 hs he hd hds=>wpIn_skip ⟨⟨.normal,env,σ,m,hs,h0,he,hd,trivial,h⟩,hds⟩
 | ret=>exact fun env σ Q a w m h h0 hs he hd hds=>wpIn_ret ⟨⟨.ret,env,σ,m,hs,h0,he,hd,trivial,h⟩,hds⟩
 | region id ops draw =>
  intro env σ Q a w m h h0 hs he hd hds
  cases draw with
  | true =>
   obtain⟨h1,h2⟩:=h
   refine wpIn_mono (drawT_sound_d hT hG h1 h2 h0 hs he hd hds) ?_
   rintro e a' w' ⟨⟨x', env', σ', m', g1, g2, g3, g4, g5, g6⟩, gd⟩
   cases x' <;> simp only [fitX] at g6
   rotate_left
   · exact ⟨⟨_, env', σ', m', g1, g2, g3, g4, g5, g6⟩, gd⟩
   obtain⟨E,S,g6,h3⟩:=g6
   cases e <;> simp only [xRep] at g5
   obtain⟨m2,s2,e2,x2,o2⟩:=zdZ g6 g1 g3 g2 hn
   exact⟨⟨.normal,E,S,m2,s2,x2,e2,o2 _ _ g4,trivial,h3⟩,gd⟩
  | false=>exact wpIn_region_list (zc2 hT hG _ _ _ _ _ _ h h0 hs he hd hds)
 | cond c x y ihx ihy =>
  intro env σ Q a w m h h0 hs he hd hds
  simp only [WP] at h
  split at h
  ·rename_i p hpp
   have hc:=zaO (hG.mono h0) he c
   rw [hpp] at hc
   simp only [rep] at hc
   exact wpIn_cond_split hc (fun ht=>ihx env σ Q a w m (h.1 ht) h0 hs he hd hds) (fun hf=>ihy env σ Q a w m (h.2 hf) h0 hs he hd hds)
  ·exact h.elim
 | seq x y ihx ihy =>
  intro env σ Q a w m h h0 hs he hd hds
  refine wpIn_seq (wpIn_mono (ihx env σ _ a w m h h0 hs he hd hds) ?_)
  rintro e a' w' ⟨⟨x', env', σ', m', g1, g2, g3, g4, g5, g6⟩, gd⟩
  cases x' with
  | normal =>
   cases e <;> simp only [xRep] at g5
   exact ihy env' σ' Q a' w' m' g6 g2 g1 g3 g4 gd
  | exit i =>
   cases e <;> simp only [xRep] at g5
   exact ⟨⟨.exit i, env', σ', m', g1, g2, g3, g4, g5, g6⟩, gd⟩
  | ret =>
   cases e <;> simp only [xRep] at g5
   exact ⟨⟨.ret, env', σ', m', g1, g2, g3, g4, trivial, g6⟩, gd⟩
  | pan r =>
   cases e <;> simp only [xRep] at g5
   exact ⟨⟨.pan r, env', σ', m', g1, g2, g3, g4, g5, g6⟩, gd⟩
 | _=>intro env σ Q a w m h;exact h.elim
def plainO:Op→Bool
 | .move _ | .assign _ | .alloc _ | .build .. | .load .. | .store .. | .typeAssert .. | .extract .. | .makeInterface .. | .binOp .. | .fieldAddr ..=>true
 | _=>false
theorem plain_run {o:Oper} (h:plainO o.op=true) (ρ:Operand→Value) (P:Program) (w:World):match (execOp ρ o).run P w with
  | .ok (.value _) _ | .ok .skip _ | .halt _ _=>True
  | _=>False:=by
 have hv:∀ s:Sem Value,match (do pure (Next.value (← s)):Sem Next).run P w with
  | .ok (.value _) _ | .ok .skip _ | .halt _ _=>True
  | _=>False:=by
  intro s
  rw [Sem.run_bind]
  cases s.run P w <;> simp [Result.andThen,Sem.run_pure]
 have hu:∀ s:Sem Unit,match (do s;pure Next.skip:Sem Next).run P w with
  | .ok (.value _) _ | .ok .skip _ | .halt _ _=>True
  | _=>False:=by
  intro s
  rw [Sem.run_bind]
  cases s.run P w <;> simp [Result.andThen,Sem.run_pure]
 unfold execOp
 cases hop:o.op <;> rw [hop] at h <;> simp only [plainO] at h <;> first | exact absurd h (by decide) | exact hv _ | exact hu _ | simp [Sem.run_pure]
theorem zhZ {F:Fence} (hF:F.round=none) {n:Nat} {P:Program} {ops:Array Oper} {Q:Exit→Act→List Frame→World→Prop} {cs:List Frame}:∀ (l:List Nat) (a:Act) (w:World),(∀ i∈l,∀ o,ops[i]?=some o→plainO o.op=true)→wpOpsIn F n P ops (fun e a' w'=>Q e a' cs w') l a w→wpOpsSIn F n P ops Q l a cs w
 | [],a,w,_,h=>h
 | i::rest,a,w,hp,h=>by
  rw [wpOpsIn] at h
  rw [wpOpsSIn]
  have ih:=fun a w h=>zhZ hF (n:=n) (P:=P) (ops:=ops) (Q:=Q) (cs:=cs) rest a w (fun j hj=>hp j (List.mem_cons_of_mem _ hj)) h
  cases ho:ops[i]? with
  | none =>
   simp only [ho] at h ⊢
   exact ih a w h
  | some o =>
   simp only [ho] at h ⊢
   have hpo:=plain_run (hp i List.mem_cons_self o ho) a.eval P w
   by_cases hw:Region.wanted o (yielded ops a.tmps)=true
   ·simp only [hw,if_true,Oper.wpIn] at h ⊢
    rw [hF,Oper.semAt_none] at h
    refine⟨h.1,?_⟩
    have h2:=h.2
    generalize (execOp a.eval o).run P w=res at h2 hpo
    cases res with
    | ok x w' =>
     cases x <;> simp only [Oper.uponIn] at h2 hpo ⊢ <;> first | exact ih _ _ h2 | exact hpo.elim
    | halt x w' =>
     cases x <;> simp only [Oper.uponIn] at h2 ⊢ <;> first | exact h2 | exact h2.elim
   ·simp only [hw,if_false,Bool.false_eq_true] at h ⊢
    exact⟨h.1,ih _ _ h.2⟩
theorem zf8 {F:Fence} {n:Nat} {P:Program} {ops:Array Oper} {Q Q':Exit→Act→List Frame→World→Prop} (hQ:∀ e a cs w,Q e a cs w→Q' e a cs w):∀ (l:List Nat) (a:Act) (cs:List Frame) (w:World),wpOpsSIn F n P ops Q l a cs w→wpOpsSIn F n P ops Q' l a cs w
 | [],_,_,_,h=>hQ _ _ _ _ h
 | i::rest,a,cs,w,h=>by
  rw [wpOpsSIn] at h ⊢
  have ih:=fun a cs w h=>zf8 hQ (F:=F) (n:=n) (P:=P) (ops:=ops) rest a cs w h
  cases ho:ops[i]? with
  | none =>
   simp only [ho] at h ⊢
   exact ih a cs w h
  | some o =>
   simp only [ho] at h ⊢
   refine⟨h.1,?_⟩
   have h2:=h.2
   by_cases hw:Region.wanted o (yielded ops a.tmps)=true
   ·simp only [hw,if_true] at h2 ⊢
    generalize (execOp a.eval o).run P w=res at h2
    cases res with
    | ok x w' =>
     cases x <;> simp only at h2 ⊢ <;> first | exact h2.elim | exact ih _ _ _ h2 | skip
     generalize recoverD cs=rc at h2
     cases rc <;> exact ih _ _ _ h2
    | halt x w' =>
     cases x <;> simp only at h2 ⊢ <;> first | exact hQ _ _ _ _ h2 | exact h2.elim
   ·simp only [hw,if_false,Bool.false_eq_true] at h2 ⊢
    exact ih _ _ _ h2
theorem DCalls.bodyL {P:Program} {T:Tab} (hT:zaD P T) {f:FuncId} {fn:Func} {id:Nat} {d:Tmp} {ts1:Array TypeId} {t1:TypeId} {p1:String} {e1:Array Edge} {l:List Oper} {rest:Code} {ax:List AV} {σ:zaa} {u:Option AV} {K:zaa→Prop} {n:Nat} (hf:P.funcs[f]?=some fn)
  (hb:fn.body=some (.seq (.region id (zeF d ts1 t1 p1 e1::l).toArray false) rest)) (hn:fn.ntmps=n) (hrs:fn.results=#[]) (hpl:l.all (fun o=>plainO o.op)=true)
  (h:wops P T (zeF d ts1 t1 p1 e1::l).toArray l ((ax++List.replicate (n - ax.length) AV.bot).set d (recV u)) σ (seqQ (kontP P T σ.length rest (endD K)) (endD K))):DCalls P f ax σ u K:=by
 intro H w m vs u1 hg hs hr hu
 refine callsDIn_of_wpSIn hf hb trivial ?_
 intro c0 cs hm
 have hl:=zan hr
 refine wpSIn_seq (wpSIn_region ?_)
 have he0:reps w (own H m σ) m (ax++List.replicate (n - ax.length) .bot) (vs++Array.replicate (fn.ntmps - vs.size) undef).toList:=by
  simp only [Array.toList_append,Array.toList_replicate]
  refine zby hr ?_
  rw [show vs.size=ax.length by simpa using hl,hn]
  exact zeR _ _
 obtain⟨v,u2,hrec,hset,hv⟩:∃ v u2,(match recoverD (c0::cs) with
   | some (v,cs')=>(v,cs')
   | none=>(.nilIface,c0::cs))=(v,{ c0 with mode:=u2 }::cs)∧settle u2=.returning∧rep w (own H m σ) m (recV u) v:=by
  cases u with
  | none =>
   simp only [zgD] at hu
   subst hu
   refine⟨.nilIface,.returning,?_,rfl,by simp [recV,rep]⟩
   simp only [recoverD,hm]
   rw [← hm]
  | some r =>
   obtain⟨v,rfl,hv⟩:=hu
   refine⟨v,.panicking [{ v:=v,recovered:=true }],?_,rfl,hv⟩
   simp only [recoverD,hm]
 let R := bodyPostS P fn c0 cs (fun e u2 w' => (∃ v, e = .returned v) ∧ settle u2 = .returning ∧ ∃ m' σ', St H w' m' σ' ∧ Ext H w (own H m σ) m w' (own H m' σ') m' ∧ K σ')
 have fin:∀ (e:Exit) (a':Act) (w':World),@lift (za8 ‹Globs› []) H w (own H m σ) m (endD K) e a' w'∧a'.defers=[]→R e a' ({ c0 with mode:=u2 }::cs) w':=by
  rintro e a' w'' ⟨⟨x', env', σ'', m'', k1, k2, k3, k4, k5, k6⟩, kd⟩
  have fin : K σ'' → a'.defers = [] ∧ ∃ u', ({ c0 with mode := u2 } :: cs : List Frame) = { c0 with mode := u' } :: cs ∧ ∃ v, (results fn a'.tmps).run P w'' = .ok v w'' ∧ ((∃ v', (Ending.returned v) = .returned v') ∧ settle u' = .returning ∧ ∃ m' σ'', St H w'' m' σ'' ∧ Ext H w (own H m σ) m w'' (own H m' σ'') m' ∧ K σ'') := by
   intro hk
   obtain⟨v,l,q1,q2,_⟩:=zdv (P:=P) (T:=T) (fn:=fn) (K:=fun _=>True) (a:=a') hT k1 k3 (by rw [hrs];trivial)
   exact ⟨kd, u2, rfl, v, q1, ⟨v, rfl⟩, hset, m'', σ'', k1, k2, hk⟩
  cases x' with
  | normal =>
   cases e <;> simp only [xRep] at k5
   exact fin k6
  | ret =>
   cases e <;> simp only [xRep] at k5
   exact fin k6
  | exit i=>exact k6.elim
  | pan r=>exact k6.elim
 have go:∀ (a:Act),a.defers=[]→reps w (own H m σ) m ((ax++List.replicate (n - ax.length) AV.bot).set d (recV u)) a.tmps.toList →
   wpOpsSIn Fence.wide 0 P (zeF d ts1 t1 p1 e1::l).toArray (Exit.thenS (rest.wpSIn Fence.wide 0 P R) R) (List.range' 1 l.length) a ({ c0 with mode:=u2 }::cs) w:=by
  intro a hd ha
  have hops:=@zc2 H (za8 ‹Globs› []) none 0 P T hT (zeF d ts1 t1 p1 e1::l).toArray w (own H m σ) m hg _ [] l _ σ a w m ((congrFun (congrFun (congrFun (zeP ‹Globs› [] P T (zeF d ts1 t1 p1 e1::l).toArray l) _) σ) _).mpr h) (Ext.refl _ _ _) hs ha (by rw [hd];exact @Mk.nil (za8 ‹Globs› []) _ _ _) hd
  rw [← wpOpsIn_eq_wpListIn l 1 (by intro j;simp [Nat.add_comm 1 j])] at hops
  have hpl':∀ i∈List.range' 1 l.length,∀ o,(zeF d ts1 t1 p1 e1::l).toArray[i]?=some o→plainO o.op=true:=by
   intro i hi o ho
   have h1:=(List.mem_range'_1.1 hi).1
   obtain⟨j,rfl⟩:∃ j,i=j+1:=⟨i - 1,by omega⟩
   simp only [List.getElem?_toArray,List.getElem?_cons_succ] at ho
   exact List.all_eq_true.1 hpl o (List.mem_of_getElem? ho)
  have hsn:=zhZ (F:=FR none) rfl (n:=0) (P:=P) (Q:=fun e a' cs' w'=>(@lift (za8 ‹Globs› []) H w (own H m σ) m (seqQ (kontP P T σ.length rest (endD K)) (endD K)) e a' w'∧a'.defers=[])∧cs'={ c0 with mode:=u2 }::cs) (cs:={ c0 with mode:=u2 }::cs) _ a w hpl' (by simpa using hops)
  refine zf8 ?_ _ _ _ _ hsn
  rintro e a' cs' w' ⟨⟨⟨x', env', σ', m', g1, g2, g3, g4, g5, g6⟩, gd⟩, rfl⟩
  cases x' with
  | normal =>
   cases e <;> simp only [xRep] at g5
   simp only [Exit.thenS]
   have g7 : WP P T σ.length rest env' σ' (endD K) := g6
   have h' := (congrFun (congrFun (congrFun (WP_base [] ‹Globs› P T σ.length rest) env') σ') (endD K)).mpr g7
   have hw := @WP_sound H (za8 ‹Globs› []) none 0 P T hT σ.length w (own H m σ) m hg hs.len [] rest env' σ' _ a' w' m' h' g2 g1 g3 g4 gd
   exact wpSIn_of_wpIn rfl (wpIn_mono hw fin)
  | ret =>
   cases e <;> simp only [xRep] at g5
   exact fin .ret a' w' ⟨⟨.ret, env', σ', m', g1, g2, g3, g4, trivial, g6⟩, gd⟩
  | exit i=>exact g6.elim
  | pan r=>exact g6.elim
 have hw0:∀ tm,Region.wanted (zeF d ts1 t1 p1 e1) (yielded (zeF d ts1 t1 p1 e1::l).toArray tm)=true:=fun _=>rfl
 have hrange:List.range (zeF d ts1 t1 p1 e1::l).toArray.size=0::List.range' 1 l.length:=by
  rw [List.range_eq_range']
  simp [List.range'_succ]
 rw [hrange]
 rw [wpOpsSIn]
 simp only [List.getElem?_toArray,List.getElem?_cons_zero,hw0,if_true]
 refine⟨fun _ _=>trivial,?_⟩
 have hr0:(execOp (Act.eval { tmps:=vs++Array.replicate (fn.ntmps - vs.size) undef,defers:=[] }) (zeF d ts1 t1 p1 e1)).run P w=.ok .recover w:=rfl
 rw [hr0]
 simp only
 have fin:=go (Act.put { tmps:=vs++Array.replicate (fn.ntmps - vs.size) undef,defers:=[] } (some d) v) rfl (zaM (a:={ tmps:=vs++Array.replicate (fn.ntmps - vs.size) undef,defers:=[] }) he0 (some d) hv)
 generalize recoverD (c0::cs)=rc at hrec
 cases rc with
 | none =>
  simp only [Prod.mk.injEq] at hrec
  obtain⟨rfl,e⟩:=hrec
  rw [← e] at fin
  exact fin
 | some q =>
  obtain⟨v',cs'⟩:=q
  simp only [Prod.mk.injEq] at hrec
  obtain⟨rfl,rfl⟩:=hrec
  exact fin
end Go.Eng
end

