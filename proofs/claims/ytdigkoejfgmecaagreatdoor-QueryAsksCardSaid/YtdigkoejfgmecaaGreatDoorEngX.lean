/-
  The rules as a function that reckons what a call gives. No condition.
-/
import Derived.Test.YtdigkoejfgmecaaGreatDoorEngC
import Derived.Test.YtdigkoejfgmecaaGreatDoorRows
set_option linter.unusedSimpArgs false
set_option linter.unusedVariables false
set_option linter.unusedSectionVars false
section
namespace Go.Eng
open Go
def xfin (ti:TI) (cs:List AV):Option AV :=
 if ti.size≤cs.length then (if ti.d.agg=true then some (.agg (cs.take ti.size)) else if ti.size=1 then some ((cs[0]?).getD .bot) else none) else none
theorem xfin_ok {ti:TI} {cs:List AV} {r:AV} {K:AV→Prop} (h:xfin ti cs=some r) (hk:K r):wfin ti cs K:=by
 unfold xfin at h
 unfold wfin
 grind
def xload (T:Tab) (t:TypeId) (x:AV) (σ:zaa):Option AV :=
 match T t with
 | none=>none
 | some ti =>
  match x with
  | .rp cs=>xfin ti cs
  | .ptr id off=>match rd σ id with
   | some cs=>xfin ti (cs.drop off)
   | none=>none
  | _=>none
theorem zhc {T:Tab} {t:TypeId} {x:AV} {σ:zaa} {r:AV} {K:AV→Prop} (h:xload T t x σ=some r) (hk:K r):zen T t x σ K:=by
 unfold xload at h
 unfold zen
 grind [xfin_ok]
def xstore (T:Tab) (t:TypeId) (p x:AV) (σ:zaa):Option zaa :=
 match T t,p with
 | some ti,.ptr id off=>match σ[id]? with
  | some (.rw cs)=>if x.cells.length=ti.size∧off+x.cells.length≤cs.length∧x.cells.all AV.one=true then some (σ.set id (.rw (za0 cs off x.cells))) else none
  | some (.rt xx e cs)=>if x.cells.length=ti.size∧off+x.cells.length≤cs.length∧x.cells.all AV.one=true then some (σ.set id (.rt xx e (za0 cs off x.cells))) else none
  | _=>none
 | _,_=>none
theorem xstore_ok {T:Tab} {t:TypeId} {p x:AV} {σ s:zaa} {K:AV→zaa→Prop} (h:xstore T t p x σ=some s) (hk:K (.lit undef) s):zgV T t p x σ K:=by
 unfold xstore at h
 unfold zgV
 grind
def xlen (T:Tab) (t:TypeId) (x:AV):Option AV :=
 match T t with
 | some ti=>match ti.d,x with
  | .str,.lit (.string s)=>some (.lit (.int .i64 s.size))
  | .array n _,_=>some (.lit (.int .i64 n))
  | .slice _,x=>match slen x with
   | some n=>some (.lit (.int .i64 n))
   | none=>none
  | _,_=>none
 | none=>none
theorem xlen_ok {T:Tab} {t:TypeId} {x r:AV} {K:AV→Prop} (h:xlen T t x=some r) (hk:K r):wlen T t x K:=by
 unfold xlen at h
 unfold wlen
 grind
def xpart (ti:TI) (l:List AV) (off:Nat):Option AV :=
 if off+ti.size≤l.length then (if ti.d.agg=true then some (.agg ((l.drop off).take ti.size)) else if 0 < ti.size then some ((l[off]?).getD .bot) else none) else none
theorem xpart_ok {ti:TI} {l:List AV} {off:Nat} {r:AV} {K:AV→Prop} (h:xpart ti l off=some r) (hk:K r):zht ti l off K:=by
 unfold xpart at h
 unfold zht
 grind
def xindex (T:Tab) (t:TypeId) (x i:AV):Option AV :=
 match T t,i with
 | some ti,.lit (.int _ n)=>match ti.d,x with
  | .str,.lit (.string s)=>if 0≤n∧n < s.size then some (.lit (.int .u8 ((s.data.toList.getD n.toNat 0).toNat:Int))) else none
  | .array len e,.agg l=>if 0≤n∧n < len then (match T e with
   | some te=>xpart te l (n.toNat * te.size)
   | none=>none) else none
  | _,_=>none
 | _,_=>none
theorem xindex_ok {T:Tab} {t:TypeId} {x i r:AV} {K:AV→Prop} (h:xindex T t x i=some r) (hk:K r):zeI T t x i K:=by
 unfold xindex at h
 unfold zeI
 grind [xpart_ok]
def ze6 (T:Tab) (t:TypeId) (x i:AV):Option AV :=
 match T t,i with
 | some ti,.lit (.int _ n)=>match ti.d,x with
  | .slice e,.sl cs len=>match T e with
   | some te=>if 0 < te.size∧0≤n∧n < len∧len * te.size≤cs.length then some (.rp (cs.drop (n.toNat * te.size))) else none
   | none=>none
  | .slice e,.ref id off len sz=>match T e with
   | some te=>if te.size=sz∧0≤n∧n < len then some (.ptr id (off+n.toNat * sz)) else none
   | none=>none
  | .array len e,.ptr id off=>match T e with
   | some te=>if 0≤n∧n < len then some (.ptr id (off+n.toNat * te.size)) else none
   | none=>none
  | .array len e,.rp cs=>match T e with
   | some te=>if 0≤n∧n < len then some (.rp (cs.drop (n.toNat * te.size))) else none
   | none=>none
  | _,_=>none
 | _,_=>none
theorem zf9 {T:Tab} {t:TypeId} {x i r:AV} {K:AV→Prop} (h:ze6 T t x i=some r) (hk:K r):zbl T t x i K:=by
 unfold ze6 at h
 unfold zbl
 grind
def xfield (T:Tab) (t:TypeId) (x:AV) (f:Nat):Option AV :=
 match T t,x with
 | some ti,.agg l=>match ti.d with
  | .struct fs=>match fs[f]? with
   | some (ft,off)=>match T ft with
    | some tf=>xpart tf l off
    | none=>none
   | none=>none
  | _=>none
 | _,_=>none
theorem xfield_ok {T:Tab} {t:TypeId} {x r:AV} {f:Nat} {K:AV→Prop} (h:xfield T t x f=some r) (hk:K r):zc6 T t x f K:=by
 unfold xfield at h
 unfold zc6
 split at h
 ·rename_i ti l ht
  simp only [ht]
  split at h
  ·rename_i fs hd
   simp only [hd]
   split at h
   ·rename_i ft off hf
    simp only [hf]
    split at h
    ·rename_i tf htf
     exact⟨tf,htf,xpart_ok h hk⟩
    ·cases h
   ·cases h
  ·cases h
 ·cases h
def ze7 (T:Tab) (t:TypeId) (x:AV) (f:Nat):Option AV :=
 match T t with
 | some ti=>match ti.d with
  | .bld fs=>match fs[f]? with
   | some (ft,off)=>match T ft,x with
    | some tf,.ptr id o=>if tf.size≠0 then some (.ptr id (o+off)) else none
    | _,_=>none
   | none=>none
  | .struct fs=>match fs[f]? with
   | some (ft,off)=>match T ft,x with
    | some tf,.ptr id o=>if tf.size≠0 then some (.ptr id (o+off)) else none
    | some tf,.rp cs=>if tf.size≠0 then some (.rp (cs.drop off)) else none
    | _,_=>none
   | none=>none
  | _=>none
 | none=>none
theorem zga {T:Tab} {t:TypeId} {x r:AV} {f:Nat} {K:AV→Prop} (h:ze7 T t x f=some r) (hk:K r):zag T t x f K:=by
 unfold ze7 at h
 unfold zag
 split at h
 ·rename_i ti ht
  simp only [ht]
  split at h
  ·rename_i fs hd
   simp only [hd]
   split at h
   ·rename_i ft off hf
    simp only [hf]
    split at h <;> grind
   ·cases h
  ·rename_i fs hd
   simp only [hd]
   split at h
   ·rename_i ft off hf
    simp only [hf]
    split at h <;> grind
   ·cases h
  ·cases h
 ·cases h
def xslice (T:Tab) (t:TypeId) (x:AV) (lo hi:Option AV) (σ:zaa):Option AV :=
 match T t with
 | none=>none
 | some ti=>match ti.d,x with
  | .str,.lit (.string s)=>match bnd 0 lo,bnd s.size hi with
   | some l,some h=>if 0≤l∧l≤h∧h≤s.size then some (.lit (.string (s.extract l.toNat h.toNat))) else none
   | _,_=>none
  | .slice e,.sl cs len=>match bnd 0 lo,bnd len hi,T e with
   | some l,some h,some te=>if 0≤l∧l≤h∧h≤len∧len * te.size≤cs.length then some (.sl ((cs.drop (l.toNat * te.size)).take ((h.toNat - l.toNat) * te.size)) (h.toNat - l.toNat)) else none
   | _,_,_=>none
  | .slice e,.ref id off len sz=>match bnd 0 lo,bnd len hi,T e with
   | some l,some h,some te=>if te.size=sz∧0≤l∧l≤h∧h≤len then (if l < h∨l=0 then some (.ref id (off+l.toNat * sz) (h.toNat - l.toNat) sz) else some (.sl [] 0)) else none
   | _,_,_=>none
  | .slice e,.lit (.slice none 0 0)=>match bnd 0 lo,bnd 0 hi,T e with
   | some l,some h,some _=>if l=0∧h=0 then some (.lit (.slice none 0 0)) else none
   | _,_,_=>none
  | .array n e,.ptr id off=>match bnd 0 lo,bnd n hi,σ[id]?,T e with
   | some l,some h,some (.rw cs),some te=>if 0≤l∧l < h∧h≤n∧(n:Int)≤9223372036854775807∧off+n * te.size≤cs.length then some (.ref id (off+l.toNat * te.size) (h.toNat - l.toNat) te.size) else none
   | _,_,_,_=>none
  | _,_=>none
theorem xslice_ok {T:Tab} {t:TypeId} {x r:AV} {lo hi:Option AV} {σ:zaa} {K:AV→Prop} (h:xslice T t x lo hi σ=some r) (hk:K r):zbi T t x lo hi σ K:=by
 unfold xslice at h
 unfold zbi
 split at h
 ·cases h
 ·rename_i ti ht
  simp only [ht]
  split at h
  ·rename_i hd
   simp only [hd]
   grind
  ·rename_i hd
   simp only [hd]
   grind
  ·rename_i hd
   simp only [hd]
   grind
  ·rename_i hd
   simp only [hd]
   grind
  ·rename_i hd
   simp only [hd]
   grind
  ·cases h
def xalloc (T:Tab) (e:TypeId) (σ:zaa):Option (AV × zaa) :=
 match T e with
 | some te=>match te.d with
  | .bld fs=>match fs with
   | [(_,0),(tb,1)]=>match T tb with
    | some tc=>match tc.d with
     | .slice eb=>match te.zero with
      | [.pointer none,.slice none 0 0]=>some (.ptr σ.length 0,σ++[.rt true e [.lit (.pointer none),.bsl (σ.length+1) 0]]++[.rt false eb []])
      | _=>none
     | _=>none
    | none=>none
   | _=>none
  | _=>some (.ptr σ.length 0,σ++[.rw (zaE te.zero)])
 | none=>none
theorem xalloc_ok {T:Tab} {e:TypeId} {σ:zaa} {r:AV × zaa} {K:AV→zaa→Prop} (h:xalloc T e σ=some r) (hk:K r.1 r.2):zhw T e σ K:=by
 unfold xalloc at h
 unfold zhw
 split at h
 ·rename_i te ht
  simp only [ht]
  split at h
  ·rename_i fs hd
   simp only [hd]
   split at h
   ·rename_i ta tb
    split at h
    ·rename_i tc htc
     split at h
     ·rename_i eb hc
      split at h
      ·rename_i hz
       cases h
       exact⟨hz,_,_,_,rfl,htc,_,hc,hk⟩
      ·cases h
     ·cases h
    ·cases h
   ·cases h
  ·rename_i hd
   cases h
   split
   ·rename_i fs h2
    exact absurd h2 (hd fs)
   ·exact hk
 ·cases h
def ebOf (T:Tab) (e:TypeId):TypeId :=
 match T e with
 | some ti=>match ti.d with
  | .struct (f::_)=>match T f.1 with
   | some tb=>match tb.d with
    | .bld (_::g::_)=>match T g.1 with
     | some ts=>match ts.d with
      | .slice eb=>eb
      | _=>0
     | none=>0
    | _=>0
   | none=>0
  | .bld (_::g::_)=>match T g.1 with
   | some ts=>match ts.d with
    | .slice eb=>eb
    | _=>0
   | none=>0
  | _=>0
 | none=>0
def xbox (T:Tab) (e:TypeId) (x:AV) (σ:zaa):Option (AV × zaa) :=
 if x.cells.all AV.one=true then (if zdo x.cells=true then some (.ptr σ.length 0,σ++[.rt true e (.lit (.pointer none)::.bsl (σ.length+1) 0::x.cells.drop 2)]++[.rt false (ebOf T e) []]) else some (.ptr σ.length 0,σ++[.rw x.cells])) else none
theorem xbox_ok {T:Tab} {e:TypeId} {x:AV} {σ:zaa} {r:AV × zaa} {K:AV→zaa→Prop} (h:xbox T e x σ=some r) (hk:K r.1 r.2):wbox e x σ K:=by
 unfold xbox at h
 unfold wbox
 split at h
 ·rename_i h1
  refine⟨h1,?_⟩
  split at h
  ·rename_i h2
   rw [if_pos h2]
   cases h
   exact⟨_,hk⟩
  ·rename_i h2
   rw [if_neg h2]
   cases h
   exact hk
 ·cases h
def xmake (T:Tab) (t:TypeId) (l c:AV) (σ:zaa):Option (AV × zaa) :=
 match T t,l,c with
 | some ti,.lit (.int _ l),.lit (.int _ c)=>match ti.d with
  | .slice e=>match T e with
   | some te=>if te.zero.length=te.size∧0≤l∧l≤c∧c≤9223372036854775807∧c * te.bytes≤281474976710656 then some (.ref σ.length 0 l.toNat te.size,σ++[.rw (zbz te.zero l.toNat)]) else none
   | none=>none
  | _=>none
 | _,_,_=>none
theorem xmake_ok {T:Tab} {t:TypeId} {l c:AV} {σ:zaa} {r:AV × zaa} {K:AV→zaa→Prop} (h:xmake T t l c σ=some r) (hk:K r.1 r.2):zjZ T t l c σ K:=by
 unfold xmake at h
 unfold zjZ
 grind
def xappend (T:Tab) (ts:Array TypeId) (s x:AV) (σ:zaa):Option (AV × zaa) :=
 match ts[0]?.bind T,ts[1]?.bind T with
 | some ti,some tx=>match ti.d with
  | .slice e=>if tx.d.isInt=true then none else match tx.d with
   | .other=>none
   | _=>match T e with
    | some te=>match asrc σ te.size x,adst σ te.size s with
     | some (xs,n),some (cs,len,σ1)=>if te.zero.length=te.size∧xs.all AV.one=true∧cs.all AV.one=true∧len+n≤9223372036854775807∧(len+n) * te.bytes≤140737488355328 then some (.ref σ.length 0 (len+n) te.size,σ1++[.rw (cs++xs)]) else none
     | some (xs,n),none=>match adstT σ s with
      | some (id,eb,cs,len)=>if eb=e∧te.size=1∧te.zero.length=te.size∧xs.all AV.one=true∧cs.all AV.one=true∧len+n≤9223372036854775807∧(len+n) * te.bytes≤140737488355328 then some (.bsl σ.length (len+n),σ.set id .dead++[.rt false e (cs++xs)]) else none
      | none=>none
     | _,_=>none
    | none=>none
  | _=>none
 | _,_=>none
theorem xappend_ok {T:Tab} {ts:Array TypeId} {s x:AV} {σ:zaa} {r:AV × zaa} {K:AV→zaa→Prop} (h:xappend T ts s x σ=some r) (hk:K r.1 r.2):zbA T ts s x σ K:=by
 unfold xappend at h
 unfold zbA
 split at h
 ·rename_i ti tx h0 h1
  simp only [h0,h1]
  split at h
  ·rename_i e hd
   simp only [hd]
   split at h
   ·cases h
   ·rename_i hi
    split at h
    ·cases h
    ·rename_i ho
     refine⟨fun k hk=>hi (by rw [hk];rfl),fun hh=>ho hh,?_⟩
     split at h
     ·rename_i te hte
      refine⟨te,hte,?_⟩
      split at h
      ·rename_i xs n cs len σ1 ha hb
       simp only [ha,hb]
       grind
      ·rename_i xs n ha hb
       simp only [ha,hb]
       split at h
       ·rename_i id eb cs len hc
        simp only [hc]
        grind
       ·cases h
      ·cases h
     ·cases h
  ·cases h
 ·cases h
def xappZ (T:Tab) (t:TypeId) (s x:AV) (σ:zaa):Option (AV × zaa) :=
 match T t,s,x with
 | some ti,.lit (.slice none 0 0),.lit (.int .i64 n)=>match ti.d with
  | .slice e=>match T e with
   | some te=>if 0 < n∧(0 < te.size∧te.zero.length=te.size)∧n.toNat * te.bytes≤140737488355328∧n≤9223372036854775807 then some (.ref σ.length 0 n.toNat te.size,σ++[.rw []]) else none
   | none=>none
  | _=>none
 | _,_,_=>none
theorem xappZ_ok {T:Tab} {t:TypeId} {s x:AV} {σ:zaa} {r:AV × zaa} {K:AV→zaa→Prop} (h:xappZ T t s x σ=some r) (hk:K r.1 r.2):wappZ T t s x σ K:=by
 unfold xappZ at h
 unfold wappZ
 grind
def xappO (T:Tab) (ts:Array TypeId) (s x:AV) (σ:zaa):Option (AV × zaa) :=
 match ts.toList with
 | [t,u]=>match T u with
  | some tx=>if tx.d.isInt=true then xappZ T t s x σ else xappend T ts s x σ
  | none=>none
 | _=>none
theorem xappO_ok {T:Tab} {ts:Array TypeId} {s x:AV} {σ:zaa} {r:AV × zaa} {K:AV→zaa→Prop} (h:xappO T ts s x σ=some r) (hk:K r.1 r.2):wappO T ts s x σ K:=by
 unfold xappO at h
 unfold wappO
 grind [xappZ_ok,xappend_ok]
def xcap (T:Tab) (t:TypeId) (x:AV):Option AV :=
 match T t,x with
 | some ti,.lit (.slice none 0 0)=>match ti.d with
  | .slice _=>some (.lit (.int .i64 0))
  | _=>none
 | _,_=>none
theorem xcap_ok {T:Tab} {t:TypeId} {x r:AV} {K:AV→Prop} (h:xcap T t x=some r) (hk:K r):wcap T t x K:=by
 unfold xcap at h
 unfold wcap
 grind
def xnils (T:Tab) (op:BinOp) (t:TypeId) (x:AV):Option AV :=
 match T t with
 | some ti=>match ti.d,op,x with
  | .slice _,.eql,.lit (.slice none 0 0)=>some (.lit (.bool true))
  | .slice _,.neq,.lit (.slice none 0 0)=>some (.lit (.bool false))
  | .slice _,.eql,.sl (_::_) _=>some (.lit (.bool false))
  | .slice _,.neq,.sl (_::_) _=>some (.lit (.bool true))
  | .slice _,.eql,.ref _ _ (_+1) _=>some (.lit (.bool false))
  | .slice _,.neq,.ref _ _ (_+1) _=>some (.lit (.bool true))
  | _,_,_=>none
 | none=>none
theorem xnils_ok {T:Tab} {op:BinOp} {t:TypeId} {x r:AV} {K:AV→Prop} (h:xnils T op t x=some r) (hk:K r):zkd T op t x K:=by
 unfold xnils at h
 unfold zkd
 grind
def xnilc (T:Tab) (op:BinOp) (t:TypeId) (x:AV):Option AV :=
 match T t with
 | some ti=>match ti.d,op,zhA x with
  | .iface,.eql,some b=>some (.lit (.bool b))
  | .iface,.neq,some b=>some (.lit (.bool (!b)))
  | _,_,_=>none
 | none=>none
theorem xnilc_ok {T:Tab} {op:BinOp} {t:TypeId} {x r:AV} {K:AV→Prop} (h:xnilc T op t x=some r) (hk:K r):zjc T op t x K:=by
 unfold xnilc at h
 unfold zjc
 grind
def xconv (T:Tab) (src dst:TypeId) (x:AV) (σ:zaa):Option (AV × zaa) :=
 match T src,T dst with
 | some ts,some td=>match td.d,x with
  | .int k,.lit (.int _ n)=>some (.lit (.int k (k.wrap n)),σ)
  | .str,.lit (.string s)=>some (.lit (.string s),σ)
  | .str,.ref id off len sz=>match ts.d with
   | .slice e=>match T e with
    | some te=>match te.d,asl σ 1 (.ref id off len sz) with
     | .int .u8,some (cs,_)=>match zcz cs with
      | some bs=>some (.lit (.string ⟨bs.toArray⟩),σ)
      | none=>none
     | _,_=>none
    | none=>none
   | _=>none
  | .str,.sl cs n=>match ts.d with
   | .slice e=>match T e with
    | some te=>match te.d,asl σ 1 (.sl cs n) with
     | .int .u8,some (cs,_)=>match zcz cs with
      | some bs=>some (.lit (.string ⟨bs.toArray⟩),σ)
      | none=>none
     | _,_=>none
    | none=>none
   | _=>none
  | .slice e,.lit (.string s)=>match ts.d,T e with
   | .str,some te=>match te.d with
    | .int .u8=>if s.size≤9223372036854775807 then some (.ref σ.length 0 s.size 1,σ++[.rw (s.data.toList.map (fun b=>.lit (.int .u8 (b.toNat:Int))))]) else none
    | _=>none
   | _,_=>none
  | _,_=>none
 | _,_=>none
theorem xconv_ok {T:Tab} {src dst:TypeId} {x:AV} {σ:zaa} {r:AV × zaa} {K:AV→zaa→Prop} (h:xconv T src dst x σ=some r) (hk:K r.1 r.2):zjb T src dst x σ K:=by
 unfold xconv at h
 unfold zjb
 split at h
 ·rename_i ts td h1 h2
  simp only [h1,h2]
  split at h
  ·rename_i hd
   simp only [hd]
   grind
  ·rename_i hd
   simp only [hd]
   grind
  ·rename_i hd
   simp only [hd]
   grind
  ·rename_i hd
   simp only [hd]
   grind
  ·rename_i hd
   simp only [hd]
   grind
  ·cases h
 ·cases h
def zfF (T:Tab) (t:TypeId) (len:Nat) (ps:List (Nat × AV)) (σ:zaa):Option (AV × zaa) :=
 match T t with
 | some ti=>match ti.d with
  | .slice e=>match T e with
   | some te=>if te.zero.length=te.size∧len≤16777216∧len * te.size≤16777216 then (match zbo (fun i=>some (i * te.size,te.size)) (zbz te.zero len) ps with
    | some cs=>some (.ref σ.length 0 len te.size,σ++[.rw cs])
    | none=>none) else none
   | none=>none
  | _=>none
 | none=>none
theorem xbuildSlice_ok {T:Tab} {t:TypeId} {len:Nat} {ps:List (Nat × AV)} {σ:zaa} {r:AV × zaa} {K:AV→zaa→Prop} (h:zfF T t len ps σ=some r) (hk:K r.1 r.2):zbL T t len ps σ K:=by
 unfold zfF at h
 unfold zbL
 grind
def xbuild (T:Tab) (t:TypeId) (ps:List (Nat × AV)):Option AV :=
 match T t with
 | some ti=>match ti.d with
  | .struct fs=>if (fs.all fun p=>(T p.1).isSome)=true then (match zbo (fun i=>(fs[i]?).map fun p=>(p.2,((T p.1).map (·.size)).getD 0)) (zaE ti.zero) ps with
   | some cs=>some (.agg cs)
   | none=>none) else none
  | .array _ e=>match T e with
   | some te=>match zbo (fun i=>some (i * te.size,te.size)) (zaE ti.zero) ps with
    | some cs=>some (.agg cs)
    | none=>none
   | none=>none
  | _=>none
 | none=>none
theorem xbuild_ok {T:Tab} {t:TypeId} {ps:List (Nat × AV)} {r:AV} {K:AV→Prop} (h:xbuild T t ps=some r) (hk:K r):zaY T t ps K:=by
 unfold xbuild at h
 unfold zaY
 grind
def xmkI (T:Tab) (t:TypeId) (x:AV):Option AV :=
 match T t with
 | some ti=>if ti.d.conc=true then some (.ifc t x) else none
 | none=>none
theorem xmkI_ok {T:Tab} {t:TypeId} {x r:AV} {K:AV→Prop} (h:xmkI T t x=some r) (hk:K r):wmkI T t x K:=by
 unfold xmkI at h
 unfold wmkI
 grind
def isIfT:TD→Bool
 | .iface=>true
 | _=>false
theorem isIfT_eq {d:TD} (h:isIfT d=true):d=.iface:=by
 cases d <;> first | rfl | cases h
def zero1 (P:Program) (a:TypeId):Option Value:=match P.info? a with
 | some i=>match i.zero with
  | some (.agg arr)=>match arr.toList with
   | [z]=>some z
   | _=>none
  | _=>none
 | none=>none
theorem zero1_ok {P:Program} {a:TypeId} {z:Value} (h:zero1 P a=some z):∃ i,P.info? a=some i∧i.zero=some (.agg #[z]):=by
 unfold zero1 at h
 split at h
 ·rename_i i hi
  split at h
  ·rename_i arr hz
   split at h
   ·rename_i z1 ha
    cases h
    refine⟨i,hi,?_⟩
    obtain⟨l⟩:=arr
    simp only at ha
    rw [hz,ha]
   ·cases h
  ·cases h
 ·cases h
def xasN (P:Program) (a:TypeId) (ok:Bool) (ti:TI) (x:AV):Option AV :=
 match x with
 | .lit .nilIface=>if ok=true∧(ti.d.conc || isIfT ti.d)=true then
   (if ti.zero.length=1∧ti.d.agg=true then (match zero1 P a with
    | some z=>some (.tup [.agg [.lit z],.lit (.bool false)])
    | none=>none)
   else some (.tup [zAV ti,.lit (.bool false)]))
  else none
 | _=>none
def zjr (P:Program) (T:Tab) (a:TypeId) (ok:Bool) (x:AV):Option AV :=
 match T a with
 | none=>none
 | some ti=>match zfv x with
  | some (t,v) =>
   if ti.d.conc=true then
    if t=a then some (if ok then .tup [v,.lit (.bool true)] else v) else if ok=true then some (.tup [zAV ti,.lit (.bool false)]) else none
   else match holdsB P a t with
    | some true=>some (if ok then .tup [x,.lit (.bool true)] else x)
    | some false=>if ok=true then some (.tup [.bot,.lit (.bool false)]) else none
    | none=>none
  | none=>xasN P a ok ti x
theorem ziQ {P:Program} {T:Tab} {a:TypeId} {ok:Bool} {x r:AV} {K:AV→Prop} (h:zjr P T a ok x=some r) (hk:K r):zeM P T a ok x K:=by
 unfold zjr at h
 unfold zeM
 split at h
 ·cases h
 ·rename_i ti ht
  simp only [ht]
  split at h
  ·rename_i t v hi
   simp only [hi]
   split at h
   ·rename_i hc
    rw [if_pos hc]
    grind
   ·rename_i hc
    rw [if_neg hc]
    split at h
    ·rename_i hb
     exact⟨true,hb,fun _=>(by cases h;exact hk),fun h=>(by cases h)⟩
    ·rename_i hb
     split at h
     ·rename_i ho
      exact⟨false,hb,fun h=>(by cases h),fun _=>⟨ho,(by cases h;exact hk)⟩⟩
     ·cases h
    ·cases h
  ·rename_i hi
   simp only [hi]
   unfold xasN at h
   split at h
   ·split at h
    ·rename_i hh
     refine⟨rfl,hh.1,?_,?_⟩
     ·rw [Bool.or_eq_true] at hh
      exact hh.2.imp id isIfT_eq
     ·split at h
      ·rename_i hz
       rw [if_pos hz]
       split at h
       ·rename_i z h1
        cases h
        exact⟨z,zero1_ok h1,hk⟩
       ·cases h
      ·rename_i hz
       rw [if_neg hz]
       cases h
       exact hk
    ·cases h
   ·cases h
def zh0 (k:IntKind) (z:Int):Option Value :=
 match k with
 | .i64=>if -9223372036854775808≤z∧z≤9223372036854775807 then some (.int .i64 z) else none
 | k=>some (.int k (k.wrap z))
theorem zh1 {k:IntKind} {z:Int} {v:Value} {K:Value→Prop} (h:zh0 k z=some v) (hk:K v):zeH k z K:=by
 cases k <;> simp only [zh0] at h <;> simp only [zeH] <;> first | (cases h;exact hk) | grind
def xun (op:UnOp) (x:AV):Option AV :=
 match op,x with
 | .neg,.lit (.int k n)=>match zh0 k (0 - n) with
  | some v=>some (.lit v)
  | none=>none
 | .xor,.lit (.int k n)=>match zdT .xor k (if k.signed then -1 else k.max) n with
  | some v=>some (.lit v)
  | none=>none
 | .not,.lit (.bool b)=>some (.lit (.bool (!b)))
 | _,_=>none
theorem xun_ok {op:UnOp} {x r:AV} {K:AV→Prop} (h:xun op x=some r) (hk:K r):wun op x K:=by
 unfold xun at h
 unfold wun
 split at h
 ·split at h
  ·rename_i v hv
   cases h
   exact zh1 hv hk
  ·cases h
 ·split at h
  ·rename_i v hv
   cases h
   simp only [hv]
   exact hk
  ·cases h
 ·cases h
  exact hk
 ·cases h
def zhd (x:AV) (i:Nat):Option AV :=
 match x with
 | .tup l=>l[i]?
 | _=>none
theorem zh2 {x r:AV} {i:Nat} {K:AV→Prop} (h:zhd x i=some r) (hk:K r):zcd x i K:=by
 unfold zhd at h
 unfold zcd
 grind
def xpick (c a b:AV):Option AV :=
 match c with
 | .lit (.bool true)=>some a
 | .lit (.bool false)=>some b
 | _=>none
theorem xpick_ok {c a b r:AV} {K:AV→Prop} (h:xpick c a b=some r) (hk:K r):zgv c a b K:=by
 unfold xpick at h
 unfold zgv
 grind
def zjs (mx:Bool) (xs:List AV):Option AV :=
 match xs with
 | [.lit (.int k x),.lit (.int k' y)]=>if k=k' then some (.lit (.int k (if mx then max x y else min x y))) else none
 | _=>none
theorem ziR {mx:Bool} {xs:List AV} {r:AV} {K:AV→Prop} (h:zjs mx xs=some r) (hk:K r):zbW mx xs K:=by
 unfold zjs at h
 unfold zbW
 grind
def xstrV (op:BinOp) (x y:ByteArray):Option Value :=
 match op with
 | .add=>if x.size+y.size≤9223372036854775807 then some (.string ⟨(x.data.toList++y.data.toList).toArray⟩) else none
 | .eql=>some (.bool (decide (x.data.toList=y.data.toList)))
 | .neq=>some (.bool (!decide (x.data.toList=y.data.toList)))
 | .lss=>some (.bool (Op.bytesLess x.data.toList y.data.toList))
 | .leq=>some (.bool (Op.bytesLess x.data.toList y.data.toList || decide (x.data.toList=y.data.toList)))
 | .gtr=>some (.bool (!(Op.bytesLess x.data.toList y.data.toList || decide (x.data.toList=y.data.toList))))
 | .geq=>some (.bool (!Op.bytesLess x.data.toList y.data.toList))
 | _=>none
theorem app_bytes (x y:ByteArray):x++y=⟨(x.data.toList++y.data.toList).toArray⟩:=by
 apply ByteArray.ext
 rw [ByteArray.data_append]
 apply Array.toList_inj.1
 simp
theorem xstrV_ok {op:BinOp} {x y:ByteArray} {v:Value} {K:Value→Prop} (h:xstrV op x y=some v) (hk:K v):strV op x y K:=by
 cases op <;> simp only [xstrV] at h <;> simp only [strV] <;> first | (cases h;done) | (cases h;exact hk) | skip
 split at h
 ·rename_i hs
  cases h
  rw [app_bytes]
  exact⟨hs,hk⟩
 ·cases h
def scEq:Value→Value→Option Bool
 | .int k a,.int k' b=>some (decide (k=k') && decide (a=b))
 | .bool a,.bool b=>some (a == b)
 | .string a,.string b=>some (decide (a.data.toList=b.data.toList))
 | _,_=>none
theorem scEq_iff {a b:Value} {q:Bool} (h:scEq a b=some q):q=true ↔ a=b:=by
 unfold scEq at h
 split at h <;> cases h
 ·simp
 ·simp
 ·rename_i x y
  simp only [decide_eq_true_eq,Value.string.injEq]
  constructor
  ·intro h
   have:x.data=y.data:=Array.ext' h
   obtain⟨x⟩:=x
   obtain⟨y⟩:=y
   simp only at this
   rw [this]
  ·rintro rfl
   rfl
def scEqL:List Value→List Value→Option Bool
 | [],[]=>some true
 | a::l,b::r=>match scEq a b,scEqL l r with
  | some p,some q=>some (p && q)
  | _,_=>none
 | _,_=>none
theorem scEqL_iff:∀ {l r:List Value} {q:Bool},scEqL l r=some q→(q=true ↔ l=r)
 | [],[],_,h=>by cases h;simp
 | a::l,b::r,q,h=>by
  rw [scEqL] at h
  split at h
  ·rename_i p q1 h1 h2
   cases h
   rw [Bool.and_eq_true,scEq_iff h1,scEqL_iff h2,List.cons.injEq]
  ·cases h
 | [],_::_,_,h=>by cases h
 | _::_,[],_,h=>by cases h
def zj5:List AV→Option (List Value)
 | []=>some []
 | .lit v::l=>match zj5 l with
  | some r=>some (v::r)
  | none=>none
 | _=>none
theorem zh3:∀ {l:List AV} {r:List Value},zj5 l=some r→l=zaE r
 | [],_,h=>by cases h;rfl
 | .lit v::l,r,h=>by
  rw [zj5] at h
  split at h
  ·rename_i r1 h1
   cases h
   rw [zh3 h1]
   rfl
  ·cases h
def fitB (T:Tab):Nat→TypeId→List Value→Bool
 | 0,_,_=>false
 | d+1,t,l=>match T t with
  | none=>false
  | some ti=>match ti.d with
   | .array n e=>match T e with
    | none=>false
    | some te=>decide (0 < n) && decide (l.length=n * te.size) && (List.range n).all fun i=>fitB T d e ((l.drop (i * te.size)).take te.size)
   | .struct fs=>ti.eqs && decide (l.length=ti.size) && decide (ziA T fs 0=some ti.size) && fs.all fun f=>(T f.1).isSome && fitB T d f.1 ((l.drop f.2).take (szOf T f.1))
   | d'=>match l with
    | [v]=>scB d' v
    | _=>false
theorem zjt {T:Tab}:∀ {d:Nat} {t:TypeId} {l:List Value},fitB T d t l=true→fitE T d t l
 | 0,_,_,h=>by cases h
 | d+1,t,l,h=>by
  rw [fitB] at h
  rw [fitE]
  split at h
  ·cases h
  ·rename_i ti ht
   simp only [ht]
   split at h
   ·rename_i n e hd
    simp only [hd]
    split at h
    ·cases h
    ·rename_i te hte
     simp only [hte]
     simp only [Bool.and_eq_true,decide_eq_true_eq,List.all_eq_true,List.mem_range] at h
     exact⟨h.1.1,h.1.2,fun i hi=>zjt (h.2 i hi)⟩
   ·rename_i fs hd
    simp only [hd]
    simp only [Bool.and_eq_true,decide_eq_true_eq,List.all_eq_true] at h
    refine⟨h.1.1.1,h.1.1.2,h.1.2,fun f hf=>?_⟩
    obtain⟨h1,h2⟩:=h.2 f hf
    exact⟨Option.isSome_iff_exists.1 h1,zjt h2⟩
   ·rename_i d' n1 n2
    split at h
    ·rename_i v
     split
     ·rename_i hd;exact absurd hd (n1 _ _)
     ·rename_i hd;exact absurd hd (n2 _)
     ·exact⟨v,rfl,h⟩
    ·cases h
def xeqA (T:Tab) (t:TypeId) (l r:List AV):Option Bool:=match T t with
 | some ti=>match zj5 l,zj5 r with
  | some a,some b=>match scEqL a b with
   | some q=>if ti.d.agg=true∧fitB T 9 t a=true∧fitB T 9 t b=true then some q else none
   | none=>none
  | _,_=>none
 | none=>none
theorem xeqA_ok {T:Tab} {t:TypeId} {l r:List AV} {q:Bool} (h:xeqA T t l r=some q):∃ p,eqP T t l r p∧p.2.2.2=q:=by
 unfold xeqA at h
 split at h
 ·rename_i ti ht
  split at h
  ·rename_i a b ha hb
   split at h
   ·rename_i q1 hq
    split at h
    ·rename_i hh
     cases h
     exact⟨(9,a,b,q),⟨zh3 ha,zh3 hb,(by show 9≤100;omega),⟨ti,ht,hh.1⟩,zjt hh.2.1,zjt hh.2.2,scEqL_iff hq⟩,rfl⟩
    ·cases h
   ·cases h
  ·cases h
 ·cases h
def xbin (T:Tab) (op:BinOp) (t:TypeId) (x y:AV):Option AV :=
 match x,y with
 | .lit (.int k a),.lit (.int k' b) =>
  match op with
  | .shl=>if 0≤b then some (.lit (.int k (k.wrap (a * 2 ^ (min b.toNat k.bits))))) else none
  | .shr=>if 0≤b then some (.lit (.int k (a.fdiv (2 ^ (min b.toNat k.bits))))) else none
  | .add=>if k=k' then (zh0 k (a+b)).map .lit else none
  | .sub=>if k=k' then (zh0 k (a - b)).map .lit else none
  | .mul=>if k=k' then (zh0 k (a * b)).map .lit else none
  | .quo=>if k=k'∧b≠0 then (zh0 k (a.tdiv b)).map .lit else none
  | .rem=>if k=k'∧b≠0 then some (.lit (.int k (a.tmod b))) else none
  | op=>if k=k' then (match zdT op k a b with
   | some v=>some (.lit v)
   | none=>match cmpV op a b with
    | some c=>some (.lit (.bool c))
    | none=>none) else none
 | .lit (.string a),.lit (.string b)=>(xstrV op a b).map .lit
 | .lit (.bool a),.lit (.bool b) =>
  match op,T t with
  | .eql,some ti=>match ti.d with
   | .bool=>some (.lit (.bool (a == b)))
   | _=>none
  | .neq,some ti=>match ti.d with
   | .bool=>some (.lit (.bool (!(a == b))))
   | _=>none
  | _,_=>none
 | .ptr _ _,.lit (.pointer none) =>
  match op,T t with
  | .eql,some ti=>match ti.d with
   | .ptr _=>some (.lit (.bool false))
   | _=>none
  | .neq,some ti=>match ti.d with
   | .ptr _=>some (.lit (.bool true))
   | _=>none
  | _,_=>none
 | .agg l,.agg r =>
  match op with
  | .eql=>match xeqA T t l r with
   | some q=>some (.lit (.bool q))
   | none=>none
  | .neq=>match xeqA T t l r with
   | some q=>some (.lit (.bool (!q)))
   | none=>none
  | _=>none
 | _,_=>none
theorem map_lit {o:Option Value} {r:AV} (h:o.map AV.lit=some r):∃ v,o=some v∧r=.lit v:=by
 cases o with
 | none=>cases h
 | some v=>cases h;exact⟨v,rfl,rfl⟩
theorem xbin_ok {T:Tab} {op:BinOp} {t:TypeId} {x y r:AV} {K:AV→Prop} (h:xbin T op t x y=some r) (hk:K r):wbin T op t x y K:=by
 unfold xbin at h
 unfold wbin
 split at h
 ·dsimp only
  cases op <;> dsimp only at h ⊢ <;> split at h <;> first | (cases h;done) | skip
  all_goals first
   | (rename_i h1;obtain⟨v,hv,rfl⟩:=map_lit h;exact⟨h1,zh1 hv hk⟩)
   | (rename_i h1;obtain⟨v,hv,rfl⟩:=map_lit h;exact⟨h1.1,h1.2,zh1 hv hk⟩)
   | (rename_i h1;cases h;exact⟨h1,hk⟩)
   | (rename_i h1;cases h;exact⟨h1.1,h1.2,hk⟩)
   | grind
 ·obtain⟨v,hv,rfl⟩:=map_lit h
  exact xstrV_ok hv hk
 ·dsimp only
  split at h
  ·rename_i ti ht
   split at h
   ·rename_i hd
    cases h
    exact⟨⟨ti,ht,hd⟩,hk⟩
   ·cases h
  ·rename_i ti ht
   split at h
   ·rename_i hd
    cases h
    exact⟨⟨ti,ht,hd⟩,hk⟩
   ·cases h
  ·cases h
 ·dsimp only
  split at h
  ·rename_i ti ht
   split at h
   ·rename_i e hd
    cases h
    exact⟨⟨ti,ht,e,hd⟩,hk⟩
   ·cases h
  ·rename_i ti ht
   split at h
   ·rename_i e hd
    cases h
    exact⟨⟨ti,ht,e,hd⟩,hk⟩
   ·cases h
  ·cases h
 ·dsimp only
  split at h
  ·split at h
   ·rename_i q hq
    cases h
    obtain⟨p,h1,rfl⟩:=xeqA_ok hq
    exact⟨p,h1,hk⟩
   ·cases h
  ·split at h
   ·rename_i q hq
    cases h
    obtain⟨p,h1,rfl⟩:=xeqA_ok hq
    exact⟨p,h1,hk⟩
   ·cases h
  ·cases h
 ·cases h
section
variable [Globs]
def xbinW (T:Tab) (op:BinOp) (t:TypeId) (x y:Operand) (ev:Operand→AV):Option AV :=
 match y with
 | .const (.slice none 0 0)=>match ev (.const (.slice none 0 0)) with
  | .lit (.slice none 0 0)=>xnils T op t (ev x)
  | _=>none
 | .const .nilIface=>match ev (.const .nilIface) with
  | .lit .nilIface=>xnilc T op t (ev x)
  | _=>none
 | y=>xbin T op t (ev x) (ev y)
theorem xbinW_ok {T:Tab} {op:BinOp} {t:TypeId} {x y:Operand} {ev:Operand→AV} {r:AV} {K:AV→Prop} (h:xbinW T op t x y ev=some r) (hk:K r):zfw T op t x y ev K:=by
 unfold xbinW at h
 unfold zfw
 split at h
 ·split at h
  ·rename_i he
   exact⟨he,xnils_ok h hk⟩
  ·cases h
 ·split at h
  ·rename_i he
   exact⟨he,xnilc_ok h hk⟩
  ·cases h
 ·rename_i h1 h2
  split
  ·exact absurd rfl h1
  ·unfold zjd
   split
   ·exact absurd rfl h2
   ·exact xbin_ok h hk
end
end Go.Eng
end

section
namespace Go.Eng
open Go
def vB:Value→Value→Bool
 | .int k a,.int k' b=>decide (k=k') && decide (a=b)
 | .bool a,.bool b=>a == b
 | .string a,.string b=>decide (a.data.toList=b.data.toList)
 | _,_=>false
def vsB:List Value→List Value→Bool
 | [],[]=>true
 | a::l,b::m=>vB a b && vsB l m
 | _,_=>false
def keyB:Value→Value→Bool
 | .agg a,.agg b=>vsB a.toList b.toList
 | a,b=>vB a b
theorem vB_eq {a b:Value} (h:vB a b=true):a=b:=by
 unfold vB at h
 split at h
 ·rw [Bool.and_eq_true,decide_eq_true_eq,decide_eq_true_eq] at h
  rw [h.1,h.2]
 ·rw [beq_iff_eq] at h
  rw [h]
 ·rw [decide_eq_true_eq] at h
  congr 1
  exact ByteArray.ext (Array.toList_inj.1 h)
 ·cases h
theorem vsB_eq:∀ {l m:List Value},vsB l m=true→l=m
 | [],[],_=>rfl
 | a::l,b::m,h=>by
  rw [vsB,Bool.and_eq_true] at h
  rw [vB_eq h.1,vsB_eq h.2]
 | [],_::_,h=>by cases h
 | _::_,[],h=>by cases h
theorem keyB_eq {a b:Value} (h:keyB a b=true):a=b:=by
 unfold keyB at h
 split at h
 ·rw [Array.toList_inj.1 (vsB_eq h)]
 ·exact vB_eq h
theorem vB_refl {d:TD} {v:Value} (h:scB d v=true):vB v v=true:=by
 cases d <;> cases v <;> simp only [scB,Bool.false_eq_true] at h <;> simp [vB]
theorem vsB_refl {d:TD}:∀ {l:List Value},(∀ u∈l,scB d u=true)→vsB l l=true
 | [],_=>rfl
 | a::l,h=>by
  rw [vsB,vB_refl (h a (List.mem_cons_self ..)),vsB_refl fun u hu=>h u (List.mem_cons_of_mem _ hu)]
  rfl
def zgZ (T:Tab) (kt:TypeId) (v:Value):Bool :=
 match T kt with
 | some ti=>scB ti.d v || (match ti.d,v with
  | .array n e,.agg a=>match T e with
   | some te=>decide (te.size=1) && decide (a.toList.length=n) && decide (0 < n) && a.toList.all (scB te.d)
   | none=>false
  | _,_=>false)
 | none=>false
theorem zd6 {T:Tab} {kt:TypeId} {v:Value} (h:zgZ T kt v=true):zdO T kt v:=by
 unfold zgZ at h
 unfold zdO
 split at h
 ·rename_i ti ht
  refine⟨ti,ht,?_⟩
  rw [Bool.or_eq_true] at h
  refine h.imp id fun h=>?_
  split at h
  ·rename_i n e a hd _
   split at h
   ·rename_i te hte
    simp only [Bool.and_eq_true,decide_eq_true_eq,List.all_eq_true] at h
    exact⟨n,e,te,a.toList,hd,hte,h.1.1.1,rfl,h.1.1.2,h.1.2,h.2⟩
   ·cases h
  ·cases h
 ·cases h
theorem zd7 {T:Tab} {kt:TypeId} {v:Value} (h:zdO T kt v):keyB v v=true:=by
 obtain⟨ti,ht,h | ⟨n,e,te,l,h1,h2,h3,rfl,h5,h6,h7⟩⟩:=h
 ·unfold keyB
  split
  ·cases ti with
   | mk d _ _ _ _=>cases d <;> simp [scB] at h
  ·exact vB_refl h
 ·exact vsB_refl h7
def findK (v:Value):List Value→Nat→Option Nat
 | [],_=>none
 | k::ks,i=>if keyB k v=true then some i else findK v ks (i+1)
theorem ze8 {v:Value}:∀ {ks:List Value} {i n:Nat},(∀ k∈ks,keyB v v=true)→findK v ks i=some n→i≤n∧zj0 ks v (n - i)
 | [],_,_,_,h=>by cases h
 | k::ks,i,n,hr,h=>by
  rw [findK] at h
  split at h
  ·rename_i hk
   cases h
   refine⟨Nat.le_refl _,?_,fun j hj=>by omega⟩
   rw [Nat.sub_self,keyB_eq hk]
   rfl
  ·rename_i hk
   obtain⟨h1,h2,h3⟩:=ze8 (fun k hk=>hr k (List.mem_cons_of_mem _ hk)) h
   refine⟨by omega,?_,fun j hj=>?_⟩
   ·rw [show n - i=(n - (i+1))+1 by omega,List.getElem?_cons_succ]
    exact h2
   ·cases j with
    | zero =>
     rw [List.getElem?_cons_zero]
     intro e
     cases e
     exact hk (hr _ (List.mem_cons_self ..))
    | succ j =>
     rw [List.getElem?_cons_succ]
     exact h3 j (by omega)
theorem ze9 {v:Value}:∀ {ks:List Value} {i:Nat},keyB v v=true→findK v ks i=none→ziH ks v
 | [],_,_,_=>fun k hk=>by cases hk
 | k::ks,i,hr,h=>by
  rw [findK] at h
  split at h
  ·cases h
  ·rename_i hk
   intro x hx
   rcases List.mem_cons.1 hx with rfl | hx
   ·intro e
    subst e
    exact hk hr
   ·exact ze9 hr h x hx
def ziS:List AV→Option (List Value)
 | []=>some []
 | .lit v::l=>(ziS l).map (v::·)
 | _=>none
theorem unlits_eq:∀ {l:List AV} {vs:List Value},ziS l=some vs→l=vs.map .lit
 | [],vs,h=>by cases h;rfl
 | a::l,vs,h=>by
  cases a <;> simp only [ziS] at h <;> first | (cases h;done) | skip
  cases hl:ziS l with
  | none=>rw [hl] at h;cases h
  | some m =>
   rw [hl] at h
   cases h
   rw [unlits_eq hl]
   rfl
def xkey:AV→Option Value
 | .lit v=>some v
 | .agg l=>(ziS l).map fun vs=>.agg vs.toArray
 | _=>none
theorem xkey_ok {x:AV} {v:Value} (h:xkey x=some v):keyIs x v:=by
 unfold xkey at h
 split at h
 ·cases h
  exact .inl rfl
 ·rename_i l
  cases hl:ziS l with
  | none=>rw [hl] at h;cases h
  | some m =>
   rw [hl] at h
   cases h
   exact .inr ⟨m,by rw [unlits_eq hl],rfl⟩
 ·cases h
def xlookup (P:Program) (T:Tab) (t:TypeId) (x i:AV) (ok:Bool) (σ:zaa):Option AV :=
 match T t,xkey i,x with
 | some ti,some v,.mpt id=>match ti.d,σ[id]? with
  | .map kt et,some (.mpb ks vs)=>if zgZ T kt v=true∧ks.all (zgZ T kt)=true then (match findK v ks 0 with
   | some n=>match vs[n]? with
    | some r=>some (okR ok r true)
    | none=>none
   | none=>match P.info? et with
    | some i=>match i.zero with
     | some z=>some (okR ok (zc9 z) false)
     | none=>none
    | none=>none) else none
  | _,_=>none
 | _,_,_=>none
theorem xlookup_ok {P:Program} {T:Tab} {t:TypeId} {x i r:AV} {ok:Bool} {σ:zaa} {K:AV→Prop} (h:xlookup P T t x i ok σ=some r) (hk:K r):wlookup P T t x i ok σ K:=by
 unfold xlookup at h
 split at h
 ·rename_i ti v id ht hi
  split at h
  ·rename_i kt et ks vs hd hσ
   split at h
   ·rename_i hc
    have hv:=zd6 hc.1
    have hks:∀ k∈ks,zdO T kt k:=fun k hk=>zd6 (List.all_eq_true.1 hc.2 k hk)
    refine⟨ti,kt,et,v,ht,hd,xkey_ok hi,hv,?_⟩
    simp only [hσ]
    refine⟨hks,?_⟩
    split at h
    ·rename_i n hn
     obtain⟨_,h2⟩:=ze8 (fun _ _=>zd7 hv) hn
     rw [Nat.sub_zero] at h2
     split at h
     ·rename_i r' hr
      cases h
      exact .inl ⟨n,r',h2,hr,hk⟩
     ·cases h
    ·rename_i hn
     split at h
     ·rename_i io hio
      split at h
      ·rename_i z hz
       cases h
       exact .inr ⟨ze9 (zd7 hv) hn,z,⟨io,hio,hz⟩,hk⟩
      ·cases h
     ·cases h
   ·cases h
  ·cases h
 ·cases h
def zju (T:Tab) (t:TypeId) (x i y:AV) (σ:zaa):Option zaa :=
 match T t,xkey i,x with
 | some ti,some v,.mpt id=>match ti.d,σ[id]? with
  | .map kt et,some (.mpb ks vs)=>if zgZ T kt v=true∧ks.all (zgZ T kt)=true then (match findK v ks 0 with
   | some n=>some (σ.set id (.mpb ks (vs.set n y)))
   | none=>some (σ.set id (.mpb (ks++[v]) (vs++[y])))) else none
  | _,_=>none
 | _,_,_=>none
theorem ziT {T:Tab} {t:TypeId} {x i y:AV} {σ s:zaa} {K:AV→zaa→Prop} (h:zju T t x i y σ=some s) (hk:K (.lit undef) s):wmapUpd T t x i y σ K:=by
 unfold zju at h
 split at h
 ·rename_i ti v id ht hi
  split at h
  ·rename_i kt et ks vs hd hσ
   split at h
   ·rename_i hc
    have hv:=zd6 hc.1
    have hks:∀ k∈ks,zdO T kt k:=fun k hk=>zd6 (List.all_eq_true.1 hc.2 k hk)
    refine⟨ti,kt,et,v,ht,hd,xkey_ok hi,hv,?_⟩
    simp only [hσ]
    refine⟨hks,?_⟩
    split at h
    ·rename_i n hn
     obtain⟨_,h2⟩:=ze8 (fun _ _=>zd7 hv) hn
     rw [Nat.sub_zero] at h2
     cases h
     exact .inl ⟨n,h2,hk⟩
    ·rename_i hn
     cases h
     exact .inr ⟨ze9 (zd7 hv) hn,hk⟩
   ·cases h
  ·cases h
 ·cases h
def xdelete (T:Tab) (ts:Array TypeId) (x i:AV) (σ:zaa):Option (AV × zaa) :=
 match ts[0]?,xkey i,x with
 | some t,some v,.mpt id=>match T t,σ[id]? with
  | some ti,some (.mpb ks vs)=>match ti.d with
   | .map kt et=>if zgZ T kt v=true∧ks.all (zgZ T kt)=true then (match findK v ks 0 with
    | some n=>some (.tup [],σ.set id (.mpb (ks.eraseIdx n) (vs.eraseIdx n)))
    | none=>some (.tup [],σ.set id (.mpb ks vs))) else none
   | _=>none
  | _,_=>none
 | _,_,_=>none
theorem xdelete_ok {T:Tab} {ts:Array TypeId} {x i:AV} {σ:zaa} {r:AV × zaa} {K:AV→zaa→Prop} (h:xdelete T ts x i σ=some r) (hk:K r.1 r.2):wdelete T ts x i σ K:=by
 unfold xdelete at h
 split at h
 ·rename_i t v id h0 hi
  split at h
  ·rename_i ti ks vs ht hσ
   split at h
   ·rename_i kt et hd
    split at h
    ·rename_i hc
     have hv:=zd6 hc.1
     have hks:∀ k∈ks,zdO T kt k:=fun k hk=>zd6 (List.all_eq_true.1 hc.2 k hk)
     refine⟨t,ti,kt,et,v,h0,ht,hd,xkey_ok hi,hv,?_⟩
     simp only [hσ]
     refine⟨hks,?_⟩
     split at h
     ·rename_i n hn
      obtain⟨_,h2⟩:=ze8 (fun _ _=>zd7 hv) hn
      rw [Nat.sub_zero] at h2
      cases h
      exact .inl ⟨n,h2,hk⟩
     ·rename_i hn
      cases h
      exact .inr ⟨ze9 (zd7 hv) hn,hk⟩
    ·cases h
   ·cases h
  ·cases h
 ·cases h
end Go.Eng
end

section
namespace Go.Eng
open Go
def litB:Value→Value→Bool
 | .slice none a b,.slice none c d=>decide (a=c) && decide (b=d)
 | .pointer none,.pointer none=>true
 | .nilIface,.nilIface=>true
 | .nilFunc,.nilFunc=>true
 | .map none,.map none=>true
 | .tuple a,.tuple b=>decide (a.toList.length=0) && decide (b.toList.length=0)
 | a,b=>vB a b
theorem litB_eq {a b:Value} (h:litB a b=true):a=b:=by
 unfold litB at h
 split at h
 ·rw [Bool.and_eq_true,decide_eq_true_eq,decide_eq_true_eq] at h
  rw [h.1,h.2]
 ·rfl
 ·rfl
 ·rfl
 ·rfl
 ·rw [Bool.and_eq_true,decide_eq_true_eq,decide_eq_true_eq] at h
  rename_i a b
  have h1:a.toList=b.toList:=by rw [List.length_eq_zero_iff.1 h.1,List.length_eq_zero_iff.1 h.2]
  rw [Array.toList_inj.1 h1]
 ·exact vB_eq h
def fnB:Fn→Fn→Bool
 | .func f,.func g=>decide (f=g)
 | _,_=>false
mutual
def AV.eqB:AV→AV→Bool
 | .bot,.bot=>true
 | .lit a,.lit b=>litB a b
 | .agg l,.agg m=>eqBL l m
 | .tup l,.tup m=>eqBL l m
 | .sl l n,.sl m k=>decide (n=k) && eqBL l m
 | .rp l,.rp m=>eqBL l m
 | .ref a b c d,.ref a' b' c' d'=>decide (a=a') && decide (b=b') && decide (c=c') && decide (d=d')
 | .ptr a b,.ptr a' b'=>decide (a=a') && decide (b=b')
 | .yl a,.yl b=>decide (a=b)
 | .mpt a,.mpt b=>decide (a=b)
 | .sd a b,.sd a' b'=>decide (a=a') && decide (b=b')
 | .bsl a b,.bsl a' b'=>decide (a=a') && decide (b=b')
 | .fn f a b,.fn f' a' b'=>fnB f f' && eqBL a a' && eqBL b b'
 | .ifc t a,.ifc t' a'=>decide (t=t') && a.eqB a'
 | _,_=>false
def eqBL:List AV→List AV→Bool
 | [],[]=>true
 | a::l,b::m=>a.eqB b && eqBL l m
 | _,_=>false
end
theorem fnB_eq {f g:Fn} (h:fnB f g=true):f=g:=by
 unfold fnB at h
 split at h
 ·rw [decide_eq_true_eq] at h
  rw [h]
 ·cases h
mutual
theorem AV.eqB_eq:∀ {a b:AV},a.eqB b=true→a=b
 | .bot,.bot,_=>rfl
 | .lit _,.lit _,h=>congrArg AV.lit (litB_eq (by simpa [AV.eqB] using h))
 | .agg _,.agg _,h=>congrArg AV.agg (zcD (by simpa [AV.eqB] using h))
 | .tup _,.tup _,h=>congrArg AV.tup (zcD (by simpa [AV.eqB] using h))
 | .sl _ _,.sl _ _,h=>by
  simp only [AV.eqB,Bool.and_eq_true,decide_eq_true_eq] at h
  rw [h.1,zcD h.2]
 | .rp _,.rp _,h=>congrArg AV.rp (zcD (by simpa [AV.eqB] using h))
 | .ref ..,.ref ..,h=>by
  simp only [AV.eqB,Bool.and_eq_true,decide_eq_true_eq] at h
  rw [h.1.1.1,h.1.1.2,h.1.2,h.2]
 | .ptr ..,.ptr ..,h=>by
  simp only [AV.eqB,Bool.and_eq_true,decide_eq_true_eq] at h
  rw [h.1,h.2]
 | .yl _,.yl _,h=>by
  simp only [AV.eqB,decide_eq_true_eq] at h
  rw [h]
 | .mpt _,.mpt _,h=>by
  simp only [AV.eqB,decide_eq_true_eq] at h
  rw [h]
 | .sd ..,.sd ..,h=>by
  simp only [AV.eqB,Bool.and_eq_true,decide_eq_true_eq] at h
  rw [h.1,h.2]
 | .bsl ..,.bsl ..,h=>by
  simp only [AV.eqB,Bool.and_eq_true,decide_eq_true_eq] at h
  rw [h.1,h.2]
 | .fn ..,.fn ..,h=>by
  simp only [AV.eqB,Bool.and_eq_true] at h
  rw [fnB_eq h.1.1,zcD h.1.2,zcD h.2]
 | .ifc _ _,.ifc _ _,h=>by
  simp only [AV.eqB,Bool.and_eq_true,decide_eq_true_eq] at h
  rw [h.1,AV.eqB_eq h.2]
theorem zcD:∀ {l m:List AV},eqBL l m=true→l=m
 | [],[],_=>rfl
 | a::l,b::m,h=>by
  simp only [eqBL,Bool.and_eq_true] at h
  rw [AV.eqB_eq h.1,zcD h.2]
end
def vsLB:List Value→List Value→Bool
 | [],[]=>true
 | a::l,b::m=>keyB a b && vsLB l m
 | _,_=>false
theorem vsLB_eq:∀ {l m:List Value},vsLB l m=true→l=m
 | [],[],_=>rfl
 | a::l,b::m,h=>by
  rw [vsLB,Bool.and_eq_true] at h
  rw [keyB_eq h.1,vsLB_eq h.2]
def Blk.eqB:Blk→Blk→Bool
 | .rw a,.rw b=>eqBL a b
 | .ro a,.ro b=>eqBL a b
 | .dead,.dead=>true
 | .rt x e a,.rt y f b=>decide (x=y) && decide (e=f) && eqBL a b
 | .mpb ks vs,.mpb ks' vs'=>vsLB ks ks' && eqBL vs vs'
 | _,_=>false
theorem Blk.eqB_eq {a b:Blk} (h:a.eqB b=true):a=b:=by
 unfold Blk.eqB at h
 split at h
 ·rw [zcD h]
 ·rw [zcD h]
 ·rfl
 ·simp only [Bool.and_eq_true,decide_eq_true_eq] at h
  rw [h.1.1,h.1.2,zcD h.2]
 ·rw [Bool.and_eq_true] at h
  rw [vsLB_eq h.1,zcD h.2]
 ·cases h
def stB:zaa→zaa→Bool
 | [],[]=>true
 | a::l,b::m=>a.eqB b && stB l m
 | _,_=>false
theorem zj6:∀ {l m:zaa},stB l m=true→l=m
 | [],[],_=>rfl
 | a::l,b::m,h=>by
  rw [stB,Bool.and_eq_true] at h
  rw [Blk.eqB_eq h.1,zj6 h.2]
mutual
def AV.idsOf:AV→List Nat
 | .agg l=>idsL l
 | .tup l=>idsL l
 | .sl l _=>idsL l
 | .rp l=>idsL l
 | .ref id _ _ _=>[id]
 | .ptr id _=>[id]
 | .yl id=>[id]
 | .mpt id=>[id]
 | .sd id _=>[id]
 | .bsl id _=>[id]
 | .fn _ a b=>idsL a++idsL b
 | .ifc _ a=>a.idsOf
 | _=>[]
def idsL:List AV→List Nat
 | []=>[]
 | a::l=>a.idsOf++idsL l
end
def Blk.idsOf:Blk→List Nat
 | .rw cs=>idsL cs
 | .ro cs=>idsL cs
 | .rt _ _ cs=>idsL cs
 | .lp _ _ env _ _ _=>idsL env
 | .mpb _ vs=>idsL vs
 | .mpi _ vs _=>idsL vs
 | .fz _ _ cs=>idsL cs
 | .dead=>[]
def hasN (n:Nat):List Nat→Bool
 | []=>false
 | a::l=>Nat.beq a n || hasN n l
def markX (σ:zaa):Nat→List Nat→List Nat→List Nat
 | 0,_,q=>q
 | _+1,[],q=>q
 | f+1,a::l,q=>if hasN a q=true then markX σ f l q else match σ[a]? with
  | some b=>markX σ f (b.idsOf++l) (q++[a])
  | none=>markX σ f l q
def posN (n:Nat):List Nat→Nat→Option Nat
 | [],_=>none
 | a::l,i=>if Nat.beq a n=true then some i else posN n l (i+1)
theorem posN_get {n:Nat}:∀ {l:List Nat} {i k:Nat},posN n l i=some k→i≤k∧l[k - i]?=some n
 | [],_,_,h=>by cases h
 | a::l,i,k,h=>by
  rw [posN] at h
  split at h
  ·rename_i ha
   cases h
   refine⟨Nat.le_refl _,?_⟩
   rw [Nat.sub_self,List.getElem?_cons_zero,Nat.eq_of_beq_eq_true ha]
  ·obtain⟨h1,h2⟩:=posN_get h
   refine⟨by omega,?_⟩
   rw [show k - i=(k - (i+1))+1 by omega,List.getElem?_cons_succ]
   exact h2
theorem zgE {n k:Nat} {q:List Nat} (h:posN n q 0=some k):q[k]?=some n:=(posN_get h).2
mutual
def AV.inv (q:List Nat):AV→Option AV
 | .bot=>some .bot
 | .lit v=>some (.lit v)
 | .agg l=>(invL q l).map .agg
 | .tup l=>(invL q l).map .tup
 | .sl cs n=>(invL q cs).map (.sl · n)
 | .rp cs=>(invL q cs).map .rp
 | .ref id o l s=>(posN id q 0).map (.ref · o l s)
 | .ptr id o=>(posN id q 0).map (.ptr · o)
 | .yl id=>(posN id q 0).map .yl
 | .mpt id=>(posN id q 0).map .mpt
 | .fn f a b=>match invL q a,invL q b with
  | some a',some b'=>some (.fn f a' b')
  | _,_=>none
 | .ifc t a=>(a.inv q).map (.ifc t)
 | .sd id n=>(posN id q 0).map (.sd · n)
 | .bsl id n=>(posN id q 0).map (.bsl · n)
def invL (q:List Nat):List AV→Option (List AV)
 | []=>some []
 | a::l=>match a.inv q,invL q l with
  | some a',some l'=>some (a'::l')
  | _,_=>none
end
theorem zbJ {α β:Type} {f:α→β} {o:Option α} {r:β} (h:o.map f=some r):∃ a,o=some a∧r=f a:=by
 cases o with
 | none=>cases h
 | some a=>cases h;exact⟨a,rfl,rfl⟩
mutual
theorem AV.inv_ren {q:List Nat}:∀ {a b:AV},a.inv q=some b→b.ren q=some a
 | .bot,_,h=>by cases h;rfl
 | .lit _,_,h=>by cases h;rfl
 | .agg _,_,h=>by
  obtain⟨m,h1,rfl⟩:=zbJ (by simpa only [AV.inv] using h)
  rw [AV.ren,zdb h1];rfl
 | .tup _,_,h=>by
  obtain⟨m,h1,rfl⟩:=zbJ (by simpa only [AV.inv] using h)
  rw [AV.ren,zdb h1];rfl
 | .sl _ _,_,h=>by
  obtain⟨m,h1,rfl⟩:=zbJ (by simpa only [AV.inv] using h)
  rw [AV.ren,zdb h1];rfl
 | .rp _,_,h=>by
  obtain⟨m,h1,rfl⟩:=zbJ (by simpa only [AV.inv] using h)
  rw [AV.ren,zdb h1];rfl
 | .ref ..,_,h=>by
  obtain⟨m,h1,rfl⟩:=zbJ (by simpa only [AV.inv] using h)
  rw [AV.ren,zgE h1];rfl
 | .ptr ..,_,h=>by
  obtain⟨m,h1,rfl⟩:=zbJ (by simpa only [AV.inv] using h)
  rw [AV.ren,zgE h1];rfl
 | .yl _,_,h=>by
  obtain⟨m,h1,rfl⟩:=zbJ (by simpa only [AV.inv] using h)
  rw [AV.ren,zgE h1];rfl
 | .mpt _,_,h=>by
  obtain⟨m,h1,rfl⟩:=zbJ (by simpa only [AV.inv] using h)
  rw [AV.ren,zgE h1];rfl
 | .sd ..,_,h=>by
  obtain⟨m,h1,rfl⟩:=zbJ (by simpa only [AV.inv] using h)
  rw [AV.ren,zgE h1];rfl
 | .bsl ..,_,h=>by
  obtain⟨m,h1,rfl⟩:=zbJ (by simpa only [AV.inv] using h)
  rw [AV.ren,zgE h1];rfl
 | .fn f a b,_,h=>by
  rw [AV.inv] at h
  split at h
  ·rename_i a' b' h1 h2
   cases h
   rw [AV.ren,zdb h1,zdb h2]
   rfl
  ·cases h
 | .ifc _ a,_,h=>by
  obtain⟨m,h1,rfl⟩:=zbJ (by simpa only [AV.inv] using h)
  rw [AV.ren,AV.inv_ren h1];rfl
theorem zdb {q:List Nat}:∀ {a b:List AV},invL q a=some b→renL q b=some a
 | [],_,h=>by cases h;rfl
 | a::l,_,h=>by
  rw [invL] at h
  split at h
  ·rename_i a' l' h1 h2
   cases h
   rw [renL,AV.inv_ren h1,zdb h2]
   rfl
  ·cases h
end
def Blk.inv (q:List Nat):Blk→Option Blk
 | .rw cs=>(invL q cs).map .rw
 | .ro cs=>(invL q cs).map .ro
 | .rt x e cs=>(invL q cs).map (.rt x e)
 | .dead=>some .dead
 | .lp st pend env ps as9 bd=>(invL q env).map (.lp st pend · ps as9 bd)
 | .mpb ks vs=>(invL q vs).map (.mpb ks ·)
 | .mpi ks vs sn=>(invL q vs).map (.mpi ks · sn)
 | .fz e k cs=>(invL q cs).map (.fz e k ·)
theorem Blk.inv_ren {q:List Nat} {a b:Blk} (h:a.inv q=some b):b.ren q=some a:=by
 cases a <;> simp only [Blk.inv] at h <;> first
  | (obtain⟨m,h1,rfl⟩:=zbJ h;simp only [Blk.ren,zdb h1,Option.map_some])
  | (cases h;rfl)
def invS (σ:zaa) (q:List Nat):List Nat→Option zaa
 | []=>some []
 | k::ks=>match σ[k]? with
  | some b=>match b.inv q,invS σ q ks with
   | some b',some s=>some (b'::s)
   | _,_=>none
  | none=>none
theorem zh4 {σ:zaa} {q:List Nat}:∀ {ks:List Nat} {s:zaa},invS σ q ks=some s→s.length=ks.length∧zaw σ q ks s
 | [],_,h=>by cases h;exact⟨rfl,trivial⟩
 | k::ks,s,h=>by
  rw [invS] at h
  split at h
  ·rename_i b hb
   split at h
   ·rename_i b' s' h1 h2
    cases h
    obtain⟨i1,i2⟩:=zh4 h2
    exact⟨by rw [List.length_cons,List.length_cons,i1],.inr ⟨b,Blk.inv_ren h1,hb⟩,i2⟩
   ·cases h
  ·cases h
def nodB:List Nat→Bool
 | []=>true
 | a::l=>!hasN a l && nodB l
theorem hasN_mem {n:Nat}:∀ {l:List Nat},hasN n l=false→n ∉ l
 | [],_=>by simp
 | a::l,h=>by
  rw [hasN,Bool.or_eq_false_iff] at h
  intro hm
  rcases List.mem_cons.1 hm with rfl | hm
  ·rw [Nat.beq_refl] at h
   cases h.1
  ·exact hasN_mem h.2 hm
theorem nodB_ok:∀ {l:List Nat},nodB l=true→l.Nodup
 | [],_=>List.nodup_nil
 | a::l,h=>by
  rw [nodB,Bool.and_eq_true,Bool.not_eq_true'] at h
  exact List.nodup_cons.2 ⟨hasN_mem h.1,nodB_ok h.2⟩
def idsS:List Blk→List Nat
 | []=>[]
 | b::l=>b.idsOf++idsS l
def xend (n0:Nat) (r:AV) (σ:zaa):AV × zaa :=
 match (fun q=>match r.inv q,invS σ q q,nodB q && decide (q.take n0=List.range n0) with
  | some r',some s,true=>some (r',s)
  | _,_,_=>none) (markX σ 100000 (r.idsOf++idsS (σ.take n0)) (List.range n0)) with
 | some x=>x
 | none=>(r,σ)
end Go.Eng
end

section
namespace Go.Eng
open Go
section
variable [Globs]
theorem zgF {n0:Nat} {r:AV} {σ:zaa} {K:AV→zaa→Prop} (hk:K (xend n0 r σ).1 (xend n0 r σ).2):endQ n0 r σ K:=by
 unfold xend at hk
 split at hk
 ·rename_i x hx
  dsimp only at hx
  split at hx
  ·rename_i r' s h1 h2 h3
   cases hx
   rw [Bool.and_eq_true,decide_eq_true_eq] at h3
   obtain⟨i1,i2⟩:=zh4 h2
   exact .inl ⟨_,r',s,i1.symm,h3.2,nodB_ok h3.1,AV.inv_ren h1,i2,hk⟩
  ·cases hx
 ·exact .inr (.inr (.inr hk))
abbrev Cl:=FuncId→List AV→zaa→Option (AEnd × zaa)
abbrev Yl:=Nat→List AV→zaa→Option (AEnd × zaa)
def ClOK (P:Program) (cl:Cl):Prop:=∀ f as9 σ x s,cl f as9 σ=some (x,s)→∀ K:AEnd→zaa→Prop,K x s→ACalls P f as9 σ K
def YlOK (P:Program) (yl:Yl):Prop:=∀ id as9 σ x s,yl id as9 σ=some (x,s)→∀ K:AEnd→zaa→Prop,K x s→AYield P id as9 σ K
inductive XO where
 | val (r:AV) (σ:zaa)
 | pan (r:AV) (σ:zaa)
def XO.sat (K Kp:AV→zaa→Prop):XO→Prop
 | .val r s=>K r s
 | .pan r s=>Kp r s
def xv (o:Option AV) (σ:zaa):Option XO:=match o with
 | some r=>some (.val r σ)
 | none=>none
def xs (o:Option (AV × zaa)):Option XO:=match o with
 | some r=>some (.val r.1 r.2)
 | none=>none
def xe (o:Option (AEnd × zaa)):Option XO:=match o with
 | some (.ret r,s)=>some (.val r s)
 | some (.pan r,s)=>some (.pan r s)
 | none=>none
theorem zd8 {o:Option AV} {σ:zaa} {x:XO} (h:xv o σ=some x):∃ r,o=some r∧x=.val r σ:=by
 cases o with
 | none=>cases h
 | some r=>cases h;exact⟨r,rfl,rfl⟩
theorem zjv {o:Option (AV × zaa)} {x:XO} (h:xs o=some x):∃ r,o=some r∧x=.val r.1 r.2:=by
 cases o with
 | none=>cases h
 | some r=>cases h;exact⟨r,rfl,rfl⟩
theorem xe_ok {o:Option (AEnd × zaa)} {x:XO} {K Kp:AV→zaa→Prop} (h:xe o=some x) (hk:x.sat K Kp):∃ e s,o=some (e,s)∧zj1 K Kp e s:=by
 unfold xe at h
 split at h
 ·cases h
  exact⟨_,_,rfl,hk⟩
 ·cases h
  exact⟨_,_,rfl,hk⟩
 ·cases h
def xcal (cl:Cl) (yl:Yl) (f:AV) (args:List AV) (σ:zaa):Option XO :=
 match f with
 | .fn (.func g) first cap=>xe (cl g (first++args++cap) σ)
 | .yl id=>xe (yl id args σ)
 | _=>none
theorem xcal_ok {P:Program} {cl:Cl} {yl:Yl} (hc:ClOK P cl) (hy:YlOK P yl) {f:AV} {args:List AV} {σ:zaa} {x:XO} {K Kp:AV→zaa→Prop} (h:xcal cl yl f args σ=some x) (hk:x.sat K Kp):ziB P f args σ K Kp:=by
 unfold xcal at h
 split at h
 ·obtain⟨e,s,h1,h2⟩:=xe_ok h hk
  exact hc _ _ _ _ _ h1 _ h2
 ·obtain⟨e,s,h1,h2⟩:=xe_ok h hk
  exact hy _ _ _ _ _ h1 _ h2
 ·cases h
def xmeth (P:Program) (t:TypeId) (name:String):Option FuncId :=
 match P.info? t with
 | some i=>match i.methods.find? (·.name == name) with
  | some m=>match m.func with
   | some (g,_)=>some g
   | none=>none
  | none=>none
 | none=>none
def xinv (P:Program) (T:Tab) (cl:Cl) (yl:Yl) (x:AV) (name:String) (args:List AV) (σ:zaa):Option XO :=
 match zfv x with
 | some (t,v)=>match xmeth P t name with
  | some g=>if mrow P t name g false=true∨mrow P t name g true=true then xcal cl yl (.fn (.func g) [v] []) args σ else (match v,P.underlying t with
   | .ptr id off,some (.pointer e)=>if mrowP P t e name g=true then (match xload T e (.ptr id off) σ with
    | some r=>xcal cl yl (.fn (.func g) [r] []) args σ
    | none=>none) else none
   | _,_=>none)
  | none=>none
 | none=>none
theorem xinv_ok {P:Program} {T:Tab} (hT:zaD P T) {cl:Cl} {yl:Yl} (hc:ClOK P cl) (hy:YlOK P yl) {v:AV} {name:String} {args:List AV} {σ:zaa} {x:XO} {K Kp:AV→zaa→Prop} (h:xinv P T cl yl v name args σ=some x) (hk:x.sat K Kp):zhD P v name args σ K Kp:=by
 unfold xinv at h
 unfold zhD
 split at h
 ·rename_i t u hi
  simp only [hi]
  split at h
  ·rename_i g hg
   split at h
   ·rename_i hm
    refine⟨(g,u),MethIs.at' ?_,xcal_ok hc hy h hk⟩
    rcases hm with hm | hm <;> exact mrow_ok hm
   ·split at h
    ·rename_i id off e he
     split at h
     ·rename_i hm
      split at h
      ·rename_i r hr
       exact⟨(g,r),mrowP_ok hT hm (zhc hr rfl),xcal_ok hc hy h hk⟩
      ·cases h
     ·cases h
    ·cases h
  ·cases h
 ·cases h
def xsd:AV→Option AV
 | .bsl id n=>some (.sd id n)
 | _=>none
theorem xsd_ok {x r:AV} {K:AV→Prop} (h:xsd x=some r) (hk:K r):wsd x K:=by
 unfold xsd at h
 unfold wsd
 grind
def u8L:List AV→Option (List UInt8)
 | []=>some []
 | .lit (.int .u8 z)::l=>if ((UInt8.ofNat z.toNat).toNat:Int)=z then (match u8L l with
  | some r=>some (UInt8.ofNat z.toNat::r)
  | none=>none) else none
 | _=>none
theorem u8L_eq:∀ {l:List AV} {bs:List UInt8},u8L l=some bs→l=bs.map (fun b=>AV.lit (.int .u8 (b.toNat:Int)))
 | [],_,h=>by cases h;rfl
 | a::l,bs,h=>by
  unfold u8L at h
  split at h
  ·cases h;contradiction
  ·rename_i z l1 hl
   cases hl
   split at h
   ·rename_i hz
    split at h
    ·rename_i r hr
     cases h
     rw [List.map_cons,hz,u8L_eq hr]
    ·cases h
   ·cases h
  ·cases h
def xusS (ep k:Nat) (id:Nat) (σ:zaa):Option (AV × zaa):=match σ[id]? with
 | some (.rt false e cs)=>match u8L (cs.take k) with
  | some bs=>if e=ep∧k≤cs.length∧k≤9223372036854775807 then some (.lit (.string ⟨bs.toArray⟩),σ.set id (.fz e k cs)) else none
  | none=>none
 | some (.fz e k' cs)=>match u8L (cs.take k) with
  | some bs=>if e=ep∧k'=k∧k≤cs.length∧k≤9223372036854775807 then some (.lit (.string ⟨bs.toArray⟩),σ) else none
  | none=>none
 | _=>none
def xwus (T:Tab) (ts:Array TypeId) (x y:AV) (σ:zaa):Option (AV × zaa) :=
 match x,y,ts.toList with
 | .sd id k,.lit (.int .i64 n),[tp,_]=>if n=k then (if k=0 then some (.lit (.string ⟨#[]⟩),σ) else match T tp with
  | some tip=>match tip.d with
   | .ptr ep=>match T ep with
    | some te=>if te.size=1 then xusS ep k id σ else none
    | none=>none
   | _=>none
  | none=>none) else none
 | _,_,_=>none
theorem xwus_ok {T:Tab} {ts:Array TypeId} {x y:AV} {σ:zaa} {r:AV × zaa} {K:AV→zaa→Prop} (h:xwus T ts x y σ=some r) (hk:K r.1 r.2):wus T ts x y σ K:=by
 unfold xwus at h
 split at h
 ·rename_i id k n tp tn hts
  unfold wus
  simp only [hts]
  split at h
  ·rename_i hn
   refine⟨hn,?_⟩
   split at h
   ·rename_i h0
    cases h
    exact⟨fun _=>hk,fun h9=>absurd h0 h9⟩
   ·rename_i h0
    refine⟨fun h9=>absurd h9 h0,fun _=>?_⟩
    split at h
    ·rename_i tip ht
     split at h
     ·rename_i ep hd
      split at h
      ·rename_i te hte
       split at h
       ·rename_i hs
        refine⟨tip,ep,ht,hd,te,hte,hs,?_⟩
        unfold xusS at h
        split at h
        ·rename_i e cs hσ
         simp only [hσ]
         split at h
         ·rename_i bs hb
          split at h
          ·rename_i hh
           cases h
           exact⟨hh.1,hh.2.1,hh.2.2,bs,u8L_eq hb,.inr hk⟩
          ·cases h
         ·cases h
        ·rename_i e k' cs hσ
         simp only [hσ]
         split at h
         ·rename_i bs hb
          split at h
          ·rename_i hh
           cases h
           exact⟨hh.1,hh.2.1,hh.2.2.1,hh.2.2.2,bs,u8L_eq hb,hk⟩
          ·cases h
         ·cases h
        ·cases h
       ·cases h
      ·cases h
     ·cases h
    ·cases h
  ·cases h
 ·cases h
def zjw (T:Tab) (b:Builtin) (ts:Array TypeId) (args:List AV) (σ:zaa):Option XO :=
 match b,args with
 | .len,[x]=>match ts.toList with
  | [t]=>xv (xlen T t x) σ
  | _=>none
 | .append,[s,x]=>xs (xappO T ts s x σ)
 | .cap,[x]=>match ts.toList with
  | [t]=>xv (xcap T t x) σ
  | _=>none
 | .min,l=>xv (zjs false l) σ
 | .max,l=>xv (zjs true l) σ
 | .panic,[.ifc t x]=>some (.pan (.ifc t x) σ)
 | .delete,[x,i]=>xs (xdelete T ts x i σ)
 | .unsafeSliceData,[x]=>xv (xsd x) σ
 | .unsafeString,[x,y]=>xs (xwus T ts x y σ)
 | _,_=>none
theorem xbuiltin_ok {T:Tab} {b:Builtin} {ts:Array TypeId} {args:List AV} {σ:zaa} {x:XO} {K Kp:AV→zaa→Prop} (h:zjw T b ts args σ=some x) (hk:x.sat K Kp):zda T b ts args σ K Kp:=by
 unfold zjw at h
 unfold zda
 split at h
 ·split at h
  ·rename_i ht
   simp only [ht]
   obtain⟨r,h1,rfl⟩:=zd8 h
   exact xlen_ok h1 hk
  ·cases h
 ·obtain⟨r,h1,rfl⟩:=zjv h
  exact xappO_ok h1 hk
 ·split at h
  ·rename_i ht
   simp only [ht]
   obtain⟨r,h1,rfl⟩:=zd8 h
   exact xcap_ok h1 hk
  ·cases h
 ·obtain⟨r,h1,rfl⟩:=zd8 h
  exact ziR h1 hk
 ·obtain⟨r,h1,rfl⟩:=zd8 h
  exact ziR h1 hk
 ·cases h
  exact hk
 ·obtain⟨r,h1,rfl⟩:=zjv h
  exact xdelete_ok h1 hk
 ·obtain⟨r,h1,rfl⟩:=zd8 h
  exact xsd_ok h1 hk
 ·obtain⟨r,h1,rfl⟩:=zjv h
  exact xwus_ok h1 hk
 ·cases h
def xnil (P:Program) (x:AV):Option AV:=match x with
 | .ptr id off=>some (.ptr id off)
 | .rp cs=>some (.rp cs)
 | .fn (.func f) a b=>some (.fn (.func f) a b)
 | .yl id=>some (.yl id)
 | _=>none
def xop (P:Program) (T:Tab) (cl:Cl) (yl:Yl) (o:Op) (ev:Operand→AV) (σ:zaa):Option XO :=
 match o with
 | .move x=>some (.val (ev x) σ)
 | .assign x=>some (.val (ev x) σ)
 | .pick c a b=>xv (xpick (ev c) (ev a) (ev b)) σ
 | .alloc e=>xs (xalloc T e σ)
 | .box e x=>xs (xbox T e (ev x) σ)
 | .build t ps=>xv (xbuild T t (zcj ev ps)) σ
 | .buildSlice t len ps=>xs (zfF T t len (zcj ev ps) σ)
 | .load t a=>xv (xload T t (ev a) σ) σ
 | .store t a x=>match xstore T t (ev a) (ev x) σ with
  | some s=>some (.val (.lit undef) s)
  | none=>none
 | .nilCheck x=>xv (xnil P (ev x)) σ
 | .binOp op t x y _=>xv (xbinW T op t x y ev) σ
 | .makeInterface t x=>xv (xmkI T t (ev x)) σ
 | .typeAssert x _ a ok=>xv (zjr P T a ok (ev x)) σ
 | .unOp op _ x=>xv (xun op (ev x)) σ
 | .convert s d x=>xs (xconv T s d (ev x) σ)
 | .makeFunc fn first cap=>some (.val (.fn fn (first.toList.map ev) (cap.toList.map ev)) σ)
 | .makeSlice t l c=>xs (xmake T t (ev l) (ev c) σ)
 | .slice t x lo hi none=>xv (xslice T t (ev x) (lo.map ev) (hi.map ev) σ) σ
 | .fieldAddr s x f=>xv (ze7 T s (ev x) f) σ
 | .field t x f=>xv (xfield T t (ev x) f) σ
 | .indexAddr t x i=>xv (ze6 T t (ev x) (ev i)) σ
 | .index t x i=>xv (xindex T t (ev x) (ev i)) σ
 | .extract x i=>xv (zhd (ev x) i) σ
 | .call c=>match c.callee with
  | .value f=>xcal cl yl (ev f) (c.args.toList.map ev) σ
  | .builtin b=>zjw T b c.argTypes (c.args.toList.map ev) σ
  | .invoke r name=>xinv P T cl yl (ev r) name (c.args.toList.map ev) σ
 | .panic x=>match ev x with
  | .ifc t v=>some (.pan (.ifc t v) σ)
  | _=>none
 | .makeMap _ none=>some (.val (.mpt σ.length) (σ++[.mpb [] []]))
 | .lookup t x i ok=>xv (xlookup P T t (ev x) (ev i) ok σ) σ
 | .mapUpdate t x i y=>match zju T t (ev x) (ev i) (ev y) σ with
  | some s=>some (.val (.lit undef) s)
  | none=>none
 | .insert t x i y=>match zju T t (ev x) (ev i) (ev y) σ with
  | some s=>some (.val (.lit undef) s)
  | none=>none
 | _=>none
theorem xnil_ok {P:Program} {x r:AV} {K:AV→Prop} (h:xnil P x=some r) (hk:K r):wnil P x K:=by
 unfold xnil at h
 unfold wnil
 grind
theorem Wnil_of {P:Program} {T:Tab} {x:Operand} {ev:Operand→AV} {σ:zaa} {K Kp:AV→zaa→Prop} (h:wnil P (ev x) (fun r=>K r σ)):Wop P T (.nilCheck x) ev σ K Kp:=by
 rw [zgX]
 exact h
theorem zj7 {P:Program} {T:Tab} (hT:zaD P T) {cl:Cl} {yl:Yl} (hc:ClOK P cl) (hy:YlOK P yl) {o:Op} {ev:Operand→AV} {σ:zaa} {x:XO} {K Kp:AV→zaa→Prop} (h:xop P T cl yl o ev σ=some x) (hk:x.sat K Kp):Wop P T o ev σ K Kp:=by
 unfold xop at h
 split at h
 ·cases h;exact hk
 ·cases h;exact hk
 ·obtain⟨r,h1,rfl⟩:=zd8 h;exact xpick_ok (K:=fun r=>K r σ) h1 hk
 ·obtain⟨r,h1,rfl⟩:=zjv h;exact xalloc_ok h1 hk
 ·obtain⟨r,h1,rfl⟩:=zjv h;exact xbox_ok h1 hk
 ·obtain⟨r,h1,rfl⟩:=zd8 h;exact xbuild_ok (K:=fun r=>K r σ) h1 hk
 ·obtain⟨r,h1,rfl⟩:=zjv h;exact xbuildSlice_ok h1 hk
 ·obtain⟨r,h1,rfl⟩:=zd8 h;exact zhc (K:=fun r=>K r σ) h1 hk
 ·split at h
  ·rename_i s hs
   cases h
   exact xstore_ok hs hk
  ·cases h
 ·obtain⟨r,h1,rfl⟩:=zd8 h;exact Wnil_of (xnil_ok h1 hk)
 ·obtain⟨r,h1,rfl⟩:=zd8 h;exact xbinW_ok (K:=fun r=>K r σ) h1 hk
 ·obtain⟨r,h1,rfl⟩:=zd8 h;exact xmkI_ok (K:=fun r=>K r σ) h1 hk
 ·obtain⟨r,h1,rfl⟩:=zd8 h;exact ziQ (K:=fun r=>K r σ) h1 hk
 ·obtain⟨r,h1,rfl⟩:=zd8 h;exact xun_ok (K:=fun r=>K r σ) h1 hk
 ·obtain⟨r,h1,rfl⟩:=zjv h;exact xconv_ok h1 hk
 ·cases h;exact hk
 ·obtain⟨r,h1,rfl⟩:=zjv h;exact xmake_ok h1 hk
 ·obtain⟨r,h1,rfl⟩:=zd8 h;exact xslice_ok (K:=fun r=>K r σ) h1 hk
 ·obtain⟨r,h1,rfl⟩:=zd8 h;exact zga (K:=fun r=>K r σ) h1 hk
 ·obtain⟨r,h1,rfl⟩:=zd8 h;exact xfield_ok (K:=fun r=>K r σ) h1 hk
 ·obtain⟨r,h1,rfl⟩:=zd8 h;exact zf9 (K:=fun r=>K r σ) h1 hk
 ·obtain⟨r,h1,rfl⟩:=zd8 h;exact xindex_ok (K:=fun r=>K r σ) h1 hk
 ·obtain⟨r,h1,rfl⟩:=zd8 h;exact zh2 (K:=fun r=>K r σ) h1 hk
 ·rename_i c
  simp only [Wop]
  split at h
  ·rename_i f hf
   simp only [hf]
   exact xcal_ok hc hy h hk
  ·rename_i b hb
   simp only [hb]
   exact xbuiltin_ok h hk
  ·rename_i r name hr
   simp only [hr]
   exact xinv_ok hT hc hy h hk
 ·split at h
  ·rename_i t v hv
   cases h
   simp only [Wop,hv]
   exact hk
  ·cases h
 ·cases h;exact hk
 ·obtain⟨r,h1,rfl⟩:=zd8 h;exact xlookup_ok (K:=fun r=>K r σ) h1 hk
 ·split at h
  ·rename_i s hs
   cases h
   exact ziT hs hk
  ·cases h
 ·split at h
  ·rename_i s hs
   cases h
   exact ziT hs hk
  ·cases h
 ·cases h
def xgd (ops:Array Oper) (env:Env) (g:Option (Nat × Bool)):Option Bool :=
 match g with
 | none=>some true
 | some (j,want)=>match (ops[j]?).bind (·.dst) with
  | none=>some false
  | some d=>match (env[d]?).getD .bot with
   | .lit (.bool b)=>some (b == want)
   | .lit (.tuple _)=>some false
   | _=>none
theorem zhe {ops:Array Oper} {env:Env} {g:Option (Nat × Bool)} {A B:Prop} (h:xgd ops env g=some true) (ha:A):zb6 ops env g A B:=by
 unfold xgd at h
 unfold zb6
 grind
theorem zgb {ops:Array Oper} {env:Env} {g:Option (Nat × Bool)} {A B:Prop} (h:xgd ops env g=some false) (ha:B):zb6 ops env g A B:=by
 unfold xgd at h
 unfold zb6
 grind
def xops (P:Program) (T:Tab) (cl:Cl) (yl:Yl) (ops:Array Oper):List Oper→Env→zaa→Option (AX × Env × zaa)
 | [],env,σ=>some (.normal,env,σ)
 | o::rest,env,σ=>match xgd ops env o.guard with
  | some true=>match xop P T cl yl o.op (zaN env) σ with
   | some (.val r s)=>xops P T cl yl ops rest (aput env o.dst r) s
   | some (.pan r s)=>some (.pan r,env,s)
   | none=>none
  | some false=>xops P T cl yl ops rest (aput env o.dst (.lit undef)) σ
  | none=>none
theorem zeU {P:Program} {T:Tab} (hT:zaD P T) {cl:Cl} {yl:Yl} (hc:ClOK P cl) (hy:YlOK P yl) {ops:Array Oper}:∀ {l:List Oper} {env:Env} {σ:zaa} {x:AX} {e:Env} {s:zaa} {Q:Post},xops P T cl yl ops l env σ=some (x,e,s)→Q x e s→wops P T ops l env σ Q
 | [],_,_,_,_,_,_,h,hq=>by cases h;exact hq
 | o::rest,env,σ,x,e,s,Q,h,hq=>by
  rw [xops] at h
  split at h
  ·rename_i hg
   refine zhe hg ?_
   split at h
   ·rename_i r s1 hr
    exact zj7 hT hc hy hr (zeU hT hc hy h hq)
   ·rename_i r s1 hr
    cases h
    exact zj7 hT hc hy hr hq
   ·cases h
  ·rename_i hg
   exact zgb hg (zeU hT hc hy h hq)
  ·cases h
end
end Go.Eng
end

section
namespace Go.Eng
open Go
section
variable [Globs]
def xquiet (o:Option XO) (σ:zaa):Option AV:=match o with
 | some (.val r s)=>if stB s σ=true then some r else none
 | _=>none
theorem xquiet_ok {o:Option XO} {σ:zaa} {r:AV} (h:xquiet o σ=some r):o=some (.val r σ):=by
 unfold xquiet at h
 split at h
 ·split at h
  ·rename_i hs
   cases h
   rw [zj6 hs]
  ·cases h
 ·cases h
def xqcal (cl:Cl) (f:AV) (args:List AV) (σ:zaa):Option AV :=
 match f with
 | .fn (.func g) first cap=>xquiet (xe (cl g (first++args++cap) σ)) σ
 | _=>none
theorem xqcal_ok {P:Program} {cl:Cl} (hc:ClOK P cl) {f:AV} {args:List AV} {σ:zaa} {r:AV} {K:AV→Prop} (h:xqcal cl f args σ=some r) (hk:K r):zjg P f args σ K:=by
 unfold xqcal at h
 split at h
 ·have h1:=xquiet_ok h
  unfold xe at h1
  split at h1
  ·rename_i h2
   cases h1
   exact⟨r,hc _ _ _ _ _ h2 _ ⟨rfl,rfl⟩,hk⟩
  ·cases h1
  ·cases h1
 ·cases h
def xqbs (T:Tab) (t:TypeId) (len:Nat) (ps:List (Nat × AV)):Option AV :=
 match T t with
 | some ti=>match ti.d with
  | .slice e=>match T e with
   | some te=>if te.zero.length=te.size∧len≤16777216∧len * te.size≤16777216 then (match zbo (fun i=>some (i * te.size,te.size)) (zbz te.zero len) ps with
    | some cs=>some (.sl cs len)
    | none=>none) else none
   | none=>none
  | _=>none
 | none=>none
theorem xqbs_ok {T:Tab} {t:TypeId} {len:Nat} {ps:List (Nat × AV)} {r:AV} {K:AV→Prop} (h:xqbs T t len ps=some r) (hk:K r):zb7 T t len ps K:=by
 unfold xqbs at h
 unfold zb7
 grind
def xqop (P:Program) (T:Tab) (cl:Cl) (o:Op) (ev:Operand→AV) (σ:zaa):Option AV :=
 match o with
 | .move x=>some (ev x)
 | .assign x=>some (ev x)
 | .pick c a b=>xpick (ev c) (ev a) (ev b)
 | .build t ps=>xbuild T t (zcj ev ps)
 | .buildSlice t len ps=>xqbs T t len (zcj ev ps)
 | .load t a=>xload T t (ev a) σ
 | .nilCheck x=>xnil P (ev x)
 | .binOp op t x y _=>match y with
  | .const (.slice none 0 0)=>none
  | y=>xbinW T op t x y ev
 | .makeInterface t x=>xmkI T t (ev x)
 | .typeAssert x _ a ok=>zjr P T a ok (ev x)
 | .unOp op _ x=>xun op (ev x)
 | .convert s d x=>xquiet (xs (xconv T s d (ev x) σ)) σ
 | .makeFunc fn first cap=>some (.fn fn (first.toList.map ev) (cap.toList.map ev))
 | .slice t x lo hi none=>xslice T t (ev x) (lo.map ev) (hi.map ev) σ
 | .fieldAddr s x f=>ze7 T s (ev x) f
 | .field t x f=>xfield T t (ev x) f
 | .indexAddr t x i=>ze6 T t (ev x) (ev i)
 | .index t x i=>xindex T t (ev x) (ev i)
 | .extract x i=>zhd (ev x) i
 | .call c=>match c.callee,c.argTypes.toList with
  | .value f,_=>xqcal cl (ev f) (c.args.toList.map ev) σ
  | .builtin .len,[t]=>match c.args.toList.map ev with
   | [x]=>xlen T t x
   | _=>none
  | .builtin .unsafeSliceData,_=>match c.args.toList.map ev with
   | [x]=>xsd x
   | _=>none
  | _,_=>none
 | _=>none
theorem xqop_ok {P:Program} {T:Tab} {cl:Cl} (hc:ClOK P cl) {o:Op} {ev:Operand→AV} {σ:zaa} {r:AV} {K:AV→Prop} (h:xqop P T cl o ev σ=some r) (hk:K r):Qop P T o ev σ K:=by
 unfold xqop at h
 split at h
 ·cases h;exact hk
 ·cases h;exact hk
 ·exact xpick_ok h hk
 ·exact xbuild_ok h hk
 ·exact xqbs_ok h hk
 ·exact zhc h hk
 ·exact xnil_ok h hk
 ·rename_i op t x y t'
  simp only [Qop]
  split at h
  ·cases h
  ·rename_i hne
   have h1:=xbinW_ok h hk
   unfold zfw at h1
   unfold zje
   split
   ·exact absurd rfl hne
   ·split at h1
    ·exact absurd rfl hne
    ·exact h1
 ·exact xmkI_ok h hk
 ·exact ziQ h hk
 ·exact xun_ok h hk
 ·obtain⟨r1,h1,h2⟩:=zjv (xquiet_ok h)
  have e1:r=r1.1:=by cases h2;rfl
  have e2:σ=r1.2:=by cases h2;rfl
  exact xconv_ok (K := fun r σ' => σ' = σ ∧ K r) h1 ⟨e2.symm, e1 ▸ hk⟩
 ·cases h;exact hk
 ·exact xslice_ok h hk
 ·exact zga h hk
 ·exact xfield_ok h hk
 ·exact zf9 h hk
 ·exact xindex_ok h hk
 ·exact zh2 h hk
 ·rename_i c
  simp only [Qop]
  split at h
  ·rename_i f hf
   simp only [hf]
   exact xqcal_ok hc h hk
  ·rename_i t hb ht
   simp only [hb]
   split at h
   ·rename_i x hx
    rw [hx]
    simp only [zg9,ht]
    exact xlen_ok h hk
   ·cases h
  ·rename_i hb
   simp only [hb]
   split at h
   ·rename_i x hx
    rw [hx]
    exact xsd_ok h hk
   ·cases h
  ·cases h
 ·cases h
def xwq (P:Program) (T:Tab) (cl:Cl) (ops:Array Oper) (σ:zaa):List Oper→Env→Option Env
 | [],env=>some env
 | o::rest,env=>match xgd ops env o.guard with
  | some true=>match xqop P T cl o.op (zaN env) σ with
   | some v=>xwq P T cl ops σ rest (aput env o.dst v)
   | none=>none
  | some false=>xwq P T cl ops σ rest (aput env o.dst (.lit undef))
  | none=>none
theorem zh5 {P:Program} {T:Tab} {cl:Cl} (hc:ClOK P cl) {ops:Array Oper} {σ:zaa}:∀ {l:List Oper} {env e:Env} {Q:Env→Prop},xwq P T cl ops σ l env=some e→Q e→wq P T ops σ l env Q
 | [],_,_,_,h,hq=>by cases h;exact hq
 | o::rest,env,e,Q,h,hq=>by
  rw [xwq] at h
  split at h
  ·rename_i hg
   refine zhe hg ?_
   split at h
   ·rename_i v hv
    exact xqop_ok hc hv (zh5 hc h hq)
   ·cases h
  ·rename_i hg
   exact zgb hg (zh5 hc h hq)
  ·cases h
def xwd (P:Program) (T:Tab) (cl:Cl) (yl:Yl) (ops:Array Oper):List Nat→List Oper→Env→zaa→Option (AX × Env × zaa)
 | [],l,env,σ=>match xwq P T cl ops σ l env with
  | some e=>some (.normal,e,σ)
  | none=>none
 | k::ks,l,env,σ=>match xwq P T cl ops σ (l.take k) env with
  | some e=>match l.drop k with
   | []=>none
   | o::rest=>match xgd ops e o.guard with
    | some true=>match xop P T cl yl o.op (zaN e) σ with
     | some (.val r s)=>xwd P T cl yl ops ks rest (aput e o.dst r) s
     | some (.pan r s)=>some (.pan r,e,s)
     | none=>none
    | some false=>xwd P T cl yl ops ks rest (aput e o.dst (.lit undef)) σ
    | none=>none
  | none=>none
theorem zj8 {P:Program} {T:Tab} (hT:zaD P T) {cl:Cl} {yl:Yl} (hc:ClOK P cl) (hy:YlOK P yl) {ops:Array Oper}:∀ {ks:List Nat} {l:List Oper} {env:Env} {σ:zaa} {x:AX} {e:Env} {s:zaa} {Q:Post},xwd P T cl yl ops ks l env σ=some (x,e,s)→Q x e s→wd P T ops ks l env σ Q
 | [],l,env,σ,x,e,s,Q,h,hq=>by
  rw [xwd] at h
  split at h
  ·rename_i e' he
   cases h
   exact zh5 hc he hq
  ·cases h
 | k::ks,l,env,σ,x,e,s,Q,h,hq=>by
  rw [xwd] at h
  split at h
  ·rename_i e' he
   refine zh5 hc he ?_
   split at h
   ·cases h
   ·rename_i o rest hd
    rw [hd]
    dsimp only
    split at h
    ·rename_i hg
     refine zhe hg ?_
     split at h
     ·rename_i r s1 hr
      exact zj7 hT hc hy hr (zj8 hT hc hy h hq)
     ·rename_i r s1 hr
      cases h
      exact zj7 hT hc hy hr hq
     ·cases h
    ·rename_i hg
     exact zgb hg (zj8 hT hc hy h hq)
    ·cases h
  ·cases h
inductive Way where
 | e (ks:List Nat)
 | l (ks:List Nat)
 | p (ρ ks:List Nat)
 | m (ks:List (Nat × LM))
 | x
 | auto
def effO:Op→Bool
 | .store ..=>true
 | .alloc _=>true
 | .box ..=>true
 | .mapUpdate ..=>true
 | .insert ..=>true
 | .makeMap ..=>true
 | .call c=>match c.callee with
  | .builtin .append=>true
  | .builtin .delete=>true
  | .builtin .unsafeString=>true
  | _=>false
 | _=>false
def gapsO:List Oper→Nat→List Nat
 | [],_=>[]
 | o::r,n=>if effO o.op=true then n::gapsO r 0 else gapsO r (n+1)
structure Mem9 where
 f:AV
 l:List AV
 σ:zaa
 r:AV
 s:zaa
abbrev MemL:=List Mem9
def zj9 (cl:Cl) (yl:Yl) (m:MemL):Prop:=∀ e∈m,xcal cl yl e.f e.l e.σ=some (.val e.r e.s)
def lookM (f:AV) (l:List AV) (σ:zaa):MemL→Option (AV × zaa)
 | []=>none
 | e::m=>if (f.eqB e.f && eqBL l e.l && stB σ e.σ)=true then some (e.r,e.s) else lookM f l σ m
theorem lookM_ok {cl:Cl} {yl:Yl} {f:AV} {l:List AV} {σ:zaa}:∀ {m:MemL} {r:AV} {s:zaa},zj9 cl yl m→lookM f l σ m=some (r,s)→xcal cl yl f l σ=some (.val r s)
 | [],_,_,_,h=>by cases h
 | e::m,r,s,hm,h=>by
  rw [lookM] at h
  split at h
  ·rename_i hh
   cases h
   rw [Bool.and_eq_true,Bool.and_eq_true] at hh
   obtain rfl:=AV.eqB_eq hh.1.1
   obtain rfl:=zcD hh.1.2
   obtain rfl:=zj6 hh.2
   exact hm e List.mem_cons_self
  ·exact lookM_ok (fun x hx=>hm x (List.mem_cons_of_mem _ hx)) h
def xcalM (cl:Cl) (yl:Yl) (m:MemL) (f:AV) (l:List AV) (σ:zaa):Option XO :=
 match lookM f l σ m with
 | some (r,s)=>some (.val r s)
 | none=>xcal cl yl f l σ
theorem xcalM_eq {cl:Cl} {yl:Yl} {m:MemL} (hm:zj9 cl yl m) (f:AV) (l:List AV) (σ:zaa):xcalM cl yl m f l σ=xcal cl yl f l σ:=by
 unfold xcalM
 split
 ·rename_i r s h
  exact(lookM_ok hm h).symm
 ·rfl
def calOf:Op→Option (Operand × List Operand)
 | .call c=>match c.callee with
  | .value f=>some (f,c.args.toList)
  | _=>none
 | _=>none
def xopM (P:Program) (T:Tab) (cl:Cl) (yl:Yl) (m:MemL) (o:Op) (ev:Operand→AV) (σ:zaa):Option XO :=
 match calOf o with
 | some (f,l)=>xcalM cl yl m (ev f) (l.map ev) σ
 | none=>xop P T cl yl o ev σ
theorem xop_cal {P:Program} {T:Tab} {cl:Cl} {yl:Yl} {o:Op} {ev:Operand→AV} {σ:zaa} {f:Operand} {l:List Operand} (h:calOf o=some (f,l)):xop P T cl yl o ev σ=xcal cl yl (ev f) (l.map ev) σ:=by
 unfold calOf at h
 split at h
 ·rename_i c
  split at h
  ·rename_i f1 hf
   cases h
   simp only [xop,hf]
  ·cases h
 ·cases h
theorem xopM_eq {P:Program} {T:Tab} {cl:Cl} {yl:Yl} {m:MemL} (hm:zj9 cl yl m) {o:Op} {ev:Operand→AV} {σ:zaa}:xopM P T cl yl m o ev σ=xop P T cl yl o ev σ:=by
 unfold xopM
 split
 ·rename_i f l h
  rw [xop_cal h,xcalM_eq hm]
 ·rfl
def addM (m:MemL) (o:Op) (ev:Operand→AV) (σ:zaa) (r:AV) (s:zaa):MemL :=
 match calOf o with
 | some (f,l)=>⟨ev f,l.map ev,σ,r,s⟩::m
 | none=>m
theorem addM_ok {P:Program} {T:Tab} {cl:Cl} {yl:Yl} {m:MemL} (hm:zj9 cl yl m) {o:Op} {ev:Operand→AV} {σ:zaa} {r:AV} {s:zaa} (h:xop P T cl yl o ev σ=some (.val r s)):zj9 cl yl (addM m o ev σ r s):=by
 unfold addM
 split
 ·rename_i f l hc
  rw [xop_cal hc] at h
  intro e he
  rcases List.mem_cons.1 he with rfl | he
  ·exact h
  ·exact hm e he
 ·exact hm
def zka (P:Program) (T:Tab) (cl:Cl) (yl:Yl) (ops:Array Oper):Tr→Env→zaa→MemL→Option (Env × zaa × MemL)
 | .done,env,σ,m=>some (env,σ,m)
 | .nil,_,_,_=>none
 | .br i t _,env,σ,m=>match ops[i]? with
  | some o=>match xgd ops env o.guard with
   | some true=>match xop P T cl yl o.op (zaN env) σ with
    | some (.val r s)=>zka P T cl yl ops t (aput env o.dst r) s (addM m o.op (zaN env) σ r s)
    | _=>none
   | some false=>zka P T cl yl ops t (aput env o.dst (.lit undef)) σ m
   | none=>none
  | none=>none
theorem zh6 {P:Program} {T:Tab} {cl:Cl} {yl:Yl} {ops:Array Oper}:∀ {t:Tr} {env:Env} {σ:zaa} {m:MemL} {E:Env} {S:zaa} {M:MemL},zj9 cl yl m→zka P T cl yl ops t env σ m=some (E,S,M)→zj9 cl yl M
 | .done,_,_,_,_,_,_,hm,h=>by cases h;exact hm
 | .nil,_,_,_,_,_,_,_,h=>by cases h
 | .br i t r,env,σ,m,E,S,M,hm,h=>by
  rw [zka] at h
  split at h
  ·split at h
   ·split at h
    ·rename_i hx
     exact zh6 (addM_ok hm hx) h
    ·cases h
   ·exact zh6 hm h
   ·cases h
  ·cases h
def zkf (P:Program) (T:Tab) (cl:Cl) (yl:Yl) (ops:Array Oper) (m:MemL) (E:Env) (S:zaa):Tr→Env→zaa→Bool
 | .done,env,σ=>eqBL env E && stB σ S
 | .nil,_,_=>true
 | .br i t r,env,σ=>(match ops[i]? with
  | some o=>match xgd ops env o.guard with
   | some true=>match xopM P T cl yl m o.op (zaN env) σ with
    | some (.val v s)=>zkf P T cl yl ops m E S t (aput env o.dst v) s
    | _=>false
   | some false=>zkf P T cl yl ops m E S t (aput env o.dst (.lit undef)) σ
   | none=>false
  | none=>false) && zkf P T cl yl ops m E S r env σ
theorem zhf:∀ e:Env,leI e e
 | []=>trivial
 | a::l=>by
  rw [leI_same]
  exact zhf l
theorem zhg {P:Program} {T:Tab} (hT:zaD P T) {cl:Cl} {yl:Yl} (hc:ClOK P cl) (hy:YlOK P yl) {n0:Nat} {ops:Array Oper} {m:MemL} (hm:zj9 cl yl m) {E:Env} {S:zaa} {Q:Post} (hq:Q .normal E S):∀ (t:Tr) {env:Env} {σ:zaa},zkf P T cl yl ops m E S t env σ=true→zcQ P T ops t env σ (fitX n0 Q)
 | .done,env,σ,h=>by
  rw [zkf,Bool.and_eq_true] at h
  obtain rfl:=zcD h.1
  obtain rfl:=zj6 h.2
  exact⟨_,_,zbI (zhf _),hq⟩
 | .nil,_,_,_=>trivial
 | .br i t r,env,σ,h=>by
  rw [zkf,Bool.and_eq_true] at h
  obtain⟨h1,h2⟩:=h
  refine⟨?_,zhg hT hc hy hm hq r h2⟩
  split at h1
  ·rename_i o ho
   rw [ho]
   dsimp only
   split at h1
   ·rename_i hg
    refine zhe hg ?_
    split at h1
    ·rename_i v s hv
     rw [xopM_eq hm] at hv
     exact zj7 hT hc hy hv (zhg hT hc hy hm hq t h1)
    ·cases h1
   ·rename_i hg
    exact zgb hg (zhg hT hc hy hm hq t h1)
   ·cases h1
  ·cases h1
def effC (o:Op):Bool:=effO o || (match o with
 | .call c=>match c.callee with
  | .builtin _=>false
  | _=>true
 | _=>false)
def gapsC:List Oper→Nat→List Nat
 | [],_=>[]
 | o::r,n=>if effC o.op=true then n::gapsC r 0 else gapsC r (n+1)
def xrE (P:Program) (T:Tab) (cl:Cl) (yl:Yl) (ks:List Nat) (ops:Array Oper) (env:Env) (σ:zaa):Option (AX × Env × zaa) :=
 if zb2 ops=true∧zgy ops 0 ks=true then xwd P T cl yl ops ks ops.toList env σ else none
def xrL (P:Program) (T:Tab) (cl:Cl) (yl:Yl) (ks:List Nat) (ops:Array Oper) (env:Env) (σ:zaa):Option (AX × Env × zaa) :=
 if zb2 ops=true∧zf5 T ops 0 ks=true then xwd P T cl yl ops ks ops.toList env σ else none
def xrP (P:Program) (T:Tab) (cl:Cl) (yl:Yl) (ρ ks:List Nat) (ops:Array Oper) (env:Env) (σ:zaa):Option (AX × Env × zaa) :=
 if ziN ρ ops.toList=true∧zb2 (zdC ρ ops.toList).toArray=true∧zf5 T (zdC ρ ops.toList).toArray 0 ks=true then xwd P T cl yl (zdC ρ ops.toList).toArray ks (zdC ρ ops.toList) env σ else none
def xwm (P:Program) (T:Tab) (cl:Cl) (ops:Array Oper) (σ:zaa):List (Nat × LM)→List Oper→Env→List (Tmp × AV)→Option (AX × Env × zaa)
 | [],l,env,acc=>match xwq P T cl ops σ l env with
  | some e=>some (.normal,envA acc σ.length e,σ++stoA acc)
  | none=>none
 | (k,.mk d _)::ks,l,env,acc=>match xwq P T cl ops σ (l.take k) env with
  | some e=>xwm P T cl ops σ ks (l.drop (k+1)) (e.set d .bot) acc
  | none=>none
 | (k,.st d e bs)::ks,l,env,acc=>match xwq P T cl ops σ (l.take k) env with
  | some e1=>(match T e with
   | some te=>if ((e1[bs]?).getD .bot).cells.length=te.size∧te.zero.length=te.size∧((e1[bs]?).getD .bot).cells.all AV.one=true then xwm P T cl ops σ ks (l.drop (k+1)) e1 (acc++[(d,(e1[bs]?).getD .bot)]) else none
   | none=>none)
  | none=>none
theorem xwm_ok {P:Program} {T:Tab} {cl:Cl} (hc:ClOK P cl) {ops:Array Oper} {σ:zaa} {Q:Post} {x:AX} {e:Env} {s:zaa} (hq:Q x e s):∀ {ks:List (Nat × LM)} {l:List Oper} {env:Env} {acc:List (Tmp × AV)},xwm P T cl ops σ ks l env acc=some (x,e,s)→wM P T ops σ Q ks l env acc
 | [],l,env,acc,h=>by
  rw [xwm] at h
  split at h
  ·rename_i e1 h1
   cases h
   exact zh5 hc h1 hq
  ·cases h
 | (k,.mk d _)::ks,l,env,acc,h=>by
  rw [xwm] at h
  split at h
  ·rename_i e1 h1
   exact zh5 hc h1 (xwm_ok hc hq h)
  ·cases h
 | (k,.st d t bs)::ks,l,env,acc,h=>by
  rw [xwm] at h
  split at h
  ·rename_i e1 h1
   split at h
   ·rename_i te hte
    split at h
    ·rename_i hh
     refine zh5 hc h1 ?_
     simp only [hte]
     exact⟨hh.1,hh.2.1,hh.2.2,xwm_ok hc hq h⟩
    ·cases h
   ·cases h
  ·cases h
def xrM (P:Program) (T:Tab) (cl:Cl) (ks:List (Nat × LM)) (ops:Array Oper) (env:Env) (σ:zaa):Option (AX × Env × zaa) :=
 if zb2 ops=true∧okM ops env.length ks=true then xwm P T cl ops σ ks ops.toList env [] else none
def xrX (P:Program) (T:Tab) (cl:Cl) (yl:Yl) (ops:Array Oper) (env:Env) (σ:zaa):Option (AX × Env × zaa) :=
 match zka P T cl yl ops (zdJ ops ops.size (zhK ops)) env σ [] with
 | some (E,S,m)=>if zkf P T cl yl ops m E S (zdJ ops ops.size (zhK ops)) env σ=true then some (.normal,E,S) else none
 | none=>none
def orE {α:Type}:Option α→(Unit→Option α)→Option α
 | some a,_=>some a
 | none,f=>f ()
def xreg (P:Program) (T:Tab) (cl:Cl) (yl:Yl) (w:Way) (ops:Array Oper) (env:Env) (σ:zaa):Option (AX × Env × zaa) :=
 match w with
 | .e ks=>xrE P T cl yl ks ops env σ
 | .l ks=>xrL P T cl yl ks ops env σ
 | .p ρ ks=>xrP P T cl yl ρ ks ops env σ
 | .m ks=>xrM P T cl ks ops env σ
 | .x=>xrX P T cl yl ops env σ
 | .auto=>orE (xrE P T cl yl (gapsO ops.toList 0) ops env σ) fun _=>orE (xrL P T cl yl (gapsO ops.toList 0) ops env σ) fun _ =>
  orE (xrE P T cl yl (gapsC ops.toList 0) ops env σ) fun _=>orE (xrL P T cl yl (gapsC ops.toList 0) ops env σ) fun _=>xrX P T cl yl ops env σ
section
variable {P : Program} {T : Tab} (hT : zaD P T) (hm : P.follows .mixedOrders = true) {cl : Cl} {yl : Yl} (hc : ClOK P cl) (hy : YlOK P yl) {id n0 : Nat} {ops : Array Oper} {env : Env} {σ : zaa} {x : AX} {e : Env} {s : zaa} {Q : Post} (hq : Q x e s)
include hT hm hc hy hq
theorem xrE_ok {ks:List Nat} (h:xrE P T cl yl ks ops env σ=some (x,e,s)):W P T n0 (.region id ops true) env σ Q:=by
 obtain⟨l⟩:=ops
 unfold xrE at h
 split at h
 ·rename_i hh
  exact zeu ks hm hh.1 hh.2 (zj8 hT hc hy h hq)
 ·cases h
theorem xrL_ok {ks:List Nat} (h:xrL P T cl yl ks ops env σ=some (x,e,s)):W P T n0 (.region id ops true) env σ Q:=by
 obtain⟨l⟩:=ops
 unfold xrL at h
 split at h
 ·rename_i hh
  exact zjl ks hm hh.1 hh.2 (zj8 hT hc hy h hq)
 ·cases h
theorem xrP_ok {ρ ks:List Nat} (h:xrP P T cl yl ρ ks ops env σ=some (x,e,s)):W P T n0 (.region id ops true) env σ Q:=by
 obtain⟨l⟩:=ops
 unfold xrP at h
 split at h
 ·rename_i hh
  exact W_drawP ρ ks hm hh.1 hh.2.1 hh.2.2 (zj8 hT hc hy h hq)
 ·cases h
theorem xrM_ok {ks:List (Nat × LM)} (h:xrM P T cl ks ops env σ=some (x,e,s)):W P T n0 (.region id ops true) env σ Q:=by
 obtain⟨l⟩:=ops
 unfold xrM at h
 split at h
 ·rename_i hh
  exact W_drawM ks hm hh.1 hh.2 (xwm_ok hc hq h)
 ·cases h
theorem xrX_ok (h:xrX P T cl yl ops env σ=some (x,e,s)):W P T n0 (.region id ops true) env σ Q:=by
 obtain⟨l⟩:=ops
 unfold xrX at h
 split at h
 ·rename_i E S m hf
  split at h
  ·rename_i hh
   cases h
   exact W_drawX _ hm rfl (zhg hT hc hy (zh6 (m:=[]) (fun _ h9=>by cases h9) hf) hq _ hh)
  ·cases h
 ·cases h
theorem xreg_ok {w:Way} (h:xreg P T cl yl w ops env σ=some (x,e,s)):W P T n0 (.region id ops true) env σ Q:=by
 unfold xreg at h
 split at h
 ·exact xrE_ok hT hm hc hy hq h
 ·exact xrL_ok hT hm hc hy hq h
 ·exact xrP_ok hT hm hc hy hq h
 ·exact xrM_ok hT hm hc hy hq h
 ·exact xrX_ok hT hm hc hy hq h
 ·unfold orE at h
  split at h
  ·rename_i h1
   cases h
   exact xrE_ok hT hm hc hy hq h1
  ·split at h
   ·rename_i h1
    cases h
    exact xrL_ok hT hm hc hy hq h1
   ·split at h
    ·rename_i h1
     cases h
     exact xrE_ok hT hm hc hy hq h1
    ·split at h
     ·rename_i h1
      cases h
      exact xrL_ok hT hm hc hy hq h1
     ·exact xrX_ok hT hm hc hy hq h
end
def xloop (body:Env→zaa→Option (AX × Env × zaa)):Nat→Env→zaa→Option (AX × Env × zaa)
 | 0,_,_=>none
 | f+1,env,σ=>match body env σ with
  | some (.normal,e,s)=>xloop body f e s
  | r=>r
theorem xloop_ok {n0:Nat} {body:Env→zaa→Option (AX × Env × zaa)} {B:Env→zaa→Post→Prop} (hb:∀ env σ x e s (Q:Post),body env σ=some (x,e,s)→Q x e s→B env σ Q) {f:Nat} {env:Env} {σ:zaa} {x:AX} {e:Env} {s:zaa} {Q:Post} (h:xloop body f env σ=some (x,e,s)) (hq:Q x e s):wloop n0 B env σ Q:=by
 refine⟨Nat × Env × zaa,fun i=>xloop body i.1 i.2.1 i.2.2=some (x,e,s),fun i=>i.2.1,fun i=>i.2.2,fun i=>i.1,(f,env,σ),h,zbI (zhf _),?_⟩
 rintro⟨g,e1,s1⟩ hi
 dsimp only at hi ⊢
 cases g with
 | zero=>cases hi
 | succ g =>
  rw [xloop] at hi
  split at hi
  ·rename_i e2 s2 hb2
   refine hb _ _ _ _ _ _ hb2 ?_
   exact⟨(g,e2,s2),hi,Nat.lt_succ_self _,zbI (zhf _)⟩
  ·rename_i hne
   cases x with
   | normal=>exact absurd hi (hne _ _)
   | exit k=>exact hb _ _ _ _ _ _ hi hq
   | ret=>exact hb _ _ _ _ _ _ hi hq
   | pan r=>exact hb _ _ _ _ _ _ hi hq
def zeV (P:Program) (T:Tab) (cl:Cl) (yl:Yl) (hint:Nat→Way) (L:Nat):Code→Env→zaa→Option (AX × Env × zaa)
 | .skip,env,σ=>some (.normal,env,σ)
 | .region _ ops false,env,σ=>xops P T cl yl ops ops.toList env σ
 | .region id ops true,env,σ=>xreg P T cl yl (hint id) ops env σ
 | .seq a b,env,σ=>match zeV P T cl yl hint L a env σ with
  | some (.normal,e,s)=>zeV P T cl yl hint L b e s
  | r=>r
 | .cond c a b,env,σ=>match zaN env c with
  | .lit (.bool true)=>zeV P T cl yl hint L a env σ
  | .lit (.bool false)=>zeV P T cl yl hint L b env σ
  | _=>none
 | .block id c,env,σ=>match zeV P T cl yl hint L c env σ with
  | some (.exit i,e,s)=>if i=id then some (.normal,e,s) else some (.exit i,e,s)
  | r=>r
 | .loop c,env,σ=>xloop (zeV P T cl yl hint L c) L env σ
 | .exit id,env,σ=>some (.exit id,env,σ)
 | .ret,env,σ=>some (.ret,env,σ)
 | .rangeFunc g ps assign body,env,σ=>match zaN env g with
  | .fn (.func gf) [] cap=>if zaW P gf=true then (match cl gf (.yl σ.length::cap) (σ++[.lp .ready none env ps assign body]) with
   | some (.ret _,s)=>match s[σ.length]? with
    | some (.lp .ready none _ _ _ _)=>some (.normal,env,s.set σ.length .dead)
    | some (.lp .done none _ _ _ _)=>some (.normal,env,s.set σ.length .dead)
    | some (.lp .done (some (.exit k)) _ _ _ _)=>some (.exit k,env,s.set σ.length .dead)
    | some (.lp .done (some .ret) _ _ _ _)=>some (.ret,env,s.set σ.length .dead)
    | _=>none
   | some (.pan r,s)=>some (.pan r,env,s.set σ.length .dead)
   | none=>none) else none
  | _=>none
 | _,_,_=>none
theorem zex {P:Program} {T:Tab} (hT:zaD P T) (hm:P.follows .mixedOrders=true) {cl:Cl} {yl:Yl} (hc:ClOK P cl) (hy:YlOK P yl) {hint:Nat→Way} {L n0:Nat}:∀ (c:Code) {env:Env} {σ:zaa} {x:AX} {e:Env} {s:zaa} {Q:Post},zeV P T cl yl hint L c env σ=some (x,e,s)→Q x e s→W P T n0 c env σ Q:=by
 intro c
 induction c with
 | skip=>intro env σ x e s Q h hq;cases h;exact hq
 | region id ops d =>
  intro env σ x e s Q h hq
  cases d with
  | false=>exact zeU hT hc hy h hq
  | true=>exact xreg_ok hT hm hc hy hq h
 | seq a b iha ihb =>
  intro env σ x e s Q h hq
  rw [zeV] at h
  split at h
  ·rename_i e1 s1 h1
   exact iha h1 (ihb h hq)
  ·rename_i hne
   refine iha h ?_
   cases x with
   | normal=>exact absurd h (hne _ _)
   | exit k=>exact hq
   | ret=>exact hq
   | pan r=>exact hq
 | cond c a b iha ihb =>
  intro env σ x e s Q h hq
  rw [zeV] at h
  simp only [W]
  split at h
  ·rename_i hv
   simp only [hv]
   exact⟨fun _=>iha h hq,fun h=>(by cases h)⟩
  ·rename_i hv
   simp only [hv]
   exact⟨fun h=>(by cases h),fun _=>ihb h hq⟩
  ·cases h
 | block id c ih =>
  intro env σ x e s Q h hq
  rw [zeV] at h
  split at h
  ·rename_i i e1 s1 h1
   split at h
   ·rename_i hi
    cases h
    refine ih h1 ?_
    show (if i=id then _ else _)
    rw [if_pos hi]
    exact hq
   ·rename_i hi
    cases h
    refine ih h1 ?_
    show (if i=id then _ else _)
    rw [if_neg hi]
    exact hq
  ·rename_i hne
   refine ih h ?_
   cases x with
   | normal=>exact hq
   | exit k=>exact absurd h (hne _ _ _)
   | ret=>exact hq
   | pan r=>exact hq
 | loop c ih =>
  intro env σ x e s Q h hq
  rw [zeV] at h
  exact xloop_ok (body:=zeV P T cl yl hint L c) (fun env σ x e s Q h hq=>ih h hq) h hq
 | exit id=>intro env σ x e s Q h hq;cases h;exact hq
 | ret=>intro env σ x e s Q h hq;cases h;exact hq
 | rangeFunc g ps assign body iha ihb =>
  intro env σ x e s Q h hq
  rw [zeV] at h
  simp only [W]
  split at h
  ·rename_i gf cap hv
   simp only [hv]
   split at h
   ·rename_i hcl
    refine⟨hcl,?_⟩
    split at h
    ·rename_i r s1 h1
     refine hc _ _ _ _ _ h1 _ ?_
     split at h <;> first | (cases h;done) | skip
     all_goals
      rename_i hs
      cases h
      exact⟨_,_,_,_,_,_,hs,by simp,hq⟩
    ·rename_i r s1 h1
     cases h
     exact hc _ _ _ _ _ h1 _ hq
    ·cases h
   ·cases h
  ·cases h
 | _=>intro env σ x e s Q h hq;cases h
end
end Go.Eng
end

section
namespace Go.Eng
open Go
section
variable [Globs]
def xWP (P:Program) (T:Tab) (cl:Cl) (yl:Yl):Code→Env→zaa→Option (AX × Env × zaa)
 | .skip,env,σ=>some (.normal,env,σ)
 | .ret,env,σ=>some (.ret,env,σ)
 | .region _ ops false,env,σ=>xops P T cl yl ops ops.toList env σ
 | .seq a b,env,σ=>match xWP P T cl yl a env σ with
  | some (.normal,e,s)=>xWP P T cl yl b e s
  | r=>r
 | .cond c a b,env,σ=>match zaN env c with
  | .lit (.bool true)=>xWP P T cl yl a env σ
  | .lit (.bool false)=>xWP P T cl yl b env σ
  | _=>none
 | _,_,_=>none
theorem xWP_ok {P:Program} {T:Tab} (hT:zaD P T) {cl:Cl} {yl:Yl} (hc:ClOK P cl) (hy:YlOK P yl) {n0:Nat}:∀ (c:Code) {env:Env} {σ:zaa} {x:AX} {e:Env} {s:zaa} {Q:Post},xWP P T cl yl c env σ=some (x,e,s)→Q x e s→WP P T n0 c env σ Q:=by
 intro c
 induction c with
 | skip=>intro env σ x e s Q h hq;cases h;exact hq
 | ret=>intro env σ x e s Q h hq;cases h;exact hq
 | region id ops d =>
  intro env σ x e s Q h hq
  cases d with
  | false=>exact zeU hT hc hy h hq
  | true=>cases h
 | seq a b iha ihb =>
  intro env σ x e s Q h hq
  rw [xWP] at h
  show WP P T n0 a env σ (seqQ _ Q)
  split at h
  ·rename_i e1 s1 h1
   exact iha h1 (ihb h hq)
  ·rename_i hn
   refine iha h ?_
   cases x with
   | normal=>exact absurd h (hn _ _)
   | _=>exact hq
 | cond c a b iha ihb =>
  intro env σ x e s Q h hq
  rw [xWP] at h
  simp only [WP]
  split at h
  ·rename_i hv
   rw [hv]
   exact⟨fun _=>iha h hq,fun h9=>by cases h9⟩
  ·rename_i hv
   rw [hv]
   exact⟨fun h9=>(by cases h9),fun _=>ihb h hq⟩
  ·cases h
 | _=>intro env σ x e s Q h hq;cases h
def isRec (o:Oper):Option Tmp:=match o with
 | ⟨some d,.call ⟨.builtin .recover,args,_⟩,_,_,_,none⟩=>if args.toList.isEmpty then some d else none
 | _=>none
theorem isRec_eq {o:Oper} {d:Tmp} (h:isRec o=some d):∃ ts ty p e,o=zeF d ts ty p e:=by
 unfold isRec at h
 split at h
 ·split at h
  ·rename_i d' args ts ty p e ha
   cases h
   have:args=#[]:=by simpa using ha
   subst this
   exact⟨_,_,_,_,rfl⟩
  ·cases h
 ·cases h
def xdef (P:Program) (T:Tab) (cl:Cl) (yl:Yl) (f:FuncId) (cap:List AV) (σ:zaa) (u:Option AV):Option zaa :=
 match P.funcs[f]? with
 | some fn=>match fn.body with
  | some (.seq (.region _ ops false) rest)=>match ops.toList with
   | o::l=>match isRec o with
    | some d=>if l.all (fun o=>plainO o.op)=true∧fn.results.toList.isEmpty=true then (match xops P T cl yl ops l ((cap++List.replicate (fn.ntmps - cap.length) AV.bot).set d (recV u)) σ with
     | some (.normal,e,s)=>match xWP P T cl yl rest e s with
      | some (.normal,_,s)=>some s
      | some (.ret,_,s)=>some s
      | _=>none
     | some (.ret,_,s)=>some s
     | _=>none) else none
    | none=>none
   | []=>none
  | _=>none
 | none=>none
theorem xdef_ok {P:Program} {T:Tab} (hT:zaD P T) {cl:Cl} {yl:Yl} (hc:ClOK P cl) (hy:YlOK P yl) {f:FuncId} {cap:List AV} {σ s:zaa} {u:Option AV} {K:zaa→Prop} (h:xdef P T cl yl f cap σ u=some s) (hk:K s):DCalls P f cap σ u K:=by
 unfold xdef at h
 split at h
 ·rename_i fn hf
  split at h
  ·rename_i id ops rest hb
   split at h
   ·rename_i o l hl
    split at h
    ·rename_i d hd
     split at h
     ·rename_i hh
      obtain⟨ts,ty,p,e,rfl⟩:=isRec_eq hd
      have ho:ops=(zeF d ts ty p e::l).toArray:=by rw [← hl]
      have hr:fn.results=#[]:=by simpa using hh.2
      subst ho
      refine DCalls.bodyL hT hf hb rfl hr hh.1 ?_
      split at h
      ·rename_i e1 s1 h1
       refine zeU hT hc hy h1 ?_
       show kontP P T σ.length rest (endD K) e1 s1
       split at h
       ·rename_i e2 s2 h2
        cases h
        exact xWP_ok hT hc hy rest h2 hk
       ·rename_i e2 s2 h2
        cases h
        exact xWP_ok hT hc hy rest h2 hk
       ·cases h
      ·rename_i e1 s1 h1
       cases h
       exact zeU hT hc hy h1 hk
      ·cases h
     ·cases h
    ·cases h
   ·cases h
  ·cases h
 ·cases h
end
end Go.Eng
end

section
namespace Go.Eng
open Go
section
variable [Globs]
def xres (T:Tab) (env:Env) (σ:zaa):List ResultVar→Option (List AV)
 | []=>some []
 | .tmp t::r=>match xres T env σ r with
  | some l=>some ((env[t]?).getD .bot::l)
  | none=>none
 | .cell a t::r=>match xload T t ((env[a]?).getD .bot) σ,xres T env σ r with
  | some v,some l=>some (v::l)
  | _,_=>none
theorem zfG {T:Tab} {env:Env} {σ:zaa}:∀ {rs:List ResultVar} {l:List AV} {K:List AV→Prop},xres T env σ rs=some l→K l→wres T env σ rs K
 | [],_,_,h,hk=>by cases h;exact hk
 | .tmp t::r,l,K,h,hk=>by
  rw [xres] at h
  split at h
  ·rename_i m hm
   cases h
   exact zfG (rs:=r) (K:=fun l=>K ((env[t]?).getD .bot::l)) hm hk
  ·cases h
 | .cell a t::r,l,K,h,hk=>by
  rw [xres] at h
  split at h
  ·rename_i v m hv hm
   cases h
   exact zhc hv (zfG (rs:=r) (K:=fun l=>K (v::l)) hm hk)
  ·cases h
def xret (T:Tab) (n0:Nat) (rs:List ResultVar) (x:AX) (env:Env) (σ:zaa):Option (AEnd × zaa) :=
 match x with
 | .normal=>match xres T env σ rs with
  | some l=>some (.ret (xend n0 (zcR l) σ).1,(xend n0 (zcR l) σ).2)
  | none=>none
 | .ret=>match xres T env σ rs with
  | some l=>some (.ret (xend n0 (zcR l) σ).1,(xend n0 (zcR l) σ).2)
  | none=>none
 | .pan r=>some (.pan (xend n0 r σ).1,(xend n0 r σ).2)
 | .exit _=>none
theorem xret_ok {T:Tab} {n0:Nat} {rs:List ResultVar} {x:AX} {env:Env} {σ:zaa} {e:AEnd} {s:zaa} {K:AEnd→zaa→Prop} (h:xret T n0 rs x env σ=some (e,s)) (hk:K e s):retQ T n0 rs K x env σ:=by
 unfold xret at h
 split at h
 ·split at h
  ·rename_i l hl
   cases h
   exact zfG hl (zgF hk)
  ·cases h
 ·split at h
  ·rename_i l hl
   cases h
   exact zfG hl (zgF hk)
  ·cases h
 ·cases h
  exact zgF hk
 ·cases h
def hasD:Code→Bool
 | .seq a b=>(zcS a).isSome || hasD b
 | _=>false
def xWD (P:Program) (T:Tab) (cl:Cl) (yl:Yl) (hint:Nat→Way) (L n0:Nat) (rs:List ResultVar):Code→Env→zaa→Option (AEnd × zaa)
 | .seq a b,env,σ=>match zcS a with
  | some (ops,l,x)=>match xops P T cl yl ops l env σ with
   | some (.normal,e,s)=>match zaN e x with
    | .fn (.func g) [] cap=>if zaW P g=true then (match zeV P T cl yl hint L b e s with
     | some (.normal,e2,s2)=>match xdef P T cl yl g cap s2 none with
      | some s3=>match xres T e2 s3 rs with
       | some l=>some (.ret (xend n0 (zcR l) s3).1,(xend n0 (zcR l) s3).2)
       | none=>none
      | none=>none
     | some (.ret,e2,s2)=>match xdef P T cl yl g cap s2 none with
      | some s3=>match xres T e2 s3 rs with
       | some l=>some (.ret (xend n0 (zcR l) s3).1,(xend n0 (zcR l) s3).2)
       | none=>none
      | none=>none
     | some (.pan r,e2,s2)=>match xdef P T cl yl g cap s2 (some r) with
      | some s3=>match xres T e2 s3 rs with
       | some l=>some (.ret (xend n0 (zcR l) s3).1,(xend n0 (zcR l) s3).2)
       | none=>none
      | none=>none
     | _=>none) else none
    | _=>none
   | some (x,e,s)=>xret T n0 rs x e s
   | none=>none
  | none=>match zeV P T cl yl hint L a env σ with
   | some (.normal,e,s)=>xWD P T cl yl hint L n0 rs b e s
   | some (x,e,s)=>xret T n0 rs x e s
   | none=>none
 | _,_,_=>none
theorem xWD_ok {P:Program} {T:Tab} (hT:zaD P T) (hm:P.follows .mixedOrders=true) {cl:Cl} {yl:Yl} (hc:ClOK P cl) (hy:YlOK P yl) {hint:Nat→Way} {L n0:Nat} {rs:List ResultVar}:∀ (c:Code) {env:Env} {σ:zaa} {x:AEnd} {s:zaa} {K:AEnd→zaa→Prop},xWD P T cl yl hint L n0 rs c env σ=some (x,s)→K x s→WD P T n0 c env σ (retQ T n0 rs K) (recD P T n0 rs K):=by
 intro c
 induction c with
 | seq a b iha ihb =>
  intro env σ x s K h hk
  rw [xWD] at h
  rw [WD]
  split at h
  ·rename_i ops l x1 hs
   rw [hs]
   show wops P T ops l env σ _
   split at h
   ·rename_i e1 s1 h1
    refine zeU hT hc hy h1 ?_
    show recD P T n0 rs K (zaN e1 x1) b e1 s1
    split at h
    ·rename_i g cap hg
     rw [hg]
     split at h
     ·rename_i hcl
      refine⟨hcl,?_⟩
      split at h
      ·rename_i e2 s2 h2
       refine zex hT hm hc hy b h2 ?_
       show DCalls P g cap s2 none _
       split at h
       ·rename_i s3 h3
        refine xdef_ok hT hc hy h3 ?_
        split at h
        ·rename_i l4 h4
         cases h
         exact zfG h4 (zgF hk)
        ·cases h
       ·cases h
      ·rename_i e2 s2 h2
       refine zex hT hm hc hy b h2 ?_
       show DCalls P g cap s2 none _
       split at h
       ·rename_i s3 h3
        refine xdef_ok hT hc hy h3 ?_
        split at h
        ·rename_i l4 h4
         cases h
         exact zfG h4 (zgF hk)
        ·cases h
       ·cases h
      ·rename_i r e2 s2 h2
       refine zex hT hm hc hy b h2 ?_
       show DCalls P g cap s2 (some r) _
       split at h
       ·rename_i s3 h3
        refine xdef_ok hT hc hy h3 ?_
        split at h
        ·rename_i l4 h4
         cases h
         exact zfG h4 (zgF hk)
        ·cases h
       ·cases h
      ·cases h
     ·cases h
    ·cases h
   ·rename_i x2 e2 s2 hn h2
    refine zeU hT hc hy h2 ?_
    cases x2 with
    | normal=>exact(hn rfl).elim
    | _=>exact xret_ok h hk
   ·cases h
  ·rename_i hs
   rw [hs]
   show W P T n0 a env σ _
   split at h
   ·rename_i e1 s1 h1
    exact zex hT hm hc hy a h1 (ihb h hk)
   ·rename_i x2 e2 s2 hn h2
    refine zex hT hm hc hy a h2 ?_
    cases x2 with
    | normal=>exact(hn rfl).elim
    | _=>exact xret_ok h hk
   ·cases h
 | _=>intro env σ x s K h;cases h
def xasgL:List Oper→Env→Option Env
 | [],env=>some env
 | o::rest,env=>match o.guard,o.op with
  | none,.move x=>xasgL rest (aput env o.dst (zaN env x))
  | none,.assign x=>xasgL rest (aput env o.dst (zaN env x))
  | _,_=>none
theorem zjx {P:Program} {T:Tab} {ops:Array Oper} {σ:zaa}:∀ {l:List Oper} {env e:Env} {Q:Post},xasgL l env=some e→Q .normal e σ→wops P T ops l env σ Q
 | [],_,_,_,h,hq=>by cases h;exact hq
 | o::rest,env,e,Q,h,hq=>by
  rw [xasgL] at h
  split at h
  ·rename_i x hg ho
   simp only [wops,zb6,hg,ho,Wop]
   exact zjx h hq
  ·rename_i x hg ho
   simp only [wops,zb6,hg,ho,Wop]
   exact zjx h hq
  ·cases h
def xasg:Code→Env→Option Env
 | .skip,env=>some env
 | .region _ ops false,env=>xasgL ops.toList env
 | .seq a b,env=>match xasg a env with
  | some e=>xasg b e
  | none=>none
 | _,_=>none
theorem xasg_ok {P:Program} {T:Tab} {n0:Nat} {σ:zaa}:∀ {c:Code} {env e:Env} {Q:Post},xasg c env=some e→Q .normal e σ→W P T n0 c env σ Q:=by
 intro c
 induction c with
 | skip=>intro env e Q h hq;cases h;exact hq
 | region id ops d =>
  intro env e Q h hq
  cases d with
  | false=>exact zjx h hq
  | true=>cases h
 | seq a b iha ihb =>
  intro env e Q h hq
  rw [xasg] at h
  split at h
  ·rename_i e1 h1
   exact iha h1 (ihb h hq)
  ·cases h
 | _=>intro env e Q h hq;cases h
def xyld (P:Program) (T:Tab) (cl:Cl) (yl:Yl) (L:Nat) (id:Nat) (args:List AV) (σ:zaa):Option (AEnd × zaa) :=
 match σ[id]? with
 | some (.lp .ready none env ps assign body)=>if args.length=ps.size∧noRF assign=true∧noRF body=true then (match xasg assign (setp env ps.toList args) with
  | some e1=>match zeV P T cl yl (fun _=>.auto) L body e1 (σ.set id (.lp .busy none env ps assign body)) with
   | some (x,_,s2)=>match s2[id]? with
    | some (.lp .busy none e ps9 as9 bd9)=>match x with
     | .normal=>some (.ret (.lit (.bool true)),s2.set id (.lp .ready none e ps9 as9 bd9))
     | .exit i=>some (.ret (.lit (.bool false)),s2.set id (.lp .done (some (.exit i)) e ps9 as9 bd9))
     | .ret=>some (.ret (.lit (.bool false)),s2.set id (.lp .done (some .ret) e ps9 as9 bd9))
     | .pan _=>none
    | _=>none
   | none=>none
  | none=>none) else none
 | _=>none
theorem xyld_ok {P:Program} {T:Tab} (hT:zaD P T) (hm:P.follows .mixedOrders=true) {cl:Cl} {yl:Yl} (hc:ClOK P cl) (hy:YlOK P yl) {L:Nat}:YlOK P (xyld P T cl yl L):=by
 intro id args σ x s h K hk
 unfold xyld at h
 split at h
 ·rename_i env ps assign body hσ
  split at h
  ·rename_i hh
   split at h
   ·rename_i e1 ha
    refine AYield.of hT hσ hh.1 hh.2.1 hh.2.2 (xasg_ok ha ?_)
    refine⟨_,_,_,hσ,?_⟩
    split at h
    ·rename_i x2 e2 s2 hx
     refine zex hT hm hc hy body hx ?_
     split at h
     ·rename_i e ps9 as9 bd9 hl
      refine⟨_,_,_,_,hl,?_⟩
      split at h <;> cases h <;> exact hk
     ·cases h
    ·cases h
   ·cases h
  ·cases h
 ·cases h
def xmrg (σ σ1:zaa) (p:List Nat):List Nat→Nat→Option zaa
 | [],_=>some []
 | k::ks,i=>match σ1[k]? with
  | some x=>match x.inv p,xmrg σ σ1 p ks (i+1) with
   | some y,some s=>some (y::s)
   | _,_=>none
  | none=>match σ[i]?,xmrg σ σ1 p ks (i+1) with
   | some y,some s=>some (y::s)
   | _,_=>none
theorem xmrg_ok {σ σ1:zaa} {p:List Nat}:∀ {ks:List Nat} {i:Nat} {s:zaa},xmrg σ σ1 p ks i=some s→zbH σ σ1 p ks i s
 | [],_,_,h=>by cases h;trivial
 | k::ks,i,s,h=>by
  rw [xmrg] at h
  split at h
  ·rename_i x hx
   split at h
   ·rename_i y s1 h1 h2
    cases h
    exact⟨.inr (.inl ⟨x,hx,Blk.inv_ren h1⟩),xmrg_ok h2⟩
   ·cases h
  ·rename_i hn
   split at h
   ·rename_i y s1 h1 h2
    cases h
    exact⟨.inr (.inr ⟨List.getElem?_eq_none_iff.1 hn,h1⟩),xmrg_ok h2⟩
   ·cases h
def invE (p:List Nat):AEnd→Option AEnd
 | .ret x=>(x.inv p).map .ret
 | .pan x=>(x.inv p).map .pan
theorem invE_ren {p:List Nat} {x y:AEnd} (h:invE p x=some y):AEnd.ren p y x:=by
 cases x <;> obtain⟨m,h1,rfl⟩:=zbJ (by simpa only [invE] using h) <;> exact AV.inv_ren h1
def xback (σ σ1:zaa) (x0:AEnd) (p:List Nat):Option (AEnd × zaa) :=
 match invE p x0,xmrg σ σ1 p p 0 with
 | some x,some s=>some (x,s)
 | _,_=>none
def xfrQ (cl:Cl) (f:FuncId) (args:List AV) (σ:zaa) (q:List Nat):Option (AEnd × zaa) :=
 match invL q args,invS σ q q,nodB q with
 | some as0,some σ0,true=>match cl f as0 σ0 with
  | some (x0,σ1)=>xback σ σ1 x0 (Go.Eng.inv σ.length q σ1.length)
  | none=>none
 | _,_,_=>none
def xframe (cl:Cl):Cl:=fun f args σ=>xfrQ cl f args σ (markX σ 100000 (idsL args) [])
theorem xframe_ok {P:Program} {cl:Cl} (hc:ClOK P cl):ClOK P (xframe cl):=by
 intro f args σ x s h K hk
 unfold xframe at h
 generalize markX σ 100000 (idsL args) []=q at h
 unfold xfrQ at h
 split at h
 ·rename_i as0 σ0 h1 h2 h3
  split at h
  ·rename_i x0 σ1 h4
   unfold xback at h
   split at h
   ·rename_i x1 s1 h5 h6
    cases h
    obtain⟨i1,i2⟩:=zh4 h2
    refine ACalls.frame (K0:=fun y s=>y=x0∧s=σ1) q (hc _ _ _ _ _ h4 _ ⟨rfl,rfl⟩) i1.symm (nodB_ok h3) i2 (zdb h1) ?_
    rintro _ _ ⟨rfl,rfl⟩
    exact⟨_,_,xmrg_ok h6,invE_ren h5,hk⟩
   ·cases h
  ·cases h
 ·cases h
structure Set9 where
 ctr:FuncId→List AV→zaa→Option (AEnd × zaa)
 hint:FuncId→Nat→Way
 loops:Nat
def xcore (P:Program) (T:Tab) (S:Set9) (cl:Cl) (yl:Yl):Cl:=fun f args σ =>
 match S.ctr f args σ with
 | some r=>some r
 | none=>if zaW P f=true then (match P.funcs[f]? with
  | some fn=>match fn.body with
   | some c=>if hasD c then xWD P T cl yl (S.hint f) S.loops σ.length fn.results.toList c (args++List.replicate (fn.ntmps - args.length) .bot) σ else (match zeV P T cl yl (S.hint f) S.loops c (args++List.replicate (fn.ntmps - args.length) .bot) σ with
    | some (x,e,s)=>xret T σ.length fn.results.toList x e s
    | none=>none)
   | none=>none
  | none=>none) else none
theorem xcore_ok {P:Program} {T:Tab} (hT:zaD P T) (hm:P.follows .mixedOrders=true) {S:Set9} (hS:ClOK P S.ctr) {cl:Cl} {yl:Yl} (hc:ClOK P cl) (hy:YlOK P yl):ClOK P (xcore P T S cl yl):=by
 intro f args σ x s h K hk
 unfold xcore at h
 split at h
 ·rename_i r hr
  cases h
  exact hS _ _ _ _ _ hr _ hk
 ·split at h
  ·rename_i hcl
   split at h
   ·rename_i fn hf
    split at h
    ·rename_i c hb
     split at h
     ·exact ACalls.bodyD hT hf hcl hb rfl rfl (xWD_ok hT hm hc hy c h hk)
     ·split at h
      ·rename_i x1 e1 s1 hx
       exact ACalls.body hT hf hcl hb rfl rfl (zex hT hm hc hy c hx (xret_ok h hk))
      ·cases h
    ·cases h
   ·cases h
  ·cases h
def xrun (P:Program) (T:Tab) (S:Set9):Nat→Bool→Nat→List AV→zaa→Option (AEnd × zaa)
 | 0,_,_,_,_=>none
 | n+1,true,f,args,σ=>xframe (xcore P T S (xrun P T S n true) (xrun P T S n false)) f args σ
 | n+1,false,id,args,σ=>xyld P T (xrun P T S n true) (xrun P T S n false) S.loops id args σ
theorem xrun_ok {P:Program} {T:Tab} (hT:zaD P T) (hm:P.follows .mixedOrders=true) {S:Set9} (hS:ClOK P S.ctr):∀ n,ClOK P (xrun P T S n true)∧YlOK P (xrun P T S n false)
 | 0=>⟨fun _ _ _ _ _ h=>(by cases h),fun _ _ _ _ _ h=>(by cases h)⟩
 | n+1=>by
  obtain⟨ih1,ih2⟩:=xrun_ok hT hm hS n
  exact⟨xframe_ok (xcore_ok hT hm hS ih1 ih2),xyld_ok hT hm ih1 ih2⟩
theorem zaA {P:Program} {T:Tab} (hT:zaD P T) (hm:P.follows .mixedOrders=true) {S:Set9} (hS:ClOK P S.ctr) {n:Nat} {f:FuncId} {args:List AV} {σ:zaa} {x:AEnd} {s:zaa} (h:xrun P T S n true f args σ=some (x,s)):ACalls P f args σ (fun y s'=>y=x∧s'=s) :=
 (xrun_ok hT hm hS n).1 _ _ _ _ _ h _ ⟨rfl,rfl⟩
end
end Go.Eng
end

section
namespace Go.Eng
open Go
def tdOf:TypeDesc→TD
 | .bool=>.bool
 | .int k=>.int k
 | .string=>.str
 | .slice e=>.slice e
 | .array n e=>.array n e
 | .pointer e=>.ptr e
 | .struct gs=>.struct (gs.toList.map fun f=>(f.type,f.offset))
 | .interface _=>.iface
 | .map k e=>.map k e
 | _=>.other
def bldT (P:Program) (t:TypeId):TypeDesc→Bool
 | .struct gs=>match gs.toList with
  | g::_=>match P.underlying g.type with
   | some (.pointer e)=>e == t && gs.toList.length == 2
   | _=>false
  | []=>false
 | _=>false
def tdO (P:Program) (t:TypeId) (d:TypeDesc):TD :=
 if bldT P t d then match tdOf d with
  | .struct fs=>.bld fs
  | x=>x
 else tdOf d
def eqsB (P:Program) (t:TypeId) (d:TypeDesc):Bool:=!P.stoodInHeld t && match d with
 | .struct gs => gs.toList.all fun g => g.name != "_"
 | _=>false
def tabAll (P:Program):Tab:=fun t=>match P.underlying t,P.info? t with
 | some d,some i=>match i.zero with
  | some z=>some ⟨tdO P t d,i.size,i.bytes,z.cells.toList,eqsB P t d⟩
  | none=>none
 | _,_=>none
theorem tdOf_fits (d:TypeDesc):(tdOf d).fits d:=by
 unfold tdOf
 split <;> simp only [TD.fits] <;> first | trivial | exact⟨_,rfl⟩ | exact⟨_,rfl,rfl⟩ | skip
theorem tdO_fits (P:Program) (t:TypeId) (d:TypeDesc):(tdO P t d).fits d:=by
 unfold tdO
 split
 ·have h:=tdOf_fits d
  split
  ·rename_i fs he
   rw [he] at h
   exact h
  ·exact h
 ·exact tdOf_fits d
theorem tabAll_ok (P:Program):zaD P (tabAll P):=by
 intro t ti h
 unfold tabAll at h
 split at h
 ·rename_i d i hd hi
  split at h
  ·rename_i z hz
   cases h
   refine⟨fun he=>?_,⟨d,hd,tdO_fits P t d⟩,i,hi,rfl,rfl,z,hz,rfl⟩
   simp only [eqsB,Bool.and_eq_true,Bool.not_eq_true'] at he
   refine⟨he.1,fun gs hg g hm=>?_⟩
   have he:=he.2
   rw [hd] at hg
   cases hg
   exact List.all_eq_true.1 he g hm
  ·cases h
 ·cases h
end Go.Eng
end

section
namespace Go.Eng
open Go
section
variable [Globs]
def xadd (C:FuncId→List AV→zaa→Option (AEnd × zaa)) (g:FuncId) (a:List AV) (s:zaa) (x:AEnd) (t:zaa):FuncId→List AV→zaa→Option (AEnd × zaa):=fun f args σ =>
 if (Nat.beq g f && eqBL args a && stB σ s)=true then some (x,t) else C f args σ
theorem za7 {P:Program} {C:FuncId→List AV→zaa→Option (AEnd × zaa)} (hC:ClOK P C) {g:FuncId} {a:List AV} {s:zaa} {x:AEnd} {t:zaa} (h:ACalls P g a s (fun y s'=>y=x∧s'=t)):ClOK P (xadd C g a s x t):=by
 intro f args σ y s' h1 K hk
 unfold xadd at h1
 split at h1
 ·rename_i hh
  cases h1
  rw [Bool.and_eq_true,Bool.and_eq_true] at hh
  obtain rfl:=Nat.eq_of_beq_eq_true hh.1.1
  obtain rfl:=zcD hh.1.2
  obtain rfl:=zj6 hh.2
  refine h.mono ?_
  rintro _ _ ⟨rfl,rfl⟩
  exact hk
 ·exact hC _ _ _ _ _ h1 K hk
end
end Go.Eng
end

