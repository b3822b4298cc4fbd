/-
  What the functions of octet and of sha answer, each by a function on lists of bytes. No condition.
-/
import Derived.Test.YtcabljgghammoaaDoorEngC
import Derived.Test.YtcabljgghammoaaDoorRows
set_option linter.unusedSimpArgs false
set_option linter.unusedVariables false
set_option linter.unusedSectionVars false
section
namespace Go.Proofs.YtcabljgghammoaaDoor
open Go Go.Eng

def firstL : List (BitVec 32) := [0x6a09e667#32, 0xbb67ae85#32, 0x3c6ef372#32, 0xa54ff53a#32, 0x510e527f#32, 0x9b05688c#32, 0x1f83d9ab#32, 0x5be0cd19#32]
def firstV : Vc (BitVec 32) 8 := ⟨firstL, rfl⟩
def kL : List (BitVec 32) := [
  0x428a2f98#32, 0x71374491#32, 0xb5c0fbcf#32, 0xe9b5dba5#32, 0x3956c25b#32, 0x59f111f1#32, 0x923f82a4#32, 0xab1c5ed5#32,
  0xd807aa98#32, 0x12835b01#32, 0x243185be#32, 0x550c7dc3#32, 0x72be5d74#32, 0x80deb1fe#32, 0x9bdc06a7#32, 0xc19bf174#32,
  0xe49b69c1#32, 0xefbe4786#32, 0x0fc19dc6#32, 0x240ca1cc#32, 0x2de92c6f#32, 0x4a7484aa#32, 0x5cb0a9dc#32, 0x76f988da#32,
  0x983e5152#32, 0xa831c66d#32, 0xb00327c8#32, 0xbf597fc7#32, 0xc6e00bf3#32, 0xd5a79147#32, 0x06ca6351#32, 0x14292967#32,
  0x27b70a85#32, 0x2e1b2138#32, 0x4d2c6dfc#32, 0x53380d13#32, 0x650a7354#32, 0x766a0abb#32, 0x81c2c92e#32, 0x92722c85#32,
  0xa2bfe8a1#32, 0xa81a664b#32, 0xc24b8b70#32, 0xc76c51a3#32, 0xd192e819#32, 0xd6990624#32, 0xf40e3585#32, 0x106aa070#32,
  0x19a4c116#32, 0x1e376c08#32, 0x2748774c#32, 0x34b0bcb5#32, 0x391c0cb3#32, 0x4ed8aa4a#32, 0x5b9cca4f#32, 0x682e6ff3#32,
  0x748f82ee#32, 0x78a5636f#32, 0x84c87814#32, 0x8cc70208#32, 0x90befffa#32, 0xa4506ceb#32, 0xbef9a3f7#32, 0xc67178f2#32]
def val32 (x : BitVec 32) : Value := .int .u32 (x.toNat : Int)
def tyState : TI := ⟨.struct [(104, 0), (9, 8), (3, 9)], 10, 56, [.int .u32 0, .int .u32 0, .int .u32 0, .int .u32 0, .int .u32 0, .int .u32 0, .int .u32 0, .int .u32 0, .string ⟨#[]⟩, .int .i64 0], false⟩


def nilS : AV := .lit (.slice none 0 0)
def tyNd : TI := ⟨.struct [(62, 0), (2, 1), (9, 2), (3, 3)], 4, 40, [.int .i64 0, .int .i64 0, .string ⟨#[]⟩, .int .i64 0], true⟩
def tyGu : TI := ⟨.struct [], 0, 0, [], false⟩
def tyWr : TI := ⟨.struct [(54, 0), (55, 2), (3, 3), (57, 4)], 10, 112, [.pointer none, .slice none 0 0, .slice none 0 0, .int .i64 0, .nilFunc, .nilFunc, .nilFunc, .nilFunc, .nilFunc, .nilFunc], false⟩
def tyKy : TI := ⟨.struct [(9, 0), (23, 1), (9, 2)], 3, 56, [.string ⟨#[]⟩, .slice none 0 0, .string ⟨#[]⟩], false⟩
def tyBe : TI := ⟨.struct [(9, 0), (3, 1)], 2, 24, [.string ⟨#[]⟩, .int .i64 0], true⟩

def T : Tab := tabOf [(3, zbM), (4, tyBool), (5, tyU8), (9, tyStr), (23, tySl 9), (34, tyU64), (109, tyU64), (102, zb3), (37, tySl 5), (104, zb2 8 102 zb3), (116, zb2 64 102 zb3), (91, tyPtr 106), (106, tyState), (52, tyPtr 54), (54, tyBld 52 37), (27, zbM), (77, tyPtr 5), (2, zbM), (62, zbM), (64, tyNd), (55, tySl 64), (20, tyI), (56, tyFn), (57, zb2 6 56 tyFn), (59, tyWr), (48, tyPtr 59), (25, tyKy), (68, tyBe), (80, zb2 2 68 tyBe), (81, tyMap 9 80), (83, tySl 23), (43, tyFn), (41, tyFn)]
theorem T_ok : TabOK Tryd.prog T := tabOf_ok (by kernel_rfl)
theorem T3 : T 3 = some (zbM) := rfl
theorem T4 : T 4 = some (tyBool) := rfl
theorem T5 : T 5 = some (tyU8) := rfl
theorem T9 : T 9 = some (tyStr) := rfl
theorem T23 : T 23 = some (tySl 9) := rfl
theorem T34 : T 34 = some (tyU64) := rfl
theorem T109 : T 109 = some (tyU64) := rfl
theorem T102 : T 102 = some (zb3) := rfl
theorem T37 : T 37 = some (tySl 5) := rfl
theorem T104 : T 104 = some (zb2 8 102 zb3) := rfl
theorem T116 : T 116 = some (zb2 64 102 zb3) := rfl
theorem T91 : T 91 = some (tyPtr 106) := rfl
theorem T106 : T 106 = some (tyState) := rfl
theorem T52 : T 52 = some (tyPtr 54) := rfl
theorem T54 : T 54 = some (tyBld 52 37) := rfl
theorem T27 : T 27 = some (zbM) := rfl
theorem T77 : T 77 = some (tyPtr 5) := rfl
theorem T2 : T 2 = some (zbM) := rfl
theorem T62 : T 62 = some (zbM) := rfl
theorem T64 : T 64 = some (tyNd) := rfl
theorem T55 : T 55 = some (tySl 64) := rfl
theorem T20 : T 20 = some (tyI) := rfl
theorem T56 : T 56 = some (tyFn) := rfl
theorem T57 : T 57 = some (zb2 6 56 tyFn) := rfl
theorem T59 : T 59 = some (tyWr) := rfl
theorem T48 : T 48 = some (tyPtr 59) := rfl
theorem T25 : T 25 = some (tyKy) := rfl
theorem T68 : T 68 = some (tyBe) := rfl
theorem T80 : T 80 = some (zb2 2 68 tyBe) := rfl
theorem T81 : T 81 = some (tyMap 9 80) := rfl
theorem T83 : T 83 = some (tySl 23) := rfl
theorem T43 : T 43 = some (tyFn) := rfl
theorem T41 : T 41 = some (tyFn) := rfl
set_option linter.defProp false in
def TB := And.intro T3 (And.intro T4 (And.intro T5 (And.intro T9 (And.intro T23 (And.intro T34 (And.intro T109 (And.intro T102 (And.intro T37 (And.intro T104 (And.intro T116 (And.intro T91 (And.intro T106 (And.intro T52 (And.intro T54 (And.intro T27 (And.intro T77 (And.intro T2 (And.intro T62 (And.intro T64 (And.intro T55 (And.intro T20 (And.intro T56 (And.intro T57 (And.intro T59 (And.intro T48 (And.intro T25 (And.intro T68 (And.intro T80 (And.intro T81 (And.intro T83 (And.intro T43 (T41))))))))))))))))))))))))))))))))


theorem zaw : (true = false) = False := by simp

instance globs : Globs := ⟨fun g => match g with
  | 0 => some (firstL.map val32)
  | 1 => some (kL.map val32)
  | _ => none, [], [2]⟩
theorem zaH (env : Env) : aeval env (.global 0) = .rp (firstV.l.map u32) := by
  rw [aeval_glob (cs := firstL.map val32) rfl, List.map_map]; rfl
theorem gl_k (env : Env) : aeval env (.global 1) = .rp (kL.map u32) := by
  rw [aeval_glob (cs := kL.map val32) rfl, List.map_map]; rfl

/-! ### nodes -/
structure Nd where
  kind : Int
  num : Int
  text : List UInt8
  kids : Int
  deriving DecidableEq
def n0d : Nd := ⟨0, 0, [], 0⟩
def nC (n : Nd) : List AV := [i64 n.kind, i64 n.num, str n.text, i64 n.kids]
def nA (n : Nd) : AV := .agg (nC n)
def nV (n : Nd) : List Value := [.int .i64 n.kind, .int .i64 n.num, .string ⟨n.text.toArray⟩, .int .i64 n.kids]
theorem one_i64' (n : Int) : (i64 n).one = true := rfl
theorem one_sl (cs : List AV) (n : Nat) : (AV.sl cs n).one = true := rfl
theorem zaF (id off n sz : Nat) : (AV.ref id off n sz).one = true := rfl
theorem zaB : (AV.lit (.slice none 0 0)).one = true := rfl
theorem cells_i64' (n : Int) : (i64 n).cells = [i64 n] := rfl
theorem cells_str' (b : List UInt8) : (str b).cells = [str b] := rfl
theorem zaA (cs : List AV) (n : Nat) : (AV.sl cs n).cells = [AV.sl cs n] := rfl
theorem zaz (id off n sz : Nat) : (AV.ref id off n sz).cells = [AV.ref id off n sz] := rfl
theorem zar : (AV.lit (.slice none 0 0)).cells = [AV.lit (.slice none 0 0)] := rfl
section
variable {a b n : Nd} {σ : Store} {K : AV → Prop} {KS : AV → Store → Prop} {t : TypeId} {id : Nat}
theorem all_n : (nC n).all AV.one = true := by
  simp only [nC, List.all_cons, one_i64', str_one, List.all_nil, Bool.and_self]
theorem len_nC : (nC n).length = 4 := rfl
theorem box_n {eB : TypeId} : wbox eB (nA n) σ KS = KS (.ptr σ.length 0) (σ ++ [.rw (nC n)]) := by
  simp only [wbox, nA, AV.cells, all_n, true_and, show bldlike (nC n) = false from rfl, Bool.false_eq_true, if_false]
theorem ld_n : ld2 (some tyNd) (some (nC n)) 0 K = K (nA n) := by
  simp [ld2, wfin, tyNd, TD.agg, nA, nC]
theorem zbe (ht : T t = some tyNd) : zbv T t (.ptr id 0) 0 K = K (.ptr id 0) := by simp [zbv, ht, tyNd, T62, zbM]
theorem zbf (ht : T t = some tyNd) : zbv T t (.ptr id 0) 1 K = K (.ptr id 1) := by simp [zbv, ht, tyNd, T2, zbM]
theorem zbg (ht : T t = some tyNd) : zbv T t (.ptr id 0) 2 K = K (.ptr id 2) := by simp [zbv, ht, tyNd, T9, tyStr]
theorem zbh (ht : T t = some tyNd) : zbv T t (.ptr id 0) 3 K = K (.ptr id 3) := by simp [zbv, ht, tyNd, T3, zbM]
theorem zbi : ld2 (some zbM) (some (nC n)) 0 K = K (i64 n.kind) := by simp [ld2, wfin, zbM, TD.agg, nC]
theorem zbj : ld2 (some zbM) (some (nC n)) 1 K = K (i64 n.num) := by simp [ld2, wfin, zbM, TD.agg, nC]
theorem zbk : ld2 (some tyStr) (some (nC n)) 2 K = K (str n.text) := by simp [ld2, wfin, tyStr, TD.agg, nC]
theorem zbl : ld2 (some zbM) (some (nC n)) 3 K = K (i64 n.kids) := by simp [ld2, wfin, zbM, TD.agg, nC]
theorem st_n : st2 (some tyNd) (some (.rw (nC a))) id 0 (nA b) σ KS = KS (.lit undef) (σ.set id (.rw (nC b))) := by
  have h1 := @all_n b
  have h2 : zbI (nC a) 0 (nC b) = nC b := rfl
  simp only [st2, tyNd, nA, AV.cells, len_nC, h1, h2, true_and, Nat.zero_add, Nat.le_refl]
theorem st_n1 (k : Int) : st2 (some zbM) (some (.rw (nC a))) id 1 (i64 k) σ KS = KS (.lit undef) (σ.set id (.rw (nC ⟨a.kind, k, a.text, a.kids⟩))) := by
  simp [st2, zbM, nC, AV.cells, AV.one, Value.oneCell', zbI, i64]
theorem st_n2 (k : List UInt8) : st2 (some tyStr) (some (.rw (nC a))) id 2 (str k) σ KS = KS (.lit undef) (σ.set id (.rw (nC ⟨a.kind, a.num, k, a.kids⟩))) := by
  simp [st2, tyStr, nC, AV.cells, AV.one, Value.oneCell', zbI, str]
theorem st_n3 (k : Int) : st2 (some zbM) (some (.rw (nC a))) id 3 (i64 k) σ KS = KS (.lit undef) (σ.set id (.rw (nC ⟨a.kind, a.num, a.text, k⟩))) := by
  simp [st2, zbM, nC, AV.cells, AV.one, Value.oneCell', zbI, i64]
theorem al_n (e : TypeId) : al1 T e (some tyNd) σ KS = KS (.ptr σ.length 0) (σ ++ [.rw (nC n0d)]) := by
  simp [al1, tyNd, zbG, nC, n0d, i64, str]
theorem bd_n0 (ht : T t = some tyNd) (k : Int) : zbU T t [(0, i64 k)] K = K (nA ⟨k, 0, [], 0⟩) := by
  simp [zbU, ht, tyNd, T3, T2, T62, T9, zbN, zbG, cells_i64', one_i64', zbI, zbM, tyStr, nA, nC]
  try rfl
theorem bd_n03 (ht : T t = some tyNd) (k j : Int) : zbU T t [(0, i64 k), (3, i64 j)] K = K (nA ⟨k, 0, [], j⟩) := by
  simp [zbU, ht, tyNd, T3, T2, T62, T9, zbN, zbG, cells_i64', one_i64', zbI, zbM, tyStr, nA, nC]
  try rfl
theorem bd_n02 (ht : T t = some tyNd) (k : Int) (j : List UInt8) : zbU T t [(0, i64 k), (2, str j)] K = K (nA ⟨k, 0, j, 0⟩) := by
  simp [zbU, ht, tyNd, T3, T2, T62, T9, zbN, zbG, cells_i64', one_i64', cells_str', str_one, zbI, zbM, tyStr, nA, nC]
  try rfl
theorem mkI2_gu (x : AV) : mkI2 (some tyGu) t x K = K (.ifc t x) := mkI2_some rfl _ _
theorem retQ_n (t : Tmp) (ty : TypeId) (KK : AEnd → Store → Prop) (n0 : Nat) (env : Env) (σ : Store) : retQ T n0 [.cell t ty] KK .ret env σ = wload T ty ((env[t]?).getD .bot) σ (fun v => endQ n0 v σ (fun r σ' => KK (.ret r) σ')) := rfl

/-! ### two of them compared -/
theorem fit_1 {t : TypeId} {ti : TI} {v : Value} (ht : T t = some ti) (h : scB ti.d v = true) : fitE T 1 t [v] := by
  simp only [fitE, ht]
  rcases scB_cases h with ⟨k, n, e, rfl⟩ | ⟨b, e, rfl⟩ | ⟨s, e, rfl⟩ <;> simp only [e] <;> exact ⟨_, rfl, by simp [scB]⟩
theorem fit_n (n : Nd) : fitE T 2 64 (nV n) := by
  rw [fitE]
  simp only [T64, tyNd]
  refine ⟨trivial, rfl, rfl, ?_⟩
  intro f hf
  simp only [List.mem_cons, List.not_mem_nil, or_false] at hf
  rcases hf with rfl | rfl | rfl | rfl
  · exact ⟨⟨_, T62⟩, fit_1 T62 rfl⟩
  · exact ⟨⟨_, T2⟩, fit_1 T2 rfl⟩
  · exact ⟨⟨_, T9⟩, fit_1 T9 rfl⟩
  · exact ⟨⟨_, T3⟩, fit_1 T3 rfl⟩
theorem nV_inj {a b : Nd} (h : nV a = nV b) : a = b := by
  obtain ⟨a1, a2, a3, a4⟩ := a
  obtain ⟨b1, b2, b3, b4⟩ := b
  simp only [nV, List.cons.injEq, Value.int.injEq, true_and, Value.string.injEq, ByteArray.mk.injEq, and_true] at h
  obtain ⟨rfl, rfl, h, rfl⟩ := h
  simp at h
  rw [h]
theorem eqP_n (a b : Nd) : eqP T 64 (nC a) (nC b) (2, nV a, nV b, decide (a = b)) :=
  ⟨rfl, rfl, (by show 2 ≤ 100; omega), ⟨tyNd, T64, rfl⟩, fit_n a, fit_n b, by simp only [decide_eq_true_eq]; exact ⟨fun h => by rw [h], fun h => nV_inj h⟩⟩
theorem eqP_val {a b : Nd} {q : Nat × List Value × List Value × Bool} (h : eqP T 64 (nC a) (nC b) q) : q.2.2.2 = decide (a = b) := by
  obtain ⟨h1, h2, _, _, _, _, h3⟩ := h
  have lits : ∀ {l r : List Value}, zbG l = zbG r → l = r := by
    intro l
    induction l with
    | nil => intro r h; cases r with | nil => rfl | cons _ _ => cases h
    | cons x l ih =>
      intro r h
      cases r with
      | nil => cases h
      | cons y r =>
        simp only [zbG, List.map_cons, List.cons.injEq, AV.lit.injEq] at h
        rw [h.1, ih h.2]
  have e1 := lits (l := nV a) h1
  have e2 := lits (l := nV b) h2
  rw [Bool.eq_iff_iff, h3, ← e1, ← e2, decide_eq_true_eq]
  exact ⟨nV_inj, fun h => by rw [h]⟩
theorem bin_n_eql : wbin T .eql 64 (nA a) (nA b) K = K (bl (decide (a = b))) := by
  apply propext
  constructor
  · rintro ⟨q, hq, hk⟩
    rw [← eqP_val hq]
    exact hk
  · exact fun hk => ⟨_, eqP_n a b, hk⟩
theorem bin_n_neq : wbin T .neq 64 (nA a) (nA b) K = K (bl (!decide (a = b))) := by
  apply propext
  constructor
  · rintro ⟨q, hq, hk⟩
    rw [← eqP_val hq]
    exact hk
  · exact fun hk => ⟨_, eqP_n a b, hk⟩
theorem set_n1 (k : Int) : (nC a).set 1 (i64 k) = nC ⟨a.kind, k, a.text, a.kids⟩ := rfl
theorem set_n2 (k : List UInt8) : (nC a).set 2 (str k) = nC ⟨a.kind, a.num, k, a.kids⟩ := rfl
theorem set_n3 (k : Int) : (nC a).set 3 (i64 k) = nC ⟨a.kind, a.num, a.text, k⟩ := rfl
end




def clamp8 (n : Int) : Nat := (min (max n 0) 8).toNat
theorem clamp8_le (n : Int) : clamp8 n ≤ 8 := by unfold clamp8; omega
theorem within_ok (n : Int) : ACalls Tryd.prog 32 [i64 n] [] (fun x _ => x = .ret (i64 (clamp8 n))) := by
  refine ACalls.body T_ok Tryd.func32 (by kernel_rfl) rfl Tryd.ntmps32 (congrArg Array.toList Tryd.results32) ?_
  try simp -implicitDefEqProofs only [zaH, gl_k, TB, SB, Int.reduceToNat, Nat.reduceAdd, Nat.reduceEqDiff, Nat.reduceLT, Nat.reduceMod, Nat.reducePow, Nat.reduceSub, if_true, reduceIte]
  refine endQ_i64 ?_
  rw [show ((clamp8 n : Nat) : Int) = min (max n 0) 8 by unfold clamp8; omega]

def rol (x : BitVec 32) (n : Int) : BitVec 32 := x <<< (BitVec.ofInt 32 n &&& 31#32).toNat ||| x >>> (32#32 - (BitVec.ofInt 32 n &&& 31#32)).toNat
theorem rol_ok (x : BitVec 32) (n : Int) : ACalls Tryd.prog 89 [u32 x, i64 n] [] (fun y _ => y = .ret (u32 (rol x n))) := by
  refine ACalls.body T_ok Tryd.func89 (by kernel_rfl) rfl Tryd.ntmps89 (congrArg Array.toList Tryd.results89) ?_
  try simp -implicitDefEqProofs only [zaH, gl_k, TB, SB, Int.reduceToNat, Nat.reduceAdd, Nat.reduceEqDiff, Nat.reduceLT, Nat.reduceMod, Nat.reducePow, Nat.reduceSub, if_true, reduceIte]
  exact endQ_u32 rfl
theorem text_ok (l : List UInt8) : ACalls Tryd.prog 33 [.sl (l.map u8) l.length] [] (fun x _ => x = .ret (str l)) := by
  refine ACalls.body T_ok Tryd.func33 (by kernel_rfl) rfl Tryd.ntmps33 (congrArg Array.toList Tryd.results33) ?_
  try simp -implicitDefEqProofs only [zaH, gl_k, TB, SB, Int.reduceToNat, Nat.reduceAdd, Nat.reduceEqDiff, Nat.reduceLT, Nat.reduceMod, Nat.reducePow, Nat.reduceSub, if_true, reduceIte]
  exact endQ_str rfl
/-- The text of a slice that is lent. -/
theorem text_ref {l : List UInt8} {id : Nat} {σ : Store} {K : AEnd → Store → Prop} (hr : rd σ id = some (l.map u8)) (hk : K (.ret (str l)) σ) : ACalls Tryd.prog 33 [.ref id 0 l.length 1] σ K :=
  (text_ok l).lend ⟨.inr (.inl ⟨id, 0, l.length, 1, l.map u8, rfl, hr, by simp, zaa u8 zai _ _, by rw [List.drop_zero, List.take_of_length_le (by simp)]⟩), trivial⟩ (by
    rintro _ σ' rfl
    exact ⟨trivial, hk⟩)

/-- The byte i of a number, from below. -/
def byteAt (x : BitVec 64) (i : Nat) : UInt8 := UInt8.ofBitVec ((x >>> (8 * i)).setWidth 8)
def lowL (x : BitVec 64) (n : Nat) : List UInt8 := (List.range n).map (byteAt x)
def bigL (x : BitVec 64) (n : Nat) : List UInt8 := (lowL x n).reverse

/-- What stands in the row behind k rounds of Big, and of Low. -/
def bigRow (x : BitVec 64) (m k : Nat) : List UInt8 := (List.range m).map fun j => if m - 1 - j < k then byteAt x (m - 1 - j) else 0
theorem bigRow_zero (x : BitVec 64) (m : Nat) : bigRow x m 0 = List.replicate m 0 := by
  apply List.ext_getElem <;> simp [bigRow]
theorem bigRow_succ (x : BitVec 64) (m k : Nat) (h : k < m) : (bigRow x m k).set (m - 1 - k) (byteAt x k) = bigRow x m (k + 1) := by
  apply List.ext_getElem
  · simp [bigRow]
  · intro i h1 h2
    simp [bigRow] at h1 h2
    rw [List.getElem_set]
    simp only [bigRow, List.getElem_map, List.getElem_range]
    by_cases hi : m - 1 - k = i
    · subst hi
      rw [if_pos rfl, if_pos (by omega), show m - 1 - (m - 1 - k) = k by omega]
    · rw [if_neg hi]
      by_cases h3 : m - 1 - i < k
      · rw [if_pos h3, if_pos (by omega)]
      · rw [if_neg h3, if_neg (by omega)]
theorem bigRow_all (x : BitVec 64) (m : Nat) : bigRow x m m = bigL x m := by
  apply List.ext_getElem
  · simp [bigRow, bigL, lowL]
  · intro i h1 h2
    simp [bigRow] at h1
    simp [bigRow, bigL, lowL]
    intro h; omega
theorem big_ok (x : BitVec 64) (n : Int) : ACalls Tryd.prog 18 [u64 x, i64 n] [] (fun y _ => y = .ret (str (bigL x (clamp8 n)))) := by
  refine ACalls.body T_ok Tryd.func18 (by kernel_rfl) rfl Tryd.ntmps18 (congrArg Array.toList Tryd.results18) ?_
  try simp -implicitDefEqProofs only [zaH, gl_k, TB, SB, Int.reduceToNat, Nat.reduceAdd, Nat.reduceEqDiff, Nat.reduceLT, Nat.reduceMod, Nat.reducePow, Nat.reduceSub, if_true, reduceIte]
  refine (within_ok n).pure rfl ?_
  rintro _ σ rfl
  refine ⟨rfl, ?_⟩
  try simp -implicitDefEqProofs only [zaH, gl_k, TB, SB, Int.reduceToNat, Nat.reduceAdd, Nat.reduceEqDiff, Nat.reduceLT, Nat.reduceMod, Nat.reducePow, Nat.reduceSub, if_true, reduceIte]
  have hm := clamp8_le n
  repeat (with_reducible refine And.intro (by first | omega | decide | (unfold inI; omega) | (simp only [List.length_append, List.length_reverse, List.length_take, List.length_drop, List.length_cons, List.length_nil, List.length_map, List.length_replicate]; omega)) ?_)
  rw [W_loop]
  generalize clamp8 n = m at *
  refine ⟨Nat, fun k => k ≤ m, fun k => [u64 x, i64 m, .bot, .bot, .bot, .ref 0 0 m 1, .bot, .bot, .bot, .bot, .bot, i64 m, i64 k, .bot, .bot, .bot, .bot, .bot, .bot, .bot, .bot, .bot, .bot, .bot, .bot, .bot, .bot, .bot, .bot], fun k => [.rw ((bigRow x m k).map u8)], fun k => m - k, 0, Nat.zero_le _, ?_, ?_⟩
  · refine fits_same (q := [0]) rfl rfl (by decide) ?_ ?_
    · try simp only [List.set_cons_zero, List.set_cons_succ, List.length_cons, List.length_nil, Nat.reduceAdd, List.cons_append, List.nil_append, zaQ, za7, zaR, zaS, zaT, za8, zaU, zaV, zaW, zaN, zai, zad, zae, zab, zan, zac, zaa u8 zai, zaa u32 zad, AV.ren, zaI, zaC, zaf u8 zai, zaf u32 zad, zaf i64 zab, zaf u64 zae, zaa u64 zae, zaa i64 zab, List.getElem?_cons_zero, List.getElem?_cons_succ, Option.map_some, zaX, zaY, za9, zaZ, zba, za0, true_and, and_true, or_true, true_or, reduceCtorEq, false_or, Option.some.injEq, Blk.rw.injEq, AV.sl.injEq, AV.ref.injEq, AV.ptr.injEq]
      try simp
    · try simp only [List.set_cons_zero, List.set_cons_succ, List.length_cons, List.length_nil, Nat.reduceAdd, List.cons_append, List.nil_append, zaQ, za7, zaR, zaS, zaT, za8, zaU, zaV, zaW, zaN, zai, zad, zae, zab, zan, zac, zaa u8 zai, zaa u32 zad, AV.ren, zaI, zaC, zaf u8 zai, zaf u32 zad, zaf i64 zab, zaf u64 zae, zaa u64 zae, zaa i64 zab, List.getElem?_cons_zero, List.getElem?_cons_succ, Option.map_some, zaX, zaY, za9, zaZ, zba, za0, true_and, and_true, or_true, true_or, reduceCtorEq, false_or, Option.some.injEq, Blk.rw.injEq, AV.sl.injEq, AV.ref.injEq, AV.ptr.injEq]
      simp [bigRow_zero]
  · intro k hk
    try simp -implicitDefEqProofs only [zaH, gl_k, TB, SB, Int.reduceToNat, Nat.reduceAdd, Nat.reduceEqDiff, Nat.reduceLT, Nat.reduceMod, Nat.reducePow, Nat.reduceSub, if_true, reduceIte]
    have hl : (bigRow x m k).length = m := by simp [bigRow]
    refine ⟨fun hlt => ?_, fun hge => ?_⟩
    · rw [List.length_map, hl]
      repeat (with_reducible refine And.intro (by first | omega | decide | (unfold inI; omega) | (simp only [List.length_append, List.length_reverse, List.length_take, List.length_drop, List.length_cons, List.length_nil, List.length_map, List.length_replicate]; omega)) ?_)
      rw [loopQ_normal]
      refine ⟨k + 1, by omega, by omega, fits_same (q := [0]) rfl rfl (by decide) ?_ ?_⟩
      · try simp only [List.set_cons_zero, List.set_cons_succ, List.length_cons, List.length_nil, Nat.reduceAdd, List.cons_append, List.nil_append, zaQ, za7, zaR, zaS, zaT, za8, zaU, zaV, zaW, zaN, zai, zad, zae, zab, zan, zac, zaa u8 zai, zaa u32 zad, AV.ren, zaI, zaC, zaf u8 zai, zaf u32 zad, zaf i64 zab, zaf u64 zae, zaa u64 zae, zaa i64 zab, List.getElem?_cons_zero, List.getElem?_cons_succ, Option.map_some, zaX, zaY, za9, zaZ, zba, za0, true_and, and_true, or_true, true_or, reduceCtorEq, false_or, Option.some.injEq, Blk.rw.injEq, AV.sl.injEq, AV.ref.injEq, AV.ptr.injEq]
        try simp
      · try simp only [List.set_cons_zero, List.set_cons_succ, List.length_cons, List.length_nil, Nat.reduceAdd, List.cons_append, List.nil_append, zaQ, za7, zaR, zaS, zaT, za8, zaU, zaV, zaW, zaN, zai, zad, zae, zab, zan, zac, zaa u8 zai, zaa u32 zad, AV.ren, zaI, zaC, zaf u8 zai, zaf u32 zad, zaf i64 zab, zaf u64 zae, zaa u64 zae, zaa i64 zab, List.getElem?_cons_zero, List.getElem?_cons_succ, Option.map_some, zaX, zaY, za9, zaZ, zba, za0, true_and, and_true, or_true, true_or, reduceCtorEq, false_or, Option.some.injEq, Blk.rw.injEq, AV.sl.injEq, AV.ref.injEq, AV.ptr.injEq]
        rw [← bigRow_succ x m k (by omega), List.map_set]
        congr 2
        · omega
    · obtain rfl : k = m := by omega
      have e : AV.ref 0 0 k 1 = AV.ref 0 0 (bigRow x k k).length 1 := by rw [hl]
      rw [e]
      refine text_ref (l := bigRow x k k) rfl ?_
      try simp -implicitDefEqProofs only [zaH, gl_k, TB, SB, Int.reduceToNat, Nat.reduceAdd, Nat.reduceEqDiff, Nat.reduceLT, Nat.reduceMod, Nat.reducePow, Nat.reduceSub, if_true, reduceIte]
      refine endQ_str ?_
      rw [bigRow_all]

/-! reading -/
def rbStep (n : BitVec 64) (b : UInt8) : BitVec 64 := n <<< 8 ||| b.toBitVec.setWidth 64
def readBigL (l : List UInt8) : BitVec 64 := l.foldl rbStep 0#64
theorem take_snoc (l : List UInt8) (k : Nat) (h : k < l.length) : l.take (k + 1) = l.take k ++ [l.getD k 0] := by
  rw [List.take_succ_eq_append_getElem h]
  simp [h]
theorem readBig_snoc (l : List UInt8) (k : Nat) (h : k < l.length) : readBigL (l.take (k + 1)) = rbStep (readBigL (l.take k)) (l.getD k 0) := by
  rw [take_snoc l k h, readBigL, List.foldl_append]
  rfl
theorem readBig_ok (l : List UInt8) (hl : l.length ≤ 9223372036854775807) : ACalls Tryd.prog 88 [str l] [] (fun y _ => y = .ret (u64 (readBigL l))) := by
  refine ACalls.body T_ok Tryd.func88 (by kernel_rfl) rfl Tryd.ntmps88 (congrArg Array.toList Tryd.results88) ?_
  try simp -implicitDefEqProofs only [zaH, gl_k, TB, SB, Int.reduceToNat, Nat.reduceAdd, Nat.reduceEqDiff, Nat.reduceLT, Nat.reduceMod, Nat.reducePow, Nat.reduceSub, if_true, reduceIte]
  rw [W_loop]
  refine ⟨Nat, fun k => k ≤ l.length, fun k => [str l, .bot, .bot, u64 (readBigL (l.take k)), .bot, .bot, i64 l.length, i64 k, .bot, .bot, .bot, .bot, .bot, .bot, .bot, .bot, .bot, .bot, .bot], fun _ => [], fun k => l.length - k, 0, Nat.zero_le _, ?_, ?_⟩
  · refine fits_same (q := []) rfl rfl (by decide) ?_ ?_
    · try simp only [List.set_cons_zero, List.set_cons_succ, List.length_cons, List.length_nil, Nat.reduceAdd, List.cons_append, List.nil_append, zaQ, za7, zaR, zaS, zaT, za8, zaU, zaV, zaW, zaN, zai, zad, zae, zab, zan, zac, zaa u8 zai, zaa u32 zad, AV.ren, zaI, zaC, zaf u8 zai, zaf u32 zad, zaf i64 zab, zaf u64 zae, zaa u64 zae, zaa i64 zab, List.getElem?_cons_zero, List.getElem?_cons_succ, Option.map_some, zaX, zaY, za9, zaZ, zba, za0, true_and, and_true, or_true, true_or, reduceCtorEq, false_or, Option.some.injEq, Blk.rw.injEq, AV.sl.injEq, AV.ref.injEq, AV.ptr.injEq]
      simp [readBigL]
    · try simp only [List.set_cons_zero, List.set_cons_succ, List.length_cons, List.length_nil, Nat.reduceAdd, List.cons_append, List.nil_append, zaQ, za7, zaR, zaS, zaT, za8, zaU, zaV, zaW, zaN, zai, zad, zae, zab, zan, zac, zaa u8 zai, zaa u32 zad, AV.ren, zaI, zaC, zaf u8 zai, zaf u32 zad, zaf i64 zab, zaf u64 zae, zaa u64 zae, zaa i64 zab, List.getElem?_cons_zero, List.getElem?_cons_succ, Option.map_some, zaX, zaY, za9, zaZ, zba, za0, true_and, and_true, or_true, true_or, reduceCtorEq, false_or, Option.some.injEq, Blk.rw.injEq, AV.sl.injEq, AV.ref.injEq, AV.ptr.injEq]
  · intro k hk
    try simp -implicitDefEqProofs only [zaH, gl_k, TB, SB, Int.reduceToNat, Nat.reduceAdd, Nat.reduceEqDiff, Nat.reduceLT, Nat.reduceMod, Nat.reducePow, Nat.reduceSub, if_true, reduceIte]
    refine ⟨fun hlt => ?_, fun hge => ?_⟩
    · repeat (with_reducible refine And.intro (by first | omega | decide | (unfold inI; omega) | (simp only [List.length_append, List.length_reverse, List.length_take, List.length_drop, List.length_cons, List.length_nil, List.length_map, List.length_replicate]; omega)) ?_)
      rw [loopQ_normal]
      refine ⟨k + 1, by omega, by omega, fits_same (q := []) rfl rfl (by decide) ?_ ?_⟩
      · try simp only [List.set_cons_zero, List.set_cons_succ, List.length_cons, List.length_nil, Nat.reduceAdd, List.cons_append, List.nil_append, zaQ, za7, zaR, zaS, zaT, za8, zaU, zaV, zaW, zaN, zai, zad, zae, zab, zan, zac, zaa u8 zai, zaa u32 zad, AV.ren, zaI, zaC, zaf u8 zai, zaf u32 zad, zaf i64 zab, zaf u64 zae, zaa u64 zae, zaa i64 zab, List.getElem?_cons_zero, List.getElem?_cons_succ, Option.map_some, zaX, zaY, za9, zaZ, zba, za0, true_and, and_true, or_true, true_or, reduceCtorEq, false_or, Option.some.injEq, Blk.rw.injEq, AV.sl.injEq, AV.ref.injEq, AV.ptr.injEq]
        rw [readBig_snoc l k (by omega)]
        simp [rbStep]
      · try simp only [List.set_cons_zero, List.set_cons_succ, List.length_cons, List.length_nil, Nat.reduceAdd, List.cons_append, List.nil_append, zaQ, za7, zaR, zaS, zaT, za8, zaU, zaV, zaW, zaN, zai, zad, zae, zab, zan, zac, zaa u8 zai, zaa u32 zad, AV.ren, zaI, zaC, zaf u8 zai, zaf u32 zad, zaf i64 zab, zaf u64 zae, zaa u64 zae, zaa i64 zab, List.getElem?_cons_zero, List.getElem?_cons_succ, Option.map_some, zaX, zaY, za9, zaZ, zba, za0, true_and, and_true, or_true, true_or, reduceCtorEq, false_or, Option.some.injEq, Blk.rw.injEq, AV.sl.injEq, AV.ref.injEq, AV.ptr.injEq]
    · obtain rfl : k = l.length := by omega
      try simp -implicitDefEqProofs only [zaH, gl_k, TB, SB, Int.reduceToNat, Nat.reduceAdd, Nat.reduceEqDiff, Nat.reduceLT, Nat.reduceMod, Nat.reducePow, Nat.reduceSub, if_true, reduceIte]
      refine endQ_u64 ?_
      simp

/-! exclusive or, and the rest -/
def xorL (a b : List UInt8) : List UInt8 := List.zipWith (· ^^^ ·) a b
def xorRow (a b : List UInt8) (k : Nat) : List UInt8 := (List.range (min a.length b.length)).map fun j => if j < k then a.getD j 0 ^^^ b.getD j 0 else 0
theorem xorRow_zero (a b : List UInt8) : xorRow a b 0 = List.replicate (min a.length b.length) 0 := by
  apply List.ext_getElem <;> simp [xorRow]
theorem xorRow_succ (a b : List UInt8) (k : Nat) (h : k < min a.length b.length) : (xorRow a b k).set k (a.getD k 0 ^^^ b.getD k 0) = xorRow a b (k + 1) := by
  apply List.ext_getElem
  · simp [xorRow]
  · intro i h1 h2
    simp [xorRow] at h1 h2
    rw [List.getElem_set]
    simp only [xorRow, List.getElem_map, List.getElem_range]
    by_cases hi : k = i
    · subst hi; simp
    · rw [if_neg hi]
      by_cases h3 : i < k
      · rw [if_pos h3, if_pos (by omega)]
      · rw [if_neg h3, if_neg (by omega)]
theorem xorRow_all (a b : List UInt8) : xorRow a b (min a.length b.length) = xorL a b := by
  apply List.ext_getElem
  · simp [xorRow, xorL]
  · intro i h1 h2
    simp only [xorRow, List.length_map, List.length_range] at h1
    have h3 : i < a.length := by omega
    have h4 : i < b.length := by omega
    simp only [xorRow, xorL, List.getElem_map, List.getElem_range, List.getElem_zipWith]
    rw [if_pos h1]
    simp [h3, h4]
theorem xor_ok (a b : List UInt8) (ha : a.length ≤ 281474976710656) : ACalls Tryd.prog 54 [str a, str b] [] (fun y _ => y = .ret (str (xorL a b))) := by
  refine ACalls.body T_ok Tryd.func54 (by kernel_rfl) rfl Tryd.ntmps54 (congrArg Array.toList Tryd.results54) ?_
  try simp -implicitDefEqProofs only [zaH, gl_k, TB, SB, Int.reduceToNat, Nat.reduceAdd, Nat.reduceEqDiff, Nat.reduceLT, Nat.reduceMod, Nat.reducePow, Nat.reduceSub, if_true, reduceIte]
  obtain ⟨m, hm⟩ : ∃ m : Nat, m = min a.length b.length := ⟨_, rfl⟩
  have hm' : min (a.length : Int) b.length = m := by omega
  rw [hm', Int.toNat_natCast]
  repeat (with_reducible refine And.intro (by first | omega | decide | (unfold inI; omega) | (simp only [List.length_append, List.length_reverse, List.length_take, List.length_drop, List.length_cons, List.length_nil, List.length_map, List.length_replicate]; omega)) ?_)
  rw [W_loop]
  refine ⟨Nat, fun k => k ≤ m, fun k => [str a, str b, .bot, .bot, .bot, .ref 0 0 m 1, .bot, .bot, .bot, .bot, .bot, .bot, .bot, .bot, i64 m, i64 k, .bot, .bot, .bot, .bot, .bot, .bot, .bot, .bot, .bot, .bot, .bot, .bot, .bot, .bot, .bot], fun k => [.rw ((xorRow a b k).map u8)], fun k => m - k, 0, Nat.zero_le _, ?_, ?_⟩
  · refine fits_same (q := [0]) rfl rfl (by decide) ?_ ?_
    · try simp only [List.set_cons_zero, List.set_cons_succ, List.length_cons, List.length_nil, Nat.reduceAdd, List.cons_append, List.nil_append, zaQ, za7, zaR, zaS, zaT, za8, zaU, zaV, zaW, zaN, zai, zad, zae, zab, zan, zac, zaa u8 zai, zaa u32 zad, AV.ren, zaI, zaC, zaf u8 zai, zaf u32 zad, zaf i64 zab, zaf u64 zae, zaa u64 zae, zaa i64 zab, List.getElem?_cons_zero, List.getElem?_cons_succ, Option.map_some, zaX, zaY, za9, zaZ, zba, za0, true_and, and_true, or_true, true_or, reduceCtorEq, false_or, Option.some.injEq, Blk.rw.injEq, AV.sl.injEq, AV.ref.injEq, AV.ptr.injEq]
      try simp
    · try simp only [List.set_cons_zero, List.set_cons_succ, List.length_cons, List.length_nil, Nat.reduceAdd, List.cons_append, List.nil_append, zaQ, za7, zaR, zaS, zaT, za8, zaU, zaV, zaW, zaN, zai, zad, zae, zab, zan, zac, zaa u8 zai, zaa u32 zad, AV.ren, zaI, zaC, zaf u8 zai, zaf u32 zad, zaf i64 zab, zaf u64 zae, zaa u64 zae, zaa i64 zab, List.getElem?_cons_zero, List.getElem?_cons_succ, Option.map_some, zaX, zaY, za9, zaZ, zba, za0, true_and, and_true, or_true, true_or, reduceCtorEq, false_or, Option.some.injEq, Blk.rw.injEq, AV.sl.injEq, AV.ref.injEq, AV.ptr.injEq]
      simp [xorRow_zero, hm]
  · intro k hk
    try simp -implicitDefEqProofs only [zaH, gl_k, TB, SB, Int.reduceToNat, Nat.reduceAdd, Nat.reduceEqDiff, Nat.reduceLT, Nat.reduceMod, Nat.reducePow, Nat.reduceSub, if_true, reduceIte]
    refine ⟨fun hlt => ?_, fun hge => ?_⟩
    · refine W_drawE [10] (by kernel_rfl) (by kernel_rfl) (by kernel_rfl) ?_
      try simp -implicitDefEqProofs only [zaH, gl_k, TB, SB, Int.reduceToNat, Nat.reduceAdd, Nat.reduceEqDiff, Nat.reduceLT, Nat.reduceMod, Nat.reducePow, Nat.reduceSub, if_true, reduceIte]
      have hlen : (xorRow a b k).length = m := by simp [xorRow, hm]
      rw [Int.toNat_natCast, List.length_map, hlen]
      repeat (with_reducible refine And.intro (by first | omega | decide | (unfold inI; omega) | (simp only [List.length_append, List.length_reverse, List.length_take, List.length_drop, List.length_cons, List.length_nil, List.length_map, List.length_replicate]; omega)) ?_)
      rw [loopQ_normal]
      refine ⟨k + 1, by omega, by omega, fits_same (q := [0]) rfl rfl (by decide) ?_ ?_⟩
      · try simp only [List.set_cons_zero, List.set_cons_succ, List.length_cons, List.length_nil, Nat.reduceAdd, List.cons_append, List.nil_append, zaQ, za7, zaR, zaS, zaT, za8, zaU, zaV, zaW, zaN, zai, zad, zae, zab, zan, zac, zaa u8 zai, zaa u32 zad, AV.ren, zaI, zaC, zaf u8 zai, zaf u32 zad, zaf i64 zab, zaf u64 zae, zaa u64 zae, zaa i64 zab, List.getElem?_cons_zero, List.getElem?_cons_succ, Option.map_some, zaX, zaY, za9, zaZ, zba, za0, true_and, and_true, or_true, true_or, reduceCtorEq, false_or, Option.some.injEq, Blk.rw.injEq, AV.sl.injEq, AV.ref.injEq, AV.ptr.injEq]
        try simp
      · try simp only [List.set_cons_zero, List.set_cons_succ, List.length_cons, List.length_nil, Nat.reduceAdd, List.cons_append, List.nil_append, zaQ, za7, zaR, zaS, zaT, za8, zaU, zaV, zaW, zaN, zai, zad, zae, zab, zan, zac, zaa u8 zai, zaa u32 zad, AV.ren, zaI, zaC, zaf u8 zai, zaf u32 zad, zaf i64 zab, zaf u64 zae, zaa u64 zae, zaa i64 zab, List.getElem?_cons_zero, List.getElem?_cons_succ, Option.map_some, zaX, zaY, za9, zaZ, zba, za0, true_and, and_true, or_true, true_or, reduceCtorEq, false_or, Option.some.injEq, Blk.rw.injEq, AV.sl.injEq, AV.ref.injEq, AV.ptr.injEq]
        rw [← xorRow_succ a b k (by omega), List.map_set]
        try rfl
    · obtain rfl : k = m := by omega
      have hl : (xorRow a b k).length = k := by simp [xorRow, hm]
      have e : AV.ref 0 0 k 1 = AV.ref 0 0 (xorRow a b k).length 1 := by rw [hl]
      rw [e]
      refine text_ref (l := xorRow a b k) rfl ?_
      try simp -implicitDefEqProofs only [zaH, gl_k, TB, SB, Int.reduceToNat, Nat.reduceAdd, Nat.reduceEqDiff, Nat.reduceLT, Nat.reduceMod, Nat.reducePow, Nat.reduceSub, if_true, reduceIte]
      refine endQ_str ?_
      rw [hm, xorRow_all]

theorem blocks_ok (s : List UInt8) : ACalls Tryd.prog 65 [str s] [] (fun x σ => x = .ret (.fn (.func 77) [] [.ptr 0 0]) ∧ σ = [.rw [str s]]) := by
  refine ACalls.body T_ok Tryd.func65 (by kernel_rfl) rfl Tryd.ntmps65 (congrArg Array.toList Tryd.results65) ?_
  try simp -implicitDefEqProofs only [zaH, gl_k, TB, SB, Int.reduceToNat, Nat.reduceAdd, Nat.reduceEqDiff, Nat.reduceLT, Nat.reduceMod, Nat.reducePow, Nat.reduceSub, if_true, reduceIte]
  exact endQ_here ⟨rfl, rfl⟩

def mk8 (a b c d e f g h : BitVec 32) : Vc (BitVec 32) 8 := ⟨[a, b, c, d, e, f, g, h], rfl⟩
theorem zbb (a b c d e f g h : BitVec 32) (K : AV → Prop) : zbU T 104 [(0, u32 a), (1, u32 b), (2, u32 c), (3, u32 d), (4, u32 e), (5, u32 f), (6, u32 g), (7, u32 h)] K = K (.agg ((mk8 a b c d e f g h).l.map u32)) := by
  simp only [zbU, T104, zb2, T102]
  simp [zbN, zb3, zbG, u32, AV.cells, AV.one, Value.oneCell', zbI, mk8, List.replicate]

/-- The eight behind one of the 64 numbers. -/
def stepV (v : Vc (BitVec 32) 8) (kw : BitVec 32) : Vc (BitVec 32) 8 :=
  let a := v.l.getD 0 0#32
  let b := v.l.getD 1 0#32
  let c := v.l.getD 2 0#32
  let e := v.l.getD 4 0#32
  let f := v.l.getD 5 0#32
  let g := v.l.getD 6 0#32
  let t := v.l.getD 7 0#32 + (rol e (-6) ^^^ rol e (-11) ^^^ rol e (-25)) + (e &&& f ^^^ ~~~e &&& g) + kw
  let u := (rol a (-2) ^^^ rol a (-13) ^^^ rol a (-22)) + (a &&& b ^^^ a &&& c ^^^ b &&& c)
  mk8 (t + u) a b c (v.l.getD 3 0#32 + t) e f g
theorem step_ok (v : Vc (BitVec 32) 8) (kw : BitVec 32) : ACalls Tryd.prog 79 [.agg (v.l.map u32), u32 kw] [] (fun x _ => x = .ret (.agg ((stepV v kw).l.map u32))) := by
  refine ACalls.body T_ok Tryd.func79 (by kernel_rfl) rfl Tryd.ntmps79 (congrArg Array.toList Tryd.results79) ?_
  have hl := v.h
  try simp -implicitDefEqProofs only [zaH, gl_k, zbb, TB, SB, Int.reduceToNat, Nat.reduceAdd, Nat.reduceEqDiff, Nat.reduceLT, Nat.reduceMod, Nat.reducePow, Nat.reduceSub, if_true, reduceIte]
  refine W_draw (by kernel_rfl) (by kernel_rfl) ?_
  try simp -implicitDefEqProofs only [zaH, gl_k, zbb, TB, SB, Int.reduceToNat, Nat.reduceAdd, Nat.reduceEqDiff, Nat.reduceLT, Nat.reduceMod, Nat.reducePow, Nat.reduceSub, if_true, reduceIte]
  repeat (with_reducible refine And.intro (by first | omega | decide | (unfold inI; omega) | (simp only [List.length_append, List.length_reverse, List.length_take, List.length_drop, List.length_cons, List.length_nil, List.length_map, List.length_replicate]; omega)) ?_)
  try simp -implicitDefEqProofs only [zaH, gl_k, zbb, TB, SB, Int.reduceToNat, Nat.reduceAdd, Nat.reduceEqDiff, Nat.reduceLT, Nat.reduceMod, Nat.reducePow, Nat.reduceSub, if_true, reduceIte]
  refine W_draw (by kernel_rfl) (by kernel_rfl) ?_
  try simp -implicitDefEqProofs only [zaH, gl_k, zbb, TB, SB, Int.reduceToNat, Nat.reduceAdd, Nat.reduceEqDiff, Nat.reduceLT, Nat.reduceMod, Nat.reducePow, Nat.reduceSub, if_true, reduceIte]
  repeat (with_reducible refine And.intro (by first | omega | decide | (unfold inI; omega) | (simp only [List.length_append, List.length_reverse, List.length_take, List.length_drop, List.length_cons, List.length_nil, List.length_map, List.length_replicate]; omega)) ?_)
  refine exq_ok (rol_ok _ _) rfl rfl ?_
  try simp -implicitDefEqProofs only [zaH, gl_k, zbb, TB, SB, Int.reduceToNat, Nat.reduceAdd, Nat.reduceEqDiff, Nat.reduceLT, Nat.reduceMod, Nat.reducePow, Nat.reduceSub, if_true, reduceIte]
  refine exq_ok (rol_ok _ _) rfl rfl ?_
  try simp -implicitDefEqProofs only [zaH, gl_k, zbb, TB, SB, Int.reduceToNat, Nat.reduceAdd, Nat.reduceEqDiff, Nat.reduceLT, Nat.reduceMod, Nat.reducePow, Nat.reduceSub, if_true, reduceIte]
  refine exq_ok (rol_ok _ _) rfl rfl ?_
  try simp -implicitDefEqProofs only [zaH, gl_k, zbb, TB, SB, Int.reduceToNat, Nat.reduceAdd, Nat.reduceEqDiff, Nat.reduceLT, Nat.reduceMod, Nat.reducePow, Nat.reduceSub, if_true, reduceIte]
  refine (rol_ok _ _).pure rfl ?_
  rintro _ σ rfl
  refine ⟨rfl, ?_⟩
  try simp -implicitDefEqProofs only [zaH, gl_k, zbb, TB, SB, Int.reduceToNat, Nat.reduceAdd, Nat.reduceEqDiff, Nat.reduceLT, Nat.reduceMod, Nat.reducePow, Nat.reduceSub, if_true, reduceIte]
  refine (rol_ok _ _).pure rfl ?_
  rintro _ σ rfl
  refine ⟨rfl, ?_⟩
  try simp -implicitDefEqProofs only [zaH, gl_k, zbb, TB, SB, Int.reduceToNat, Nat.reduceAdd, Nat.reduceEqDiff, Nat.reduceLT, Nat.reduceMod, Nat.reducePow, Nat.reduceSub, if_true, reduceIte]
  refine (rol_ok _ _).pure rfl ?_
  rintro _ σ rfl
  refine ⟨rfl, ?_⟩
  try simp -implicitDefEqProofs only [zaH, gl_k, zbb, TB, SB, Int.reduceToNat, Nat.reduceAdd, Nat.reduceEqDiff, Nat.reduceLT, Nat.reduceMod, Nat.reducePow, Nat.reduceSub, if_true, reduceIte]
  repeat (with_reducible refine And.intro (by first | omega | decide | (unfold inI; omega) | (simp only [List.length_append, List.length_reverse, List.length_take, List.length_drop, List.length_cons, List.length_nil, List.length_map, List.length_replicate]; omega)) ?_)
  try simp -implicitDefEqProofs only [zaH, gl_k, zbb, TB, SB, Int.reduceToNat, Nat.reduceAdd, Nat.reduceEqDiff, Nat.reduceLT, Nat.reduceMod, Nat.reducePow, Nat.reduceSub, if_true, reduceIte]
  repeat (with_reducible refine And.intro (by first | omega | decide | (unfold inI; omega) | (simp only [List.length_append, List.length_reverse, List.length_take, List.length_drop, List.length_cons, List.length_nil, List.length_map, List.length_replicate]; omega)) ?_)
  try simp -implicitDefEqProofs only [zaH, gl_k, zbb, TB, SB, Int.reduceToNat, Nat.reduceAdd, Nat.reduceEqDiff, Nat.reduceLT, Nat.reduceMod, Nat.reducePow, Nat.reduceSub, if_true, reduceIte]
  exact endQ_agg32 rfl

end Go.Proofs.YtcabljgghammoaaDoor
end

section
namespace Go.Proofs.YtcabljgghammoaaDoor
open Go Go.Eng



def wordAt (b : List UInt8) (i : Nat) : BitVec 32 := (readBigL ((b.take (4 * i + 4)).drop (4 * i))).setWidth 32
def longA (b : List UInt8) : Nat → Vc (BitVec 32) 64
  | 0 => Vc.rep 64 0#32
  | i + 1 => (longA b i).set i (wordAt b i)
def lowS (x : BitVec 32) : BitVec 32 := rol x (-7) ^^^ rol x (-18) ^^^ x >>> 3
def highS (y : BitVec 32) : BitVec 32 := rol y (-17) ^^^ rol y (-19) ^^^ y >>> 10
def longF (w : Vc (BitVec 32) 64) (i : Nat) : BitVec 32 := w.l.getD (i - 16) 0#32 + lowS (w.l.getD (i - 15) 0#32) + w.l.getD (i - 7) 0#32 + highS (w.l.getD (i - 2) 0#32)
def longB (b : List UInt8) : Nat → Vc (BitVec 32) 64
  | 0 => longA b 16
  | j + 1 => (longB b j).set (16 + j) (longF (longB b j) (16 + j))
theorem long_ok (b : List UInt8) (hb : b.length = 64) : ACalls Tryd.prog 78 [str b] [] (fun x _ => x = .ret (.agg ((longB b 48).l.map u32))) := by
  refine ACalls.body T_ok Tryd.func78 (by kernel_rfl) rfl Tryd.ntmps78 (congrArg Array.toList Tryd.results78) ?_
  try simp -implicitDefEqProofs only [zaH, gl_k, zbb, zal T102, zag T91, zah T91, TB, SB, Int.reduceToNat, Nat.reduceAdd, Nat.reduceEqDiff, Nat.reduceLT, Nat.reduceMod, Nat.reducePow, Nat.reduceSub, if_true, reduceIte]
  rw [W_loop]
  refine ⟨Nat, fun k => k ≤ 16, fun k => [str b, .bot, .ptr 0 0, .ptr 1 0, .bot, .bot, .bot, .bot, .bot, .bot, i64 k, .bot, .bot, .bot, .bot, .bot, .bot, .bot, .bot, .bot, .bot, .bot, .bot, .bot, .bot, .bot, .bot, .bot, .bot, .bot, .bot, .bot, .bot, .bot, .bot, .bot, .bot, .bot, .bot, .bot, .bot, .bot, .bot, .bot, .bot, .bot, .bot, .bot, .bot, .bot, .bot, .bot, .bot, .bot, .bot, .bot, .bot, .bot, .bot, .bot, .bot, .bot, .bot, .bot, .bot, .bot, .bot, .bot, .bot], fun k => [.rw ((Vc.rep 64 0#32).l.map u32), .rw ((longA b k).l.map u32)], fun k => 16 - k, 0, Nat.zero_le _, ?_, ?_⟩
  · refine fits_same (q := [0, 1]) rfl rfl (by decide) ?_ ?_
    · try simp only [List.set_cons_zero, List.set_cons_succ, List.length_cons, List.length_nil, Nat.reduceAdd, List.cons_append, List.nil_append, zaQ, za7, zaR, zaS, zaT, za8, zaU, zaV, zaW, zaN, zai, zad, zae, zab, zan, zac, zaa u8 zai, zaa u32 zad, AV.ren, zaI, zaC, zaf u8 zai, zaf u32 zad, zaf i64 zab, zaf u64 zae, zaa u64 zae, zaa i64 zab, List.getElem?_cons_zero, List.getElem?_cons_succ, Option.map_some, zaX, zaY, za9, zaZ, zba, za0, true_and, and_true, or_true, true_or, reduceCtorEq, false_or, Option.some.injEq, Blk.rw.injEq, AV.sl.injEq, AV.ref.injEq, AV.ptr.injEq]
      try simp
    · try simp only [List.set_cons_zero, List.set_cons_succ, List.length_cons, List.length_nil, Nat.reduceAdd, List.cons_append, List.nil_append, zaQ, za7, zaR, zaS, zaT, za8, zaU, zaV, zaW, zaN, zai, zad, zae, zab, zan, zac, zaa u8 zai, zaa u32 zad, AV.ren, zaI, zaC, zaf u8 zai, zaf u32 zad, zaf i64 zab, zaf u64 zae, zaa u64 zae, zaa i64 zab, List.getElem?_cons_zero, List.getElem?_cons_succ, Option.map_some, zaX, zaY, za9, zaZ, zba, za0, true_and, and_true, or_true, true_or, reduceCtorEq, false_or, Option.some.injEq, Blk.rw.injEq, AV.sl.injEq, AV.ref.injEq, AV.ptr.injEq]
      try rfl
  · intro k hk
    have hl := (longA b k).h
    try simp -implicitDefEqProofs only [zaH, gl_k, zbb, zal T102, zag T91, zah T91, TB, SB, Int.reduceToNat, Nat.reduceAdd, Nat.reduceEqDiff, Nat.reduceLT, Nat.reduceMod, Nat.reducePow, Nat.reduceSub, if_true, reduceIte]
    refine ⟨fun hlt => ?_, fun hge => ?_⟩
    · repeat (with_reducible refine And.intro (by first | omega | decide | (unfold inI; omega) | (simp only [List.length_append, List.length_reverse, List.length_take, List.length_drop, List.length_cons, List.length_nil, List.length_map, List.length_replicate]; omega)) ?_)
      have e : (4 * (k : Int) + 4).toNat = 4 * k + 4 := by omega
      have e2 : (4 * (k : Int)).toNat = 4 * k := by omega
      rw [e, e2]
      refine (readBig_ok _ (by simp; omega)).pure rfl ?_
      rintro _ σ rfl
      refine ⟨rfl, ?_⟩
      try simp -implicitDefEqProofs only [zaH, gl_k, zbb, zal T102, zag T91, zah T91, TB, SB, Int.reduceToNat, Nat.reduceAdd, Nat.reduceEqDiff, Nat.reduceLT, Nat.reduceMod, Nat.reducePow, Nat.reduceSub, if_true, reduceIte]
      repeat (with_reducible refine And.intro (by first | omega | decide | (unfold inI; omega) | (simp only [List.length_append, List.length_reverse, List.length_take, List.length_drop, List.length_cons, List.length_nil, List.length_map, List.length_replicate]; omega)) ?_)
      rw [loopQ_normal]
      refine ⟨k + 1, by omega, by omega, fits_same (q := [0, 1]) rfl rfl (by decide) ?_ ?_⟩
      · try simp only [List.set_cons_zero, List.set_cons_succ, List.length_cons, List.length_nil, Nat.reduceAdd, List.cons_append, List.nil_append, zaQ, za7, zaR, zaS, zaT, za8, zaU, zaV, zaW, zaN, zai, zad, zae, zab, zan, zac, zaa u8 zai, zaa u32 zad, AV.ren, zaI, zaC, zaf u8 zai, zaf u32 zad, zaf i64 zab, zaf u64 zae, zaa u64 zae, zaa i64 zab, List.getElem?_cons_zero, List.getElem?_cons_succ, Option.map_some, zaX, zaY, za9, zaZ, zba, za0, true_and, and_true, or_true, true_or, reduceCtorEq, false_or, Option.some.injEq, Blk.rw.injEq, AV.sl.injEq, AV.ref.injEq, AV.ptr.injEq]
        try simp
      · try simp only [List.set_cons_zero, List.set_cons_succ, List.length_cons, List.length_nil, Nat.reduceAdd, List.cons_append, List.nil_append, zaQ, za7, zaR, zaS, zaT, za8, zaU, zaV, zaW, zaN, zai, zad, zae, zab, zan, zac, zaa u8 zai, zaa u32 zad, AV.ren, zaI, zaC, zaf u8 zai, zaf u32 zad, zaf i64 zab, zaf u64 zae, zaa u64 zae, zaa i64 zab, List.getElem?_cons_zero, List.getElem?_cons_succ, Option.map_some, zaX, zaY, za9, zaZ, zba, za0, true_and, and_true, or_true, true_or, reduceCtorEq, false_or, Option.some.injEq, Blk.rw.injEq, AV.sl.injEq, AV.ref.injEq, AV.ptr.injEq]
        try rfl
    · obtain rfl : k = 16 := by omega
      try simp -implicitDefEqProofs only [zaH, gl_k, zbb, zal T102, zag T91, zah T91, TB, SB, Int.reduceToNat, Nat.reduceAdd, Nat.reduceEqDiff, Nat.reduceLT, Nat.reduceMod, Nat.reducePow, Nat.reduceSub, if_true, reduceIte]
      rw [W_loop]
      refine ⟨Nat, fun j => j ≤ 48, fun j => [str b, .bot, .ptr 0 0, .ptr 1 0, .bot, i64 ((16 + j : Nat) : Int), .bot, .bot, .bot, .bot, .bot, .bot, .bot, .bot, .bot, .bot, .bot, .bot, .bot, .bot, .bot, .bot, .bot, .bot, .bot, .bot, .bot, .bot, .bot, .bot, .bot, .bot, .bot, .bot, .bot, .bot, .bot, .bot, .bot, .bot, .bot, .bot, .bot, .bot, .bot, .bot, .bot, .bot, .bot, .bot, .bot, .bot, .bot, .bot, .bot, .bot, .bot, .bot, .bot, .bot, .bot, .bot, .bot, .bot, .bot, .bot, .bot, .bot, .bot], fun j => [.rw ((Vc.rep 64 0#32).l.map u32), .rw ((longB b j).l.map u32)], fun j => 48 - j, 0, Nat.zero_le _, ?_, ?_⟩
      · refine fits_same (q := [0, 1]) rfl rfl (by decide) ?_ ?_
        · try simp only [List.set_cons_zero, List.set_cons_succ, List.length_cons, List.length_nil, Nat.reduceAdd, List.cons_append, List.nil_append, zaQ, za7, zaR, zaS, zaT, za8, zaU, zaV, zaW, zaN, zai, zad, zae, zab, zan, zac, zaa u8 zai, zaa u32 zad, AV.ren, zaI, zaC, zaf u8 zai, zaf u32 zad, zaf i64 zab, zaf u64 zae, zaa u64 zae, zaa i64 zab, List.getElem?_cons_zero, List.getElem?_cons_succ, Option.map_some, zaX, zaY, za9, zaZ, zba, za0, true_and, and_true, or_true, true_or, reduceCtorEq, false_or, Option.some.injEq, Blk.rw.injEq, AV.sl.injEq, AV.ref.injEq, AV.ptr.injEq]
          try simp
        · try simp only [List.set_cons_zero, List.set_cons_succ, List.length_cons, List.length_nil, Nat.reduceAdd, List.cons_append, List.nil_append, zaQ, za7, zaR, zaS, zaT, za8, zaU, zaV, zaW, zaN, zai, zad, zae, zab, zan, zac, zaa u8 zai, zaa u32 zad, AV.ren, zaI, zaC, zaf u8 zai, zaf u32 zad, zaf i64 zab, zaf u64 zae, zaa u64 zae, zaa i64 zab, List.getElem?_cons_zero, List.getElem?_cons_succ, Option.map_some, zaX, zaY, za9, zaZ, zba, za0, true_and, and_true, or_true, true_or, reduceCtorEq, false_or, Option.some.injEq, Blk.rw.injEq, AV.sl.injEq, AV.ref.injEq, AV.ptr.injEq]
          try rfl
      · intro j hj
        have hlj := (longB b j).h
        try simp -implicitDefEqProofs only [zaH, gl_k, zbb, zal T102, zag T91, zah T91, TB, SB, Int.reduceToNat, Nat.reduceAdd, Nat.reduceEqDiff, Nat.reduceLT, Nat.reduceMod, Nat.reducePow, Nat.reduceSub, if_true, reduceIte]
        refine ⟨fun hlt => ?_, fun hge => ?_⟩
        · refine W_draw (by kernel_rfl) (by kernel_rfl) ?_
          try simp -implicitDefEqProofs only [zaH, gl_k, zbb, zal T102, zag T91, zah T91, TB, SB, Int.reduceToNat, Nat.reduceAdd, Nat.reduceEqDiff, Nat.reduceLT, Nat.reduceMod, Nat.reducePow, Nat.reduceSub, if_true, reduceIte]
          repeat (with_reducible refine And.intro (by first | omega | decide | (unfold inI; omega) | (simp only [List.length_append, List.length_reverse, List.length_take, List.length_drop, List.length_cons, List.length_nil, List.length_map, List.length_replicate]; omega)) ?_)
          try simp -implicitDefEqProofs only [zaH, gl_k, zbb, zal T102, zag T91, zah T91, TB, SB, Int.reduceToNat, Nat.reduceAdd, Nat.reduceEqDiff, Nat.reduceLT, Nat.reduceMod, Nat.reducePow, Nat.reduceSub, if_true, reduceIte]
          rw [show ((16 + j : Nat) : Int) - 15 = ((16 + j - 15 : Nat) : Int) by omega, show ((16 + j : Nat) : Int) - 2 = ((16 + j - 2 : Nat) : Int) by omega]
          simp only [Int.toNat_natCast]
          refine (rol_ok _ _).pure rfl ?_
          rintro _ σ rfl
          refine ⟨rfl, ?_⟩
          try simp -implicitDefEqProofs only [zaH, gl_k, zbb, zal T102, zag T91, zah T91, TB, SB, Int.reduceToNat, Nat.reduceAdd, Nat.reduceEqDiff, Nat.reduceLT, Nat.reduceMod, Nat.reducePow, Nat.reduceSub, if_true, reduceIte]
          refine (rol_ok _ _).pure rfl ?_
          rintro _ σ rfl
          refine ⟨rfl, ?_⟩
          try simp -implicitDefEqProofs only [zaH, gl_k, zbb, zal T102, zag T91, zah T91, TB, SB, Int.reduceToNat, Nat.reduceAdd, Nat.reduceEqDiff, Nat.reduceLT, Nat.reduceMod, Nat.reducePow, Nat.reduceSub, if_true, reduceIte]
          refine (rol_ok _ _).pure rfl ?_
          rintro _ σ rfl
          refine ⟨rfl, ?_⟩
          try simp -implicitDefEqProofs only [zaH, gl_k, zbb, zal T102, zag T91, zah T91, TB, SB, Int.reduceToNat, Nat.reduceAdd, Nat.reduceEqDiff, Nat.reduceLT, Nat.reduceMod, Nat.reducePow, Nat.reduceSub, if_true, reduceIte]
          refine (rol_ok _ _).pure rfl ?_
          rintro _ σ rfl
          refine ⟨rfl, ?_⟩
          try simp -implicitDefEqProofs only [zaH, gl_k, zbb, zal T102, zag T91, zah T91, TB, SB, Int.reduceToNat, Nat.reduceAdd, Nat.reduceEqDiff, Nat.reduceLT, Nat.reduceMod, Nat.reducePow, Nat.reduceSub, if_true, reduceIte]
          refine W_drawE [15] (by kernel_rfl) (by kernel_rfl) (by kernel_rfl) ?_
          try simp -implicitDefEqProofs only [zaH, gl_k, zbb, zal T102, zag T91, zah T91, TB, SB, Int.reduceToNat, Nat.reduceAdd, Nat.reduceEqDiff, Nat.reduceLT, Nat.reduceMod, Nat.reducePow, Nat.reduceSub, if_true, reduceIte]
          repeat (with_reducible refine And.intro (by first | omega | decide | (unfold inI; omega) | (simp only [List.length_append, List.length_reverse, List.length_take, List.length_drop, List.length_cons, List.length_nil, List.length_map, List.length_replicate]; omega)) ?_)
          try simp -implicitDefEqProofs only [zaH, gl_k, zbb, zal T102, zag T91, zah T91, TB, SB, Int.reduceToNat, Nat.reduceAdd, Nat.reduceEqDiff, Nat.reduceLT, Nat.reduceMod, Nat.reducePow, Nat.reduceSub, if_true, reduceIte]
          repeat (with_reducible refine And.intro (by first | omega | decide | (unfold inI; omega) | (simp only [List.length_append, List.length_reverse, List.length_take, List.length_drop, List.length_cons, List.length_nil, List.length_map, List.length_replicate]; omega)) ?_)
          rw [loopQ_normal]
          refine ⟨j + 1, by omega, by omega, fits_same (q := [0, 1]) rfl rfl (by decide) ?_ ?_⟩
          · try simp only [List.set_cons_zero, List.set_cons_succ, List.length_cons, List.length_nil, Nat.reduceAdd, List.cons_append, List.nil_append, zaQ, za7, zaR, zaS, zaT, za8, zaU, zaV, zaW, zaN, zai, zad, zae, zab, zan, zac, zaa u8 zai, zaa u32 zad, AV.ren, zaI, zaC, zaf u8 zai, zaf u32 zad, zaf i64 zab, zaf u64 zae, zaa u64 zae, zaa i64 zab, List.getElem?_cons_zero, List.getElem?_cons_succ, Option.map_some, zaX, zaY, za9, zaZ, zba, za0, true_and, and_true, or_true, true_or, reduceCtorEq, false_or, Option.some.injEq, Blk.rw.injEq, AV.sl.injEq, AV.ref.injEq, AV.ptr.injEq]
            try simp
            try omega
          · try simp only [List.set_cons_zero, List.set_cons_succ, List.length_cons, List.length_nil, Nat.reduceAdd, List.cons_append, List.nil_append, zaQ, za7, zaR, zaS, zaT, za8, zaU, zaV, zaW, zaN, zai, zad, zae, zab, zan, zac, zaa u8 zai, zaa u32 zad, AV.ren, zaI, zaC, zaf u8 zai, zaf u32 zad, zaf i64 zab, zaf u64 zae, zaa u64 zae, zaa i64 zab, List.getElem?_cons_zero, List.getElem?_cons_succ, Option.map_some, zaX, zaY, za9, zaZ, zba, za0, true_and, and_true, or_true, true_or, reduceCtorEq, false_or, Option.some.injEq, Blk.rw.injEq, AV.sl.injEq, AV.ref.injEq, AV.ptr.injEq]
            simp only [longB, longF, lowS, highS]
            rw [show (((16 + j : Nat) : Int)).toNat = 16 + j by omega, show (((16 + j : Nat) : Int) - 16).toNat = 16 + j - 16 by omega, show (((16 + j : Nat) : Int) - 7).toNat = 16 + j - 7 by omega]
        · obtain rfl : j = 48 := by omega
          try simp -implicitDefEqProofs only [zaH, gl_k, zbb, zal T102, zag T91, zah T91, TB, SB, Int.reduceToNat, Nat.reduceAdd, Nat.reduceEqDiff, Nat.reduceLT, Nat.reduceMod, Nat.reducePow, Nat.reduceSub, if_true, reduceIte]
          exact endQ_agg32 rfl

def foldV (v : Vc (BitVec 32) 8) (w : Vc (BitVec 32) 64) : Nat → Vc (BitVec 32) 8
  | 0 => v
  | k + 1 => stepV (foldV v w k) (kL.getD k 0#32 + w.l.getD k 0#32)
def addV (y v : Vc (BitVec 32) 8) : Nat → Vc (BitVec 32) 8
  | 0 => y
  | k + 1 => (addV y v k).set k ((addV y v k).l.getD k 0#32 + v.l.getD k 0#32)
/-- The orders in which both names get what they are told. -/
def behindTree : Tr := (.br 0 (.br 1 (.br 2 (.br 3 (.br 4 (.br 5 (.br 6 .done .nil) .nil) .nil) (.br 4 (.br 3 (.br 5 (.br 6 .done .nil) .nil) .nil) .nil)) (.br 3 (.br 2 (.br 4 (.br 5 (.br 6 .done .nil) .nil) .nil) (.br 4 (.br 2 (.br 5 (.br 6 .done .nil) .nil) (.br 5 (.br 2 (.br 6 .done .nil) .nil) .nil)) .nil)) (.br 4 (.br 2 (.br 3 (.br 5 (.br 6 .done .nil) .nil) .nil) (.br 3 (.br 2 (.br 5 (.br 6 .done .nil) .nil) (.br 5 (.br 2 (.br 6 .done .nil) .nil) .nil)) .nil)) .nil))) (.br 2 (.br 1 (.br 3 (.br 4 (.br 5 (.br 6 .done .nil) .nil) .nil) (.br 4 (.br 3 (.br 5 (.br 6 .done .nil) .nil) .nil) .nil)) (.br 3 (.br 1 (.br 4 (.br 5 (.br 6 .done .nil) .nil) .nil) (.br 4 (.br 1 (.br 5 (.br 6 .done .nil) .nil) .nil) .nil)) (.br 4 (.br 1 (.br 3 (.br 5 (.br 6 .done .nil) .nil) .nil) (.br 3 (.br 1 (.br 5 (.br 6 .done .nil) .nil) .nil) .nil)) .nil))) (.br 3 (.br 1 (.br 2 (.br 4 (.br 5 (.br 6 .done .nil) .nil) .nil) (.br 4 (.br 2 (.br 5 (.br 6 .done .nil) .nil) (.br 5 (.br 2 (.br 6 .done .nil) .nil) .nil)) .nil)) (.br 2 (.br 1 (.br 4 (.br 5 (.br 6 .done .nil) .nil) .nil) (.br 4 (.br 1 (.br 5 (.br 6 .done .nil) .nil) .nil) .nil)) (.br 4 (.br 1 (.br 2 (.br 5 (.br 6 .done .nil) .nil) (.br 5 (.br 2 (.br 6 .done .nil) .nil) .nil)) (.br 2 (.br 1 (.br 5 (.br 6 .done .nil) .nil) .nil) .nil)) .nil))) (.br 4 (.br 1 (.br 2 (.br 3 (.br 5 (.br 6 .done .nil) .nil) .nil) (.br 3 (.br 2 (.br 5 (.br 6 .done .nil) .nil) (.br 5 (.br 2 (.br 6 .done .nil) .nil) .nil)) .nil)) (.br 2 (.br 1 (.br 3 (.br 5 (.br 6 .done .nil) .nil) .nil) (.br 3 (.br 1 (.br 5 (.br 6 .done .nil) .nil) .nil) .nil)) (.br 3 (.br 1 (.br 2 (.br 5 (.br 6 .done .nil) .nil) (.br 5 (.br 2 (.br 6 .done .nil) .nil) .nil)) (.br 2 (.br 1 (.br 5 (.br 6 .done .nil) .nil) .nil) .nil)) .nil))) .nil)))) (.br 2 (.br 0 (.br 1 (.br 3 (.br 4 (.br 5 (.br 6 .done .nil) .nil) .nil) (.br 4 (.br 3 (.br 5 (.br 6 .done .nil) .nil) .nil) .nil)) (.br 3 (.br 1 (.br 4 (.br 5 (.br 6 .done .nil) .nil) .nil) (.br 4 (.br 1 (.br 5 (.br 6 .done .nil) .nil) .nil) .nil)) (.br 4 (.br 1 (.br 3 (.br 5 (.br 6 .done .nil) .nil) .nil) (.br 3 (.br 1 (.br 5 (.br 6 .done .nil) .nil) .nil) .nil)) .nil))) (.br 3 (.br 0 (.br 1 (.br 4 (.br 5 (.br 6 .done .nil) .nil) .nil) (.br 4 (.br 1 (.br 5 (.br 6 .done .nil) .nil) .nil) .nil)) (.br 4 (.br 0 (.br 1 (.br 5 (.br 6 .done .nil) .nil) .nil) .nil) .nil)) (.br 4 (.br 0 (.br 1 (.br 3 (.br 5 (.br 6 .done .nil) .nil) .nil) (.br 3 (.br 1 (.br 5 (.br 6 .done .nil) .nil) .nil) .nil)) (.br 3 (.br 0 (.br 1 (.br 5 (.br 6 .done .nil) .nil) .nil) .nil) .nil)) .nil))) (.br 3 (.br 0 (.br 1 (.br 2 (.br 4 (.br 5 (.br 6 .done .nil) .nil) .nil) (.br 4 (.br 2 (.br 5 (.br 6 .done .nil) .nil) (.br 5 (.br 2 (.br 6 .done .nil) .nil) .nil)) .nil)) (.br 2 (.br 1 (.br 4 (.br 5 (.br 6 .done .nil) .nil) .nil) (.br 4 (.br 1 (.br 5 (.br 6 .done .nil) .nil) .nil) .nil)) (.br 4 (.br 1 (.br 2 (.br 5 (.br 6 .done .nil) .nil) (.br 5 (.br 2 (.br 6 .done .nil) .nil) .nil)) (.br 2 (.br 1 (.br 5 (.br 6 .done .nil) .nil) .nil) .nil)) .nil))) (.br 2 (.br 0 (.br 1 (.br 4 (.br 5 (.br 6 .done .nil) .nil) .nil) (.br 4 (.br 1 (.br 5 (.br 6 .done .nil) .nil) .nil) .nil)) (.br 4 (.br 0 (.br 1 (.br 5 (.br 6 .done .nil) .nil) .nil) .nil) .nil)) (.br 4 (.br 0 (.br 1 (.br 2 (.br 5 (.br 6 .done .nil) .nil) (.br 5 (.br 2 (.br 6 .done .nil) .nil) .nil)) (.br 2 (.br 1 (.br 5 (.br 6 .done .nil) .nil) .nil) .nil)) (.br 2 (.br 0 (.br 1 (.br 5 (.br 6 .done .nil) .nil) .nil) .nil) .nil)) .nil))) (.br 4 (.br 0 (.br 1 (.br 2 (.br 3 (.br 5 (.br 6 .done .nil) .nil) .nil) (.br 3 (.br 2 (.br 5 (.br 6 .done .nil) .nil) (.br 5 (.br 2 (.br 6 .done .nil) .nil) .nil)) .nil)) (.br 2 (.br 1 (.br 3 (.br 5 (.br 6 .done .nil) .nil) .nil) (.br 3 (.br 1 (.br 5 (.br 6 .done .nil) .nil) .nil) .nil)) (.br 3 (.br 1 (.br 2 (.br 5 (.br 6 .done .nil) .nil) (.br 5 (.br 2 (.br 6 .done .nil) .nil) .nil)) (.br 2 (.br 1 (.br 5 (.br 6 .done .nil) .nil) .nil) .nil)) .nil))) (.br 2 (.br 0 (.br 1 (.br 3 (.br 5 (.br 6 .done .nil) .nil) .nil) (.br 3 (.br 1 (.br 5 (.br 6 .done .nil) .nil) .nil) .nil)) (.br 3 (.br 0 (.br 1 (.br 5 (.br 6 .done .nil) .nil) .nil) .nil) .nil)) (.br 3 (.br 0 (.br 1 (.br 2 (.br 5 (.br 6 .done .nil) .nil) (.br 5 (.br 2 (.br 6 .done .nil) .nil) .nil)) (.br 2 (.br 1 (.br 5 (.br 6 .done .nil) .nil) .nil) .nil)) (.br 2 (.br 0 (.br 1 (.br 5 (.br 6 .done .nil) .nil) .nil) .nil) .nil)) .nil))) .nil))))
/-- The eight behind a block. -/
def behindV (v : Vc (BitVec 32) 8) (b : List UInt8) : Vc (BitVec 32) 8 := addV (foldV v (longB b 48) 64) v 8
theorem behind_ok (v : Vc (BitVec 32) 8) (b : List UInt8) (hb : b.length = 64) : ACalls Tryd.prog 66 [.agg (v.l.map u32), str b] [] (fun x _ => x = .ret (.agg ((behindV v b).l.map u32))) := by
  refine ACalls.body T_ok Tryd.func66 (by kernel_rfl) rfl Tryd.ntmps66 (congrArg Array.toList Tryd.results66) ?_
  try simp -implicitDefEqProofs only [zaH, gl_k, zbb, zal T102, zag T91, zah T91, TB, SB, Int.reduceToNat, Nat.reduceAdd, Nat.reduceEqDiff, Nat.reduceLT, Nat.reduceMod, Nat.reducePow, Nat.reduceSub, if_true, reduceIte]
  have hc : ∀ (σ : Store) (K : AEnd → Store → Prop), K (.ret (.agg ((longB b 48).l.map u32))) σ → ACalls Tryd.prog 78 [str b] σ K := fun σ K hk => (long_ok b hb).pure rfl (by
    rintro _ σ' rfl
    exact ⟨by simp [AEnd.noid, AV.ren, zak], hk⟩)
  refine W_drawT behindTree ([.bot, str b, .ptr 0 0, .bot, .ptr 1 0, .ptr 2 0, .ptr 3 0, .bot, .bot, .bot, .bot, .bot, .bot, .bot, .bot, .bot, .bot, .bot, .bot, .bot, .bot, .bot, .bot, .bot, .bot, .bot, .bot, .bot, .bot, .bot, .bot, .bot, .bot, .bot, .bot, .bot, .bot, .bot]) [.rw (v.l.map u32), .rw ((Vc.rep 8 0#32).l.map u32), .rw ((longB b 48).l.map u32), .rw (v.l.map u32)] (by kernel_rfl) (by kernel_rfl) ?_ ?_
  · unfold behindTree
    try simp -implicitDefEqProofs only [zaH, gl_k, zbb, zal T102, zag T91, zah T91, TB, SB, Int.reduceToNat, Nat.reduceAdd, Nat.reduceEqDiff, Nat.reduceLT, Nat.reduceMod, Nat.reducePow, Nat.reduceSub, if_true, reduceIte]
    repeat' (first | (with_reducible refine And.intro ?_ ?_) | (refine hc _ _ ?_; try simp -implicitDefEqProofs only [zaH, gl_k, zbb, zal T102, zag T91, zah T91, TB, SB, Int.reduceToNat, Nat.reduceAdd, Nat.reduceEqDiff, Nat.reduceLT, Nat.reduceMod, Nat.reducePow, Nat.reduceSub, if_true, reduceIte]))
    all_goals first
      | (refine fits_same (q := [0, 1, 2, 3]) rfl rfl (by decide) ?_ ?_ <;> ((try simp only [List.set_cons_zero, List.set_cons_succ, List.length_cons, List.length_nil, Nat.reduceAdd, List.cons_append, List.nil_append, zaQ, za7, zaR, zaS, zaT, za8, zaU, zaV, zaW, zaN, zai, zad, zae, zab, zan, zac, zaa u8 zai, zaa u32 zad, AV.ren, zaI, zaC, zaf u8 zai, zaf u32 zad, zaf i64 zab, zaf u64 zae, zaa u64 zae, zaa i64 zab, List.getElem?_cons_zero, List.getElem?_cons_succ, Option.map_some, zaX, zaY, za9, zaZ, zba, za0, true_and, and_true, or_true, true_or, reduceCtorEq, false_or, Option.some.injEq, Blk.rw.injEq, AV.sl.injEq, AV.ref.injEq, AV.ptr.injEq]); done))
      | (refine fits_same (q := [0, 1, 3, 2]) rfl rfl (by decide) ?_ ?_ <;> ((try simp only [List.set_cons_zero, List.set_cons_succ, List.length_cons, List.length_nil, Nat.reduceAdd, List.cons_append, List.nil_append, zaQ, za7, zaR, zaS, zaT, za8, zaU, zaV, zaW, zaN, zai, zad, zae, zab, zan, zac, zaa u8 zai, zaa u32 zad, AV.ren, zaI, zaC, zaf u8 zai, zaf u32 zad, zaf i64 zab, zaf u64 zae, zaa u64 zae, zaa i64 zab, List.getElem?_cons_zero, List.getElem?_cons_succ, Option.map_some, zaX, zaY, za9, zaZ, zba, za0, true_and, and_true, or_true, true_or, reduceCtorEq, false_or, Option.some.injEq, Blk.rw.injEq, AV.sl.injEq, AV.ref.injEq, AV.ptr.injEq]); done))
  · have hkl : kL.length = 64 := rfl
    try simp -implicitDefEqProofs only [zaH, gl_k, zbb, zal T102, zag T91, zah T91, TB, SB, Int.reduceToNat, Nat.reduceAdd, Nat.reduceEqDiff, Nat.reduceLT, Nat.reduceMod, Nat.reducePow, Nat.reduceSub, if_true, reduceIte]
    rw [W_loop]
    refine ⟨Nat, fun k => k ≤ 64, fun k => [.bot, .bot, .ptr 0 0, .bot, .ptr 1 0, .ptr 2 0, .ptr 3 0, .bot, .bot, .bot, .bot, .bot, i64 k, .bot, .bot, .bot, .bot, .bot, .bot, .bot, .bot, .bot, .bot, .bot, .bot, .bot, .bot, .bot, .bot, .bot, .bot, .bot, .bot, .bot, .bot, .bot, .bot, .bot], fun k => [.rw (v.l.map u32), .rw ((Vc.rep 8 0#32).l.map u32), .rw ((longB b 48).l.map u32), .rw ((foldV v (longB b 48) k).l.map u32)], fun k => 64 - k, 0, Nat.zero_le _, ?_, ?_⟩
    · refine fits_same (q := [0, 1, 2, 3]) rfl rfl (by decide) ?_ ?_
      · try simp only [List.set_cons_zero, List.set_cons_succ, List.length_cons, List.length_nil, Nat.reduceAdd, List.cons_append, List.nil_append, zaQ, za7, zaR, zaS, zaT, za8, zaU, zaV, zaW, zaN, zai, zad, zae, zab, zan, zac, zaa u8 zai, zaa u32 zad, AV.ren, zaI, zaC, zaf u8 zai, zaf u32 zad, zaf i64 zab, zaf u64 zae, zaa u64 zae, zaa i64 zab, List.getElem?_cons_zero, List.getElem?_cons_succ, Option.map_some, zaX, zaY, za9, zaZ, zba, za0, true_and, and_true, or_true, true_or, reduceCtorEq, false_or, Option.some.injEq, Blk.rw.injEq, AV.sl.injEq, AV.ref.injEq, AV.ptr.injEq]
        try simp
      · try simp only [List.set_cons_zero, List.set_cons_succ, List.length_cons, List.length_nil, Nat.reduceAdd, List.cons_append, List.nil_append, zaQ, za7, zaR, zaS, zaT, za8, zaU, zaV, zaW, zaN, zai, zad, zae, zab, zan, zac, zaa u8 zai, zaa u32 zad, AV.ren, zaI, zaC, zaf u8 zai, zaf u32 zad, zaf i64 zab, zaf u64 zae, zaa u64 zae, zaa i64 zab, List.getElem?_cons_zero, List.getElem?_cons_succ, Option.map_some, zaX, zaY, za9, zaZ, zba, za0, true_and, and_true, or_true, true_or, reduceCtorEq, false_or, Option.some.injEq, Blk.rw.injEq, AV.sl.injEq, AV.ref.injEq, AV.ptr.injEq]
        try rfl
    · intro k hk
      have hlw := (longB b 48).h
      try simp -implicitDefEqProofs only [zaH, gl_k, zbb, zal T102, zag T91, zah T91, TB, SB, Int.reduceToNat, Nat.reduceAdd, Nat.reduceEqDiff, Nat.reduceLT, Nat.reduceMod, Nat.reducePow, Nat.reduceSub, if_true, reduceIte]
      refine ⟨fun hlt => ?_, fun hge => ?_⟩
      · refine W_drawE [9] (by kernel_rfl) (by kernel_rfl) (by kernel_rfl) ?_
        try simp -implicitDefEqProofs only [zaH, gl_k, zbb, zal T102, zag T91, zah T91, TB, SB, Int.reduceToNat, Nat.reduceAdd, Nat.reduceEqDiff, Nat.reduceLT, Nat.reduceMod, Nat.reducePow, Nat.reduceSub, if_true, reduceIte]
        repeat (with_reducible refine And.intro (by first | omega | decide | (unfold inI; omega) | (simp only [List.length_append, List.length_reverse, List.length_take, List.length_drop, List.length_cons, List.length_nil, List.length_map, List.length_replicate]; omega)) ?_)
        refine exq_ok (step_ok _ _) (by first | rfl | simp [renL, AV.ren, zak, zaa str zac, zai, zad, zae, zab, zan, zac]) (by first | rfl | simp [AEnd.noid, AV.ren, renL, zak, zai, zad, zae, zab, zan, zac]) ?_
        try simp -implicitDefEqProofs only [zaH, gl_k, zbb, zal T102, zag T91, zah T91, TB, SB, Int.reduceToNat, Nat.reduceAdd, Nat.reduceEqDiff, Nat.reduceLT, Nat.reduceMod, Nat.reducePow, Nat.reduceSub, if_true, reduceIte]
        repeat (with_reducible refine And.intro (by first | omega | decide | (unfold inI; omega) | (simp only [List.length_append, List.length_reverse, List.length_take, List.length_drop, List.length_cons, List.length_nil, List.length_map, List.length_replicate]; omega)) ?_)
        rw [loopQ_normal]
        refine ⟨k + 1, by omega, by omega, fits_same (q := [0, 1, 2, 3]) rfl rfl (by decide) ?_ ?_⟩
        · try simp only [List.set_cons_zero, List.set_cons_succ, List.length_cons, List.length_nil, Nat.reduceAdd, List.cons_append, List.nil_append, zaQ, za7, zaR, zaS, zaT, za8, zaU, zaV, zaW, zaN, zai, zad, zae, zab, zan, zac, zaa u8 zai, zaa u32 zad, AV.ren, zaI, zaC, zaf u8 zai, zaf u32 zad, zaf i64 zab, zaf u64 zae, zaa u64 zae, zaa i64 zab, List.getElem?_cons_zero, List.getElem?_cons_succ, Option.map_some, zaX, zaY, za9, zaZ, zba, za0, true_and, and_true, or_true, true_or, reduceCtorEq, false_or, Option.some.injEq, Blk.rw.injEq, AV.sl.injEq, AV.ref.injEq, AV.ptr.injEq]
          try simp
        · try simp only [List.set_cons_zero, List.set_cons_succ, List.length_cons, List.length_nil, Nat.reduceAdd, List.cons_append, List.nil_append, zaQ, za7, zaR, zaS, zaT, za8, zaU, zaV, zaW, zaN, zai, zad, zae, zab, zan, zac, zaa u8 zai, zaa u32 zad, AV.ren, zaI, zaC, zaf u8 zai, zaf u32 zad, zaf i64 zab, zaf u64 zae, zaa u64 zae, zaa i64 zab, List.getElem?_cons_zero, List.getElem?_cons_succ, Option.map_some, zaX, zaY, za9, zaZ, zba, za0, true_and, and_true, or_true, true_or, reduceCtorEq, false_or, Option.some.injEq, Blk.rw.injEq, AV.sl.injEq, AV.ref.injEq, AV.ptr.injEq]
          try rfl
      · obtain rfl : k = 64 := by omega
        try simp -implicitDefEqProofs only [zaH, gl_k, zbb, zal T102, zag T91, zah T91, TB, SB, Int.reduceToNat, Nat.reduceAdd, Nat.reduceEqDiff, Nat.reduceLT, Nat.reduceMod, Nat.reducePow, Nat.reduceSub, if_true, reduceIte]
        rw [W_loop]
        refine ⟨Nat, fun k => k ≤ 8, fun k => [.bot, .bot, .ptr 0 0, .bot, .ptr 1 0, .bot, .ptr 3 0, .bot, .bot, .bot, .bot, .bot, .bot, .bot, .bot, .bot, .bot, .bot, .bot, .bot, .bot, .bot, .bot, .bot, .bot, i64 k, .bot, .bot, .bot, .bot, .bot, .bot, .bot, .bot, .bot, .bot, .bot, .bot], fun k => [.rw (v.l.map u32), .rw ((Vc.rep 8 0#32).l.map u32), .rw ((longB b 48).l.map u32), .rw ((addV (foldV v (longB b 48) 64) v k).l.map u32)], fun k => 8 - k, 0, Nat.zero_le _, ?_, ?_⟩
        · refine fits_same (q := [0, 1, 2, 3]) rfl rfl (by decide) ?_ ?_
          · try simp only [List.set_cons_zero, List.set_cons_succ, List.length_cons, List.length_nil, Nat.reduceAdd, List.cons_append, List.nil_append, zaQ, za7, zaR, zaS, zaT, za8, zaU, zaV, zaW, zaN, zai, zad, zae, zab, zan, zac, zaa u8 zai, zaa u32 zad, AV.ren, zaI, zaC, zaf u8 zai, zaf u32 zad, zaf i64 zab, zaf u64 zae, zaa u64 zae, zaa i64 zab, List.getElem?_cons_zero, List.getElem?_cons_succ, Option.map_some, zaX, zaY, za9, zaZ, zba, za0, true_and, and_true, or_true, true_or, reduceCtorEq, false_or, Option.some.injEq, Blk.rw.injEq, AV.sl.injEq, AV.ref.injEq, AV.ptr.injEq]
            try simp
          · try simp only [List.set_cons_zero, List.set_cons_succ, List.length_cons, List.length_nil, Nat.reduceAdd, List.cons_append, List.nil_append, zaQ, za7, zaR, zaS, zaT, za8, zaU, zaV, zaW, zaN, zai, zad, zae, zab, zan, zac, zaa u8 zai, zaa u32 zad, AV.ren, zaI, zaC, zaf u8 zai, zaf u32 zad, zaf i64 zab, zaf u64 zae, zaa u64 zae, zaa i64 zab, List.getElem?_cons_zero, List.getElem?_cons_succ, Option.map_some, zaX, zaY, za9, zaZ, zba, za0, true_and, and_true, or_true, true_or, reduceCtorEq, false_or, Option.some.injEq, Blk.rw.injEq, AV.sl.injEq, AV.ref.injEq, AV.ptr.injEq]
            try rfl
        · intro k hk
          have hlv := v.h
          have hly := (addV (foldV v (longB b 48) 64) v k).h
          try simp -implicitDefEqProofs only [zaH, gl_k, zbb, zal T102, zag T91, zah T91, TB, SB, Int.reduceToNat, Nat.reduceAdd, Nat.reduceEqDiff, Nat.reduceLT, Nat.reduceMod, Nat.reducePow, Nat.reduceSub, if_true, reduceIte]
          refine ⟨fun hlt => ?_, fun hge => ?_⟩
          · refine W_drawE [8] (by kernel_rfl) (by kernel_rfl) (by kernel_rfl) ?_
            try simp -implicitDefEqProofs only [zaH, gl_k, zbb, zal T102, zag T91, zah T91, TB, SB, Int.reduceToNat, Nat.reduceAdd, Nat.reduceEqDiff, Nat.reduceLT, Nat.reduceMod, Nat.reducePow, Nat.reduceSub, if_true, reduceIte]
            repeat (with_reducible refine And.intro (by first | omega | decide | (unfold inI; omega) | (simp only [List.length_append, List.length_reverse, List.length_take, List.length_drop, List.length_cons, List.length_nil, List.length_map, List.length_replicate]; omega)) ?_)
            try simp -implicitDefEqProofs only [zaH, gl_k, zbb, zal T102, zag T91, zah T91, TB, SB, Int.reduceToNat, Nat.reduceAdd, Nat.reduceEqDiff, Nat.reduceLT, Nat.reduceMod, Nat.reducePow, Nat.reduceSub, if_true, reduceIte]
            repeat (with_reducible refine And.intro (by first | omega | decide | (unfold inI; omega) | (simp only [List.length_append, List.length_reverse, List.length_take, List.length_drop, List.length_cons, List.length_nil, List.length_map, List.length_replicate]; omega)) ?_)
            rw [loopQ_normal]
            refine ⟨k + 1, by omega, by omega, fits_same (q := [0, 1, 2, 3]) rfl rfl (by decide) ?_ ?_⟩
            · try simp only [List.set_cons_zero, List.set_cons_succ, List.length_cons, List.length_nil, Nat.reduceAdd, List.cons_append, List.nil_append, zaQ, za7, zaR, zaS, zaT, za8, zaU, zaV, zaW, zaN, zai, zad, zae, zab, zan, zac, zaa u8 zai, zaa u32 zad, AV.ren, zaI, zaC, zaf u8 zai, zaf u32 zad, zaf i64 zab, zaf u64 zae, zaa u64 zae, zaa i64 zab, List.getElem?_cons_zero, List.getElem?_cons_succ, Option.map_some, zaX, zaY, za9, zaZ, zba, za0, true_and, and_true, or_true, true_or, reduceCtorEq, false_or, Option.some.injEq, Blk.rw.injEq, AV.sl.injEq, AV.ref.injEq, AV.ptr.injEq]
              try simp
            · try simp only [List.set_cons_zero, List.set_cons_succ, List.length_cons, List.length_nil, Nat.reduceAdd, List.cons_append, List.nil_append, zaQ, za7, zaR, zaS, zaT, za8, zaU, zaV, zaW, zaN, zai, zad, zae, zab, zan, zac, zaa u8 zai, zaa u32 zad, AV.ren, zaI, zaC, zaf u8 zai, zaf u32 zad, zaf i64 zab, zaf u64 zae, zaa u64 zae, zaa i64 zab, List.getElem?_cons_zero, List.getElem?_cons_succ, Option.map_some, zaX, zaY, za9, zaZ, zba, za0, true_and, and_true, or_true, true_or, reduceCtorEq, false_or, Option.some.injEq, Blk.rw.injEq, AV.sl.injEq, AV.ref.injEq, AV.ptr.injEq]
              try rfl
          · obtain rfl : k = 8 := by omega
            try simp -implicitDefEqProofs only [zaH, gl_k, zbb, zal T102, zag T91, zah T91, TB, SB, Int.reduceToNat, Nat.reduceAdd, Nat.reduceEqDiff, Nat.reduceLT, Nat.reduceMod, Nat.reducePow, Nat.reduceSub, if_true, reduceIte]
            exact endQ_agg32 rfl

def be4 (x : BitVec 32) : List UInt8 := bigL (x.setWidth 64) 4
theorem be4_length (x : BitVec 32) : (be4 x).length = 4 := by simp [be4, bigL, lowL]
def textK (v : Vc (BitVec 32) 8) : Nat → List UInt8
  | 0 => []
  | k + 1 => textK v k ++ be4 (v.l.getD k 0#32)
theorem textK_length (v : Vc (BitVec 32) 8) : ∀ k, (textK v k).length = 4 * k
  | 0 => rfl
  | k + 1 => by simp only [textK, List.length_append, textK_length v k, be4_length]; omega
theorem text8_ok (v : Vc (BitVec 32) 8) : ACalls Tryd.prog 70 [.agg (v.l.map u32)] [] (fun x _ => x = .ret (str (textK v 8))) := by
  refine ACalls.body T_ok Tryd.func70 (by kernel_rfl) rfl Tryd.ntmps70 (congrArg Array.toList Tryd.results70) ?_
  try simp -implicitDefEqProofs only [zaH, gl_k, zbb, zal T102, zag T91, zah T91, TB, SB, Int.reduceToNat, Nat.reduceAdd, Nat.reduceEqDiff, Nat.reduceLT, Nat.reduceMod, Nat.reducePow, Nat.reduceSub, if_true, reduceIte]
  rw [W_loop]
  refine ⟨Nat, fun k => k ≤ 8, fun k => [.bot, .bot, .bot, str (textK v k), .bot, .bot, .agg (v.l.map u32), i64 k, .bot, .bot, .bot, .bot, .bot, .bot, .bot, .bot, .bot], fun k => [.rw (v.l.map u32)], fun k => 8 - k, 0, Nat.zero_le _, ?_, ?_⟩
  · refine fits_same (q := [0]) rfl rfl (by decide) ?_ ?_
    · try simp only [List.set_cons_zero, List.set_cons_succ, List.length_cons, List.length_nil, Nat.reduceAdd, List.cons_append, List.nil_append, zaQ, za7, zaR, zaS, zaT, za8, zaU, zaV, zaW, zaN, zai, zad, zae, zab, zan, zac, zaa u8 zai, zaa u32 zad, AV.ren, zaI, zaC, zaf u8 zai, zaf u32 zad, zaf i64 zab, zaf u64 zae, zaa u64 zae, zaa i64 zab, List.getElem?_cons_zero, List.getElem?_cons_succ, Option.map_some, zaX, zaY, za9, zaZ, zba, za0, true_and, and_true, or_true, true_or, reduceCtorEq, false_or, Option.some.injEq, Blk.rw.injEq, AV.sl.injEq, AV.ref.injEq, AV.ptr.injEq]
      try simp [textK]
    · try simp only [List.set_cons_zero, List.set_cons_succ, List.length_cons, List.length_nil, Nat.reduceAdd, List.cons_append, List.nil_append, zaQ, za7, zaR, zaS, zaT, za8, zaU, zaV, zaW, zaN, zai, zad, zae, zab, zan, zac, zaa u8 zai, zaa u32 zad, AV.ren, zaI, zaC, zaf u8 zai, zaf u32 zad, zaf i64 zab, zaf u64 zae, zaa u64 zae, zaa i64 zab, List.getElem?_cons_zero, List.getElem?_cons_succ, Option.map_some, zaX, zaY, za9, zaZ, zba, za0, true_and, and_true, or_true, true_or, reduceCtorEq, false_or, Option.some.injEq, Blk.rw.injEq, AV.sl.injEq, AV.ref.injEq, AV.ptr.injEq]
      try rfl
  · intro k hk
    have hlv := v.h
    have hlt := textK_length v k
    try simp -implicitDefEqProofs only [zaH, gl_k, zbb, zal T102, zag T91, zah T91, TB, SB, Int.reduceToNat, Nat.reduceAdd, Nat.reduceEqDiff, Nat.reduceLT, Nat.reduceMod, Nat.reducePow, Nat.reduceSub, if_true, reduceIte]
    refine ⟨fun hlt => ?_, fun hge => ?_⟩
    · repeat (with_reducible refine And.intro (by first | omega | decide | (unfold inI; omega) | (simp only [List.length_append, List.length_reverse, List.length_take, List.length_drop, List.length_cons, List.length_nil, List.length_map, List.length_replicate]; omega)) ?_)
      try simp -implicitDefEqProofs only [zaH, gl_k, zbb, zal T102, zag T91, zah T91, TB, SB, Int.reduceToNat, Nat.reduceAdd, Nat.reduceEqDiff, Nat.reduceLT, Nat.reduceMod, Nat.reducePow, Nat.reduceSub, if_true, reduceIte]
      repeat (with_reducible refine And.intro (by first | omega | decide | (unfold inI; omega) | (simp only [List.length_append, List.length_reverse, List.length_take, List.length_drop, List.length_cons, List.length_nil, List.length_map, List.length_replicate]; omega)) ?_)
      refine (big_ok _ _).pure rfl ?_
      rintro _ σ rfl
      refine ⟨rfl, ?_⟩
      try simp -implicitDefEqProofs only [zaH, gl_k, zbb, zal T102, zag T91, zah T91, TB, SB, Int.reduceToNat, Nat.reduceAdd, Nat.reduceEqDiff, Nat.reduceLT, Nat.reduceMod, Nat.reducePow, Nat.reduceSub, if_true, reduceIte]
      rw [show clamp8 4 = 4 from rfl, Int.toNat_natCast]
      have hbl := be4_length (v.l.getD k 0#32)
      unfold be4 at hbl
      repeat (with_reducible refine And.intro (by first | omega | decide | (unfold inI; omega) | (simp only [List.length_append, List.length_reverse, List.length_take, List.length_drop, List.length_cons, List.length_nil, List.length_map, List.length_replicate]; omega)) ?_)
      rw [loopQ_normal]
      refine ⟨k + 1, by omega, by omega, fits_same (q := [0]) rfl rfl (by decide) ?_ ?_⟩
      · try simp only [List.set_cons_zero, List.set_cons_succ, List.length_cons, List.length_nil, Nat.reduceAdd, List.cons_append, List.nil_append, zaQ, za7, zaR, zaS, zaT, za8, zaU, zaV, zaW, zaN, zai, zad, zae, zab, zan, zac, zaa u8 zai, zaa u32 zad, AV.ren, zaI, zaC, zaf u8 zai, zaf u32 zad, zaf i64 zab, zaf u64 zae, zaa u64 zae, zaa i64 zab, List.getElem?_cons_zero, List.getElem?_cons_succ, Option.map_some, zaX, zaY, za9, zaZ, zba, za0, true_and, and_true, or_true, true_or, reduceCtorEq, false_or, Option.some.injEq, Blk.rw.injEq, AV.sl.injEq, AV.ref.injEq, AV.ptr.injEq]
        try simp
        exact .inr (by simp [textK, be4])
      · try simp only [List.set_cons_zero, List.set_cons_succ, List.length_cons, List.length_nil, Nat.reduceAdd, List.cons_append, List.nil_append, zaQ, za7, zaR, zaS, zaT, za8, zaU, zaV, zaW, zaN, zai, zad, zae, zab, zan, zac, zaa u8 zai, zaa u32 zad, AV.ren, zaI, zaC, zaf u8 zai, zaf u32 zad, zaf i64 zab, zaf u64 zae, zaa u64 zae, zaa i64 zab, List.getElem?_cons_zero, List.getElem?_cons_succ, Option.map_some, zaX, zaY, za9, zaZ, zba, za0, true_and, and_true, or_true, true_or, reduceCtorEq, false_or, Option.some.injEq, Blk.rw.injEq, AV.sl.injEq, AV.ref.injEq, AV.ptr.injEq]
        try rfl
    · obtain rfl : k = 8 := by omega
      try simp -implicitDefEqProofs only [zaH, gl_k, zbb, zal T102, zag T91, zah T91, TB, SB, Int.reduceToNat, Nat.reduceAdd, Nat.reduceEqDiff, Nat.reduceLT, Nat.reduceMod, Nat.reducePow, Nat.reduceSub, if_true, reduceIte]
      exact endQ_str rfl

end Go.Proofs.YtcabljgghammoaaDoor
end

section
namespace Go.Proofs.YtcabljgghammoaaDoor
open Go Go.Eng



/-! the state of a sum in memory -/
def stC (v : Vc (BitVec 32) 8) (r : List UInt8) (n : Int) : List AV := v.l.map u32 ++ [str r, i64 n]
theorem zaD (q : List Nat) (v : Vc (BitVec 32) 8) (r : List UInt8) (n : Int) : renL q (stC v r n) = some (stC v r n) := by
  have h : ∀ (l m : List AV), renL q l = some l → renL q m = some m → renL q (l ++ m) = some (l ++ m) := by
    intro l
    induction l with
    | nil => intro m _ h; simpa using h
    | cons a l ih =>
      intro m h1 h2
      simp only [renL, Option.bind_eq_some_iff, Option.map_eq_some_iff] at h1
      obtain ⟨a', e1, l', e2, e3⟩ := h1
      injection e3 with e4 e5
      subst e4 e5
      simp only [List.cons_append, renL, e1, ih m e2 h2, Option.bind_some, Option.map_some]
  exact h _ _ (zak q _) rfl
theorem fS0 (id : Nat) (K : AV → Prop) : zbv T 106 (.ptr id 0) 0 K = K (.ptr id 0) := by
  simp [zbv, T106, tyState, T104, zb2, zb3]
theorem fS1 (id : Nat) (K : AV → Prop) : zbv T 106 (.ptr id 0) 1 K = K (.ptr id 8) := by
  simp [zbv, T106, tyState, T9, tyStr]
theorem fS2 (id : Nat) (K : AV → Prop) : zbv T 106 (.ptr id 0) 2 K = K (.ptr id 9) := by
  simp [zbv, T106, tyState, T3, zbM]
theorem ldS0 (v : Vc (BitVec 32) 8) (r : List UInt8) (n : Int) (K : AV → Prop) : ld2 (some (zb2 8 102 zb3)) (some (stC v r n)) 0 K = K (.agg (v.l.map u32)) := ld_arr32a _ _ _
theorem ldS1 (v : Vc (BitVec 32) 8) (r : List UInt8) (n : Int) (K : AV → Prop) : ld2 (some tyStr) (some (stC v r n)) 8 K = K (str r) := by
  have h := v.h
  simp [ld2, wfin, tyStr, TD.agg, stC, List.drop_append, h]
theorem ldS2 (v : Vc (BitVec 32) 8) (r : List UInt8) (n : Int) (K : AV → Prop) : ld2 (some zbM) (some (stC v r n)) 9 K = K (i64 n) := by
  have h := v.h
  simp [ld2, wfin, zbM, TD.agg, stC, List.drop_append, h]
theorem ldS (v : Vc (BitVec 32) 8) (r : List UInt8) (n : Int) (K : AV → Prop) : ld2 (some tyState) (some (stC v r n)) 0 K = K (.agg (stC v r n)) := by
  have h := v.h
  have e : (stC v r n).length = 10 := by simp [stC, h]
  simp only [ld2, wfin, tyState, TD.agg, List.drop_zero, e, Nat.le_refl, true_and, if_true]
  rw [List.take_of_length_le (by omega)]
theorem stS0 (v v' : Vc (BitVec 32) 8) (r : List UInt8) (n : Int) (id : Nat) (σ : Store) (K : AV → Store → Prop) : st2 (some (zb2 8 102 zb3)) (some (.rw (stC v r n))) id 0 (.agg (v'.l.map u32)) σ K = K (.lit undef) (σ.set id (.rw (stC v' r n))) := st_arr32a _ _ _ _ _
theorem stS1 (v : Vc (BitVec 32) 8) (r r' : List UInt8) (n : Int) (id : Nat) (σ : Store) (K : AV → Store → Prop) : st2 (some tyStr) (some (.rw (stC v r n))) id 8 (str r') σ K = K (.lit undef) (σ.set id (.rw (stC v r' n))) := by
  have h := v.h
  rw [st_str]
  simp only [stC, List.length_append, List.length_map, h, List.length_cons, List.length_nil]
  rw [List.set_append_right _ _ (by simp [h])]
  simp [h]
theorem stS2 (v : Vc (BitVec 32) 8) (r : List UInt8) (n n' : Int) (id : Nat) (σ : Store) (K : AV → Store → Prop) : st2 (some zbM) (some (.rw (stC v r n))) id 9 (i64 n') σ K = K (.lit undef) (σ.set id (.rw (stC v r n'))) := by
  have h := v.h
  rw [st_i64]
  simp only [stC, List.length_append, List.length_map, h, List.length_cons, List.length_nil]
  rw [List.set_append_right _ _ (by simp [h])]
  simp [h]
theorem all_stC (v : Vc (BitVec 32) 8) (r : List UInt8) (n : Int) : (stC v r n).all AV.one = true := by
  simp only [stC, List.all_append, all_one_u32, Bool.true_and]; rfl
theorem stS (v v' : Vc (BitVec 32) 8) (r r' : List UInt8) (n n' : Int) (id : Nat) (σ : Store) (K : AV → Store → Prop) : st2 (some tyState) (some (.rw (stC v r n))) id 0 (.agg (stC v' r' n')) σ K = K (.lit undef) (σ.set id (.rw (stC v' r' n'))) := by
  have e : ∀ v r n, (stC v r n).length = 10 := fun v r n => by simp [stC, v.h]
  have := putAt_all (stC v r n) (stC v' r' n') [] [] (by rw [e, e])
  simp only [List.nil_append, List.length_nil, List.append_nil] at this
  simp only [st2, AV.cells, e, tyState, all_stC, true_and, this, Nat.zero_add, Nat.le_refl]
theorem alS (e0 : TypeId) (σ : Store) (K : AV → Store → Prop) : al1 T e0 (some tyState) σ K = K (.ptr σ.length 0) (σ ++ [.rw (stC (Vc.rep 8 0#32) [] 0)]) := by
  rfl
theorem zbT (v : Vc (BitVec 32) 8) (K : AV → Prop) : zbU T 106 [(0, .agg (v.l.map u32))] K = K (.agg (stC v [] 0)) := by
  obtain ⟨l, h⟩ := v
  match l, h with
  | [a, b, c, d, e, f, g, i], h =>
    simp only [zbU, T106, tyState, T104, T9, T3]
    simp [zbN, zb2, zb3, zbG, u32, AV.cells, AV.one, Value.oneCell', zbI, stC, str, i64, T104]
    intro _
    exact ⟨by rw [T9]; rfl, by rw [T3]; rfl⟩
theorem boxS {eB : TypeId} (v : Vc (BitVec 32) 8) (r : List UInt8) (n : Int) (σ : Store) (K : AV → Store → Prop) : wbox eB (.agg (stC v r n)) σ K = K (.ptr σ.length 0) (σ ++ [.rw (stC v r n)]) := by
  simp only [wbox, AV.cells, all_stC, true_and, show bldlike (stC v r n) = false from by cases v; rename_i l h; cases l <;> first | rfl | (simp at h), Bool.false_eq_true, if_false]
theorem lenS (v : Vc (BitVec 32) 8) (r : List UInt8) (n : Int) : (stC v r n).length = 10 := by simp [stC, v.h]
theorem zbY (v : Vc (BitVec 32) 8) (r r' : List UInt8) (n : Int) : (stC v r n).set 8 (str r') = stC v r' n := by
  have h := v.h
  simp only [stC]
  rw [List.set_append_right _ _ (by simp [h])]
  simp [h]
theorem zbZ (v : Vc (BitVec 32) 8) (r : List UInt8) (n n' : Int) : (stC v r n).set 9 (i64 n') = stC v r n' := by
  have h := v.h
  simp only [stC]
  rw [List.set_append_right _ _ (by simp [h])]
  simp [h]

theorem endQ_st {v : Vc (BitVec 32) 8} {r : List UInt8} {n : Int} {x y : AV} {rest : Store} {K : AV → Store → Prop} (h1 : x.ren [0] = some y) (hxy : x = y) (h : K x [.rw (stC v r n)]) : endQ 1 y (.rw (stC v r n) :: rest) K :=
  .inl ⟨[0], x, [.rw (stC v r n)], rfl, rfl, by decide, h1, by simp [zaM, Blk.ren, zaD], h⟩
theorem new_ok : ACalls Tryd.prog 52 [] [] (fun x σ => x = .ret (.ptr 0 0) ∧ σ = [.rw (stC firstV [] 0)]) := by
  refine ACalls.body T_ok Tryd.func52 (by kernel_rfl) rfl Tryd.ntmps52 (congrArg Array.toList Tryd.results52) ?_
  try simp -implicitDefEqProofs only [zaH, gl_k, zbb, zal T102, zag T91, zah T91, lenS, zbY, zbZ, fS0, fS1, fS2, ldS0, ldS1, ldS2, ldS, stS0, stS1, stS2, stS, alS, zbT, boxS, TB, SB, Int.reduceToNat, Nat.reduceAdd, Nat.reduceEqDiff, Nat.reduceLT, Nat.reduceMod, Nat.reducePow, Nat.reduceSub, if_true, reduceIte]
  exact endQ_here ⟨rfl, rfl⟩
theorem clone_ok (v : Vc (BitVec 32) 8) (r : List UInt8) (n : Int) : ACalls Tryd.prog 57 [.ptr 0 0] [.rw (stC v r n)] (fun x σ => x = .ret (.ptr 1 0) ∧ σ = [.rw (stC v r n), .rw (stC v r n)]) := by
  refine ACalls.body T_ok Tryd.func57 (by kernel_rfl) rfl Tryd.ntmps57 (congrArg Array.toList Tryd.results57) ?_
  try simp -implicitDefEqProofs only [zaH, gl_k, zbb, zal T102, zag T91, zah T91, lenS, zbY, zbZ, fS0, fS1, fS2, ldS0, ldS1, ldS2, ldS, stS0, stS1, stS2, stS, alS, zbT, boxS, TB, SB, Int.reduceToNat, Nat.reduceAdd, Nat.reduceEqDiff, Nat.reduceLT, Nat.reduceMod, Nat.reducePow, Nat.reduceSub, if_true, reduceIte]
  exact endQ_here ⟨rfl, rfl⟩

def blk (s : List UInt8) (i : Nat) : List UInt8 := (s.take ((i + 1) * 64)).drop (i * 64)
theorem blocks1_ok (s : List UInt8) (hs : s.length ≤ 1000000000000) (id p : Nat) (S : Nat → Store) (hS : ∀ i, rd (S i) p = some [str s]) (hY : ∀ i, i < s.length / 64 → AYield Tryd.prog id [str (blk s i)] (S i) (fun x σ' => x = .ret (bl true) ∧ σ' = S (i + 1))) :
    ACalls Tryd.prog 77 [.yl id, .ptr p 0] (S 0) (fun x σ' => x = .ret (.tup []) ∧ σ' = S (s.length / 64)) := by
  refine ACalls.body T_ok Tryd.func77 (by kernel_rfl) rfl Tryd.ntmps77 (congrArg Array.toList Tryd.results77) ?_
  try simp -implicitDefEqProofs only [zaH, gl_k, zbb, zal T102, zag T91, zah T91, lenS, zbY, zbZ, fS0, fS1, fS2, ldS0, ldS1, ldS2, ldS, stS0, stS1, stS2, stS, alS, zbT, boxS, hS 0, TB, SB, Int.reduceToNat, Nat.reduceAdd, Nat.reduceEqDiff, Nat.reduceLT, Nat.reduceMod, Nat.reducePow, Nat.reduceSub, if_true, reduceIte]
  rw [show ((s.length : Int).tdiv 64) = ((s.length / 64 : Nat) : Int) from rfl]
  repeat (with_reducible refine And.intro (by first | omega | decide | (unfold inI; omega) | (simp only [List.length_append, List.length_reverse, List.length_take, List.length_drop, List.length_cons, List.length_nil, List.length_map, List.length_replicate]; omega)) ?_)
  rw [W_loop]
  refine ⟨Nat, fun k => k ≤ s.length / 64, fun k => [.yl id, .ptr p 0, .bot, .bot, .bot, .bot, i64 ((s.length / 64 : Nat) : Int), i64 k, .bot, .bot, .bot, .bot, .bot, .bot, .bot, .bot, .bot, .bot, .bot, .bot, .bot], S, fun k => s.length / 64 - k, 0, Nat.zero_le _, fits_here ?_, ?_⟩
  · try simp only [leI_nil, leI_bot, leI_same, leI_cons, List.getElem?_cons_zero, true_and, and_true, or_true, true_or, reduceCtorEq, false_or]
    exact .inr rfl
  · intro k hk
    try simp -implicitDefEqProofs only [zaH, gl_k, zbb, zal T102, zag T91, zah T91, lenS, zbY, zbZ, fS0, fS1, fS2, ldS0, ldS1, ldS2, ldS, stS0, stS1, stS2, stS, alS, zbT, boxS, hS k, TB, SB, Int.reduceToNat, Nat.reduceAdd, Nat.reduceEqDiff, Nat.reduceLT, Nat.reduceMod, Nat.reducePow, Nat.reduceSub, if_true, reduceIte]
    refine ⟨fun hlt => ?_, fun hge => ?_⟩
    · have hk' : k < s.length / 64 := by omega
      repeat (with_reducible refine And.intro (by first | omega | decide | (unfold inI; omega) | (simp only [List.length_append, List.length_reverse, List.length_take, List.length_drop, List.length_cons, List.length_nil, List.length_map, List.length_replicate]; omega)) ?_)
      have e : List.drop ((k : Int) * 64).toNat (List.take (((k : Int) + 1) * 64).toNat s) = blk s k := by
        rw [blk]
        congr 2 <;> omega
      rw [e]
      refine (hY k hk').mono ?_
      rintro _ σ' ⟨rfl, rfl⟩
      try simp -implicitDefEqProofs only [zaH, gl_k, zbb, zal T102, zag T91, zah T91, lenS, zbY, zbZ, fS0, fS1, fS2, ldS0, ldS1, ldS2, ldS, stS0, stS1, stS2, stS, alS, zbT, boxS, TB, SB, Int.reduceToNat, Nat.reduceAdd, Nat.reduceEqDiff, Nat.reduceLT, Nat.reduceMod, Nat.reducePow, Nat.reduceSub, if_true, reduceIte]
      repeat (with_reducible refine And.intro (by first | omega | decide | (unfold inI; omega) | (simp only [List.length_append, List.length_reverse, List.length_take, List.length_drop, List.length_cons, List.length_nil, List.length_map, List.length_replicate]; omega)) ?_)
      rw [loopQ_normal]
      refine ⟨k + 1, by omega, by omega, fits_here ?_⟩
      try simp only [leI_nil, leI_bot, leI_same, leI_cons, List.getElem?_cons_zero, true_and, and_true, or_true, true_or, reduceCtorEq, false_or]
      exact .inr rfl
    · obtain rfl : k = s.length / 64 := by omega
      try simp -implicitDefEqProofs only [zaH, gl_k, zbb, zal T102, zag T91, zah T91, lenS, zbY, zbZ, fS0, fS1, fS2, ldS0, ldS1, ldS2, ldS, stS0, stS1, stS2, stS, alS, zbT, boxS, TB, SB, Int.reduceToNat, Nat.reduceAdd, Nat.reduceEqDiff, Nat.reduceLT, Nat.reduceMod, Nat.reducePow, Nat.reduceSub, if_true, reduceIte]
      exact endQ_here ⟨rfl, rfl⟩

def absorbN (v : Vc (BitVec 32) 8) (s : List UInt8) : Nat → Vc (BitVec 32) 8
  | 0 => v
  | k + 1 => behindV (absorbN v s k) (blk s k)
def absorb (v : Vc (BitVec 32) 8) (s : List UInt8) : Vc (BitVec 32) 8 := absorbN v s (s.length / 64)
def left (s : List UInt8) : List UInt8 := s.drop (s.length / 64 * 64)
theorem blk_length (s : List UInt8) (k : Nat) (h : k < s.length / 64) : (blk s k).length = 64 := by
  simp only [blk, List.length_drop, List.length_take]; omega
theorem setp_one (env : Env) (t : Tmp) (a : AV) : setp env [t] [a] = env.set t a := rfl
theorem write_loop {v : Vc (BitVec 32) 8} {r t : List UInt8} {m : Int} {env : List AV} {ps : Array Tmp} {A B : Code} {K : AEnd → Store → Prop} (ht : t.length ≤ 1000000000000)
    (hY : ∀ k, k < t.length / 64 → AYield Tryd.prog 3 [str (blk t k)] [.rw (stC (absorbN v t k) r m), .rw [.ptr 0 0], .rw [str t], .lp .ready none env ps A B] (fun x σ' => x = .ret (bl true) ∧ σ' = [.rw (stC (absorbN v t (k + 1)) r m), .rw [.ptr 0 0], .rw [str t], .lp .ready none env ps A B]))
    (hK : K (.ret (.tup [])) [.rw (stC (absorb v t) r m), .rw [.ptr 0 0], .rw [str t], .lp .ready none env ps A B]) :
    ACalls Tryd.prog 77 [.yl 3, .ptr 2 0] [.rw (stC v r m), .rw [.ptr 0 0], .rw [str t], .lp .ready none env ps A B] K :=
  (blocks1_ok t ht 3 2 (fun k => [.rw (stC (absorbN v t k) r m), .rw [.ptr 0 0], .rw [str t], .lp .ready none env ps A B]) (fun _ => rfl) hY).mono (by
    rintro _ _ ⟨rfl, rfl⟩
    exact hK)
theorem write_ok (v : Vc (BitVec 32) 8) (r : List UInt8) (n : Int) (s : List UInt8) (hr : r.length < 64) (hs : s.length ≤ 100000000000) (hn : 0 ≤ n ∧ n ≤ 100000000000) : ACalls Tryd.prog 53 [.ptr 0 0, str s] [.rw (stC v r n)] (fun x σ => x = .ret (.tup []) ∧ σ = [.rw (stC (absorb v (r ++ s)) (left (r ++ s)) (n + s.length))]) := by
  refine ACalls.body T_ok Tryd.func53 (by kernel_rfl) rfl Tryd.ntmps53 (congrArg Array.toList Tryd.results53) ?_
  try simp -implicitDefEqProofs only [zaH, gl_k, zbb, zal T102, zag T91, zah T91, lenS, zbY, zbZ, fS0, fS1, fS2, ldS0, ldS1, ldS2, ldS, stS0, stS1, stS2, stS, alS, zbT, boxS, setp_one, TB, SB, Int.reduceToNat, Nat.reduceAdd, Nat.reduceEqDiff, Nat.reduceLT, Nat.reduceMod, Nat.reducePow, Nat.reduceSub, if_true, reduceIte]
  repeat (with_reducible refine And.intro (by first | omega | decide | (unfold inI; omega) | (simp only [List.length_append, List.length_reverse, List.length_take, List.length_drop, List.length_cons, List.length_nil, List.length_map, List.length_replicate]; omega)) ?_)
  try simp -implicitDefEqProofs only [zaH, gl_k, zbb, zal T102, zag T91, zah T91, lenS, zbY, zbZ, fS0, fS1, fS2, ldS0, ldS1, ldS2, ldS, stS0, stS1, stS2, stS, alS, zbT, boxS, setp_one, TB, SB, Int.reduceToNat, Nat.reduceAdd, Nat.reduceEqDiff, Nat.reduceLT, Nat.reduceMod, Nat.reducePow, Nat.reduceSub, if_true, reduceIte]
  repeat (with_reducible refine And.intro (by first | omega | decide | (unfold inI; omega) | (simp only [List.length_append, List.length_reverse, List.length_take, List.length_drop, List.length_cons, List.length_nil, List.length_map, List.length_replicate]; omega)) ?_)
  refine ⟨fun h0 => ?_, fun h0 => ?_⟩
  all_goals obtain ⟨t, ht⟩ : ∃ t, t = r ++ s := ⟨_, rfl⟩
  all_goals have htl : t.length ≤ 200000000000 := by rw [ht, List.length_append]; omega
  all_goals first
    | (have h1 : r = [] := List.eq_nil_of_length_eq_zero (by omega)
       rw [← ht, show str s = str t by rw [ht, h1]; rfl])
    | (repeat (with_reducible refine And.intro (by first | omega | decide | (unfold inI; omega) | (simp only [List.length_append, List.length_reverse, List.length_take, List.length_drop, List.length_cons, List.length_nil, List.length_map, List.length_replicate]; omega)) ?_)
       rw [← ht])
  all_goals
    refine ACalls.frame ([]) (blocks_ok t) rfl (by decide) (by simp [zaM, zaO, zau, zax, zay, zam, zav, renL, AV.ren, AEnd.ren, zaD, zak, zac, zab, zan, zai, zad, zae, List.getElem?_cons_zero, List.getElem?_cons_succ]) (by first | rfl | simp [zaM, zaO, zau, zax, zay, zam, zav, renL, AV.ren, AEnd.ren, zaD, zak, zac, zab, zan, zai, zad, zae, List.getElem?_cons_zero, List.getElem?_cons_succ]) ?_
    rintro _ _ ⟨rfl, rfl⟩
    refine ⟨.ret (.fn (.func 77) [] [.ptr 2 0]), [.rw (stC v r (n + (s.length : Int))), .rw [.ptr 0 0], .rw [str t]], (by show zaO _ _ ([1, 1, 0]) ([1, 1, 0]) 0 _; simp [zaM, zaO, zau, zax, zay, zam, zav, renL, AV.ren, AEnd.ren, zaD, zak, zac, zab, zan, zai, zad, zae, List.getElem?_cons_zero, List.getElem?_cons_succ]), (by show AEnd.ren ([1, 1, 0]) _ _; first | rfl | simp [zaM, zaO, zau, zax, zay, zam, zav, renL, AV.ren, AEnd.ren, zaD, zak, zac, zab, zan, zai, zad, zae, List.getElem?_cons_zero, List.getElem?_cons_succ]), ?_⟩
    try simp -implicitDefEqProofs only [zaH, gl_k, zbb, zal T102, zag T91, zah T91, lenS, zbY, zbZ, fS0, fS1, fS2, ldS0, ldS1, ldS2, ldS, stS0, stS1, stS2, stS, alS, zbT, boxS, setp_one, TB, SB, Int.reduceToNat, Nat.reduceAdd, Nat.reduceEqDiff, Nat.reduceLT, Nat.reduceMod, Nat.reducePow, Nat.reduceSub, if_true, reduceIte]
    refine ⟨by kernel_rfl, ?_⟩
    refine write_loop (by omega) (fun k hk => ?_) ?_
    · refine AYield.of T_ok rfl rfl rfl rfl ?_
      try simp -implicitDefEqProofs only [zaH, gl_k, zbb, zal T102, zag T91, zah T91, lenS, zbY, zbZ, fS0, fS1, fS2, ldS0, ldS1, ldS2, ldS, stS0, stS1, stS2, stS, alS, zbT, boxS, setp_one, TB, SB, Int.reduceToNat, Nat.reduceAdd, Nat.reduceEqDiff, Nat.reduceLT, Nat.reduceMod, Nat.reducePow, Nat.reduceSub, if_true, reduceIte]
      refine ⟨_, _, _, rfl, ?_⟩
      try simp -implicitDefEqProofs only [zaH, gl_k, zbb, zal T102, zag T91, zah T91, lenS, zbY, zbZ, fS0, fS1, fS2, ldS0, ldS1, ldS2, ldS, stS0, stS1, stS2, stS, alS, zbT, boxS, setp_one, TB, SB, Int.reduceToNat, Nat.reduceAdd, Nat.reduceEqDiff, Nat.reduceLT, Nat.reduceMod, Nat.reducePow, Nat.reduceSub, if_true, reduceIte]
      refine W_drawE [9] (by kernel_rfl) (by kernel_rfl) (by kernel_rfl) ?_
      try simp -implicitDefEqProofs only [zaH, gl_k, zbb, zal T102, zag T91, zah T91, lenS, zbY, zbZ, fS0, fS1, fS2, ldS0, ldS1, ldS2, ldS, stS0, stS1, stS2, stS, alS, zbT, boxS, setp_one, TB, SB, Int.reduceToNat, Nat.reduceAdd, Nat.reduceEqDiff, Nat.reduceLT, Nat.reduceMod, Nat.reducePow, Nat.reduceSub, if_true, reduceIte]
      refine exq_ok (behind_ok _ _ (blk_length t k hk)) (by first | rfl | simp [renL, AV.ren, zak, zaa str zac, zai, zad, zae, zab, zan, zac]) (by first | rfl | simp [AEnd.noid, AV.ren, renL, zak, zai, zad, zae, zab, zan, zac]) ?_
      try simp -implicitDefEqProofs only [zaH, gl_k, zbb, zal T102, zag T91, zah T91, lenS, zbY, zbZ, fS0, fS1, fS2, ldS0, ldS1, ldS2, ldS, stS0, stS1, stS2, stS, alS, zbT, boxS, setp_one, TB, SB, Int.reduceToNat, Nat.reduceAdd, Nat.reduceEqDiff, Nat.reduceLT, Nat.reduceMod, Nat.reducePow, Nat.reduceSub, if_true, reduceIte]
      refine ⟨_, _, _, _, rfl, rfl, ?_⟩
      rfl
    · refine ⟨_, _, _, _, _, _, rfl, by simp, ?_⟩
      try simp -implicitDefEqProofs only [zaH, gl_k, zbb, zal T102, zag T91, zah T91, lenS, zbY, zbZ, fS0, fS1, fS2, ldS0, ldS1, ldS2, ldS, stS0, stS1, stS2, stS, alS, zbT, boxS, setp_one, TB, SB, Int.reduceToNat, Nat.reduceAdd, Nat.reduceEqDiff, Nat.reduceLT, Nat.reduceMod, Nat.reducePow, Nat.reduceSub, if_true, reduceIte]
      refine W_drawE [9] (by kernel_rfl) (by kernel_rfl) (by kernel_rfl) ?_
      try simp -implicitDefEqProofs only [zaH, gl_k, zbb, zal T102, zag T91, zah T91, lenS, zbY, zbZ, fS0, fS1, fS2, ldS0, ldS1, ldS2, ldS, stS0, stS1, stS2, stS, alS, zbT, boxS, setp_one, TB, SB, Int.reduceToNat, Nat.reduceAdd, Nat.reduceEqDiff, Nat.reduceLT, Nat.reduceMod, Nat.reducePow, Nat.reduceSub, if_true, reduceIte]
      rw [show ((t.length : Int).tdiv 64) = ((t.length / 64 : Nat) : Int) from rfl]
      repeat (with_reducible refine And.intro (by first | omega | decide | (unfold inI; omega) | (simp only [List.length_append, List.length_reverse, List.length_take, List.length_drop, List.length_cons, List.length_nil, List.length_map, List.length_replicate]; omega)) ?_)
      rw [show (((t.length / 64 : Nat) : Int) * 64).toNat = t.length / 64 * 64 by omega]
      exact endQ_st rfl rfl ⟨rfl, rfl⟩

def pw (m : Nat) : List UInt8 := bigL (8#64 * BitVec.ofInt 64 m) 8
theorem pw_length (m : Nat) : (pw m).length = 8 := by simp [pw, bigL, lowL]
def padL (n : Int) : List UInt8 := if n < 0 then [] else (128 :: List.replicate ((64 - (n.toNat % 64 + 9) % 64) % 64) 0) ++ pw n.toNat
def padTree : Tr := (.br 0 (.br 1 (.br 2 (.br 3 (.br 4 (.br 5 (.br 6 (.br 7 (.br 8 (.br 9 .done .nil) .nil) .nil) .nil) .nil) .nil) (.br 4 (.br 3 (.br 5 (.br 6 (.br 7 (.br 8 (.br 9 .done .nil) .nil) .nil) .nil) .nil) (.br 5 (.br 3 (.br 6 (.br 7 (.br 8 (.br 9 .done .nil) .nil) .nil) .nil) (.br 6 (.br 3 (.br 7 (.br 8 (.br 9 .done .nil) .nil) .nil) (.br 7 (.br 3 (.br 8 (.br 9 .done .nil) .nil) .nil) .nil)) .nil)) .nil)) .nil)) (.br 4 (.br 2 (.br 3 (.br 5 (.br 6 (.br 7 (.br 8 (.br 9 .done .nil) .nil) .nil) .nil) .nil) (.br 5 (.br 3 (.br 6 (.br 7 (.br 8 (.br 9 .done .nil) .nil) .nil) .nil) (.br 6 (.br 3 (.br 7 (.br 8 (.br 9 .done .nil) .nil) .nil) (.br 7 (.br 3 (.br 8 (.br 9 .done .nil) .nil) .nil) .nil)) .nil)) .nil)) (.br 5 (.br 2 (.br 3 (.br 6 (.br 7 (.br 8 (.br 9 .done .nil) .nil) .nil) .nil) (.br 6 (.br 3 (.br 7 (.br 8 (.br 9 .done .nil) .nil) .nil) (.br 7 (.br 3 (.br 8 (.br 9 .done .nil) .nil) .nil) .nil)) .nil)) (.br 6 (.br 2 (.br 3 (.br 7 (.br 8 (.br 9 .done .nil) .nil) .nil) (.br 7 (.br 3 (.br 8 (.br 9 .done .nil) .nil) .nil) .nil)) (.br 7 (.br 2 (.br 3 (.br 8 (.br 9 .done .nil) .nil) .nil) .nil) .nil)) .nil)) .nil)) .nil)) (.br 4 (.br 1 (.br 2 (.br 3 (.br 5 (.br 6 (.br 7 (.br 8 (.br 9 .done .nil) .nil) .nil) .nil) .nil) (.br 5 (.br 3 (.br 6 (.br 7 (.br 8 (.br 9 .done .nil) .nil) .nil) .nil) (.br 6 (.br 3 (.br 7 (.br 8 (.br 9 .done .nil) .nil) .nil) (.br 7 (.br 3 (.br 8 (.br 9 .done .nil) .nil) .nil) .nil)) .nil)) .nil)) (.br 5 (.br 2 (.br 3 (.br 6 (.br 7 (.br 8 (.br 9 .done .nil) .nil) .nil) .nil) (.br 6 (.br 3 (.br 7 (.br 8 (.br 9 .done .nil) .nil) .nil) (.br 7 (.br 3 (.br 8 (.br 9 .done .nil) .nil) .nil) .nil)) .nil)) (.br 6 (.br 2 (.br 3 (.br 7 (.br 8 (.br 9 .done .nil) .nil) .nil) (.br 7 (.br 3 (.br 8 (.br 9 .done .nil) .nil) .nil) .nil)) (.br 7 (.br 2 (.br 3 (.br 8 (.br 9 .done .nil) .nil) .nil) .nil) .nil)) .nil)) .nil)) (.br 5 (.br 1 (.br 2 (.br 3 (.br 6 (.br 7 (.br 8 (.br 9 .done .nil) .nil) .nil) .nil) (.br 6 (.br 3 (.br 7 (.br 8 (.br 9 .done .nil) .nil) .nil) (.br 7 (.br 3 (.br 8 (.br 9 .done .nil) .nil) .nil) .nil)) .nil)) (.br 6 (.br 2 (.br 3 (.br 7 (.br 8 (.br 9 .done .nil) .nil) .nil) (.br 7 (.br 3 (.br 8 (.br 9 .done .nil) .nil) .nil) .nil)) (.br 7 (.br 2 (.br 3 (.br 8 (.br 9 .done .nil) .nil) .nil) .nil) .nil)) .nil)) (.br 6 (.br 1 (.br 2 (.br 3 (.br 7 (.br 8 (.br 9 .done .nil) .nil) .nil) (.br 7 (.br 3 (.br 8 (.br 9 .done .nil) .nil) .nil) .nil)) (.br 7 (.br 2 (.br 3 (.br 8 (.br 9 .done .nil) .nil) .nil) .nil) .nil)) (.br 7 (.br 1 (.br 2 (.br 3 (.br 8 (.br 9 .done .nil) .nil) .nil) .nil) .nil) .nil)) .nil)) .nil)) .nil)) (.br 4 (.br 0 (.br 1 (.br 2 (.br 3 (.br 5 (.br 6 (.br 7 (.br 8 (.br 9 .done .nil) .nil) .nil) .nil) .nil) (.br 5 (.br 3 (.br 6 (.br 7 (.br 8 (.br 9 .done .nil) .nil) .nil) .nil) (.br 6 (.br 3 (.br 7 (.br 8 (.br 9 .done .nil) .nil) .nil) (.br 7 (.br 3 (.br 8 (.br 9 .done .nil) .nil) .nil) .nil)) .nil)) .nil)) (.br 5 (.br 2 (.br 3 (.br 6 (.br 7 (.br 8 (.br 9 .done .nil) .nil) .nil) .nil) (.br 6 (.br 3 (.br 7 (.br 8 (.br 9 .done .nil) .nil) .nil) (.br 7 (.br 3 (.br 8 (.br 9 .done .nil) .nil) .nil) .nil)) .nil)) (.br 6 (.br 2 (.br 3 (.br 7 (.br 8 (.br 9 .done .nil) .nil) .nil) (.br 7 (.br 3 (.br 8 (.br 9 .done .nil) .nil) .nil) .nil)) (.br 7 (.br 2 (.br 3 (.br 8 (.br 9 .done .nil) .nil) .nil) .nil) .nil)) .nil)) .nil)) (.br 5 (.br 1 (.br 2 (.br 3 (.br 6 (.br 7 (.br 8 (.br 9 .done .nil) .nil) .nil) .nil) (.br 6 (.br 3 (.br 7 (.br 8 (.br 9 .done .nil) .nil) .nil) (.br 7 (.br 3 (.br 8 (.br 9 .done .nil) .nil) .nil) .nil)) .nil)) (.br 6 (.br 2 (.br 3 (.br 7 (.br 8 (.br 9 .done .nil) .nil) .nil) (.br 7 (.br 3 (.br 8 (.br 9 .done .nil) .nil) .nil) .nil)) (.br 7 (.br 2 (.br 3 (.br 8 (.br 9 .done .nil) .nil) .nil) .nil) .nil)) .nil)) (.br 6 (.br 1 (.br 2 (.br 3 (.br 7 (.br 8 (.br 9 .done .nil) .nil) .nil) (.br 7 (.br 3 (.br 8 (.br 9 .done .nil) .nil) .nil) .nil)) (.br 7 (.br 2 (.br 3 (.br 8 (.br 9 .done .nil) .nil) .nil) .nil) .nil)) (.br 7 (.br 1 (.br 2 (.br 3 (.br 8 (.br 9 .done .nil) .nil) .nil) .nil) .nil) .nil)) .nil)) .nil)) (.br 5 (.br 0 (.br 1 (.br 2 (.br 3 (.br 6 (.br 7 (.br 8 (.br 9 .done .nil) .nil) .nil) .nil) (.br 6 (.br 3 (.br 7 (.br 8 (.br 9 .done .nil) .nil) .nil) (.br 7 (.br 3 (.br 8 (.br 9 .done .nil) .nil) .nil) .nil)) .nil)) (.br 6 (.br 2 (.br 3 (.br 7 (.br 8 (.br 9 .done .nil) .nil) .nil) (.br 7 (.br 3 (.br 8 (.br 9 .done .nil) .nil) .nil) .nil)) (.br 7 (.br 2 (.br 3 (.br 8 (.br 9 .done .nil) .nil) .nil) .nil) .nil)) .nil)) (.br 6 (.br 1 (.br 2 (.br 3 (.br 7 (.br 8 (.br 9 .done .nil) .nil) .nil) (.br 7 (.br 3 (.br 8 (.br 9 .done .nil) .nil) .nil) .nil)) (.br 7 (.br 2 (.br 3 (.br 8 (.br 9 .done .nil) .nil) .nil) .nil) .nil)) (.br 7 (.br 1 (.br 2 (.br 3 (.br 8 (.br 9 .done .nil) .nil) .nil) .nil) .nil) .nil)) .nil)) (.br 6 (.br 0 (.br 1 (.br 2 (.br 3 (.br 7 (.br 8 (.br 9 .done .nil) .nil) .nil) (.br 7 (.br 3 (.br 8 (.br 9 .done .nil) .nil) .nil) .nil)) (.br 7 (.br 2 (.br 3 (.br 8 (.br 9 .done .nil) .nil) .nil) .nil) .nil)) (.br 7 (.br 1 (.br 2 (.br 3 (.br 8 (.br 9 .done .nil) .nil) .nil) .nil) .nil) .nil)) (.br 7 (.br 0 (.br 1 (.br 2 (.br 3 (.br 8 (.br 9 .done .nil) .nil) .nil) .nil) .nil) .nil) .nil)) .nil)) .nil)) .nil))
theorem pad_ok (n : Int) (hm : inI n) : ACalls Tryd.prog 69 [i64 n] [] (fun x _ => x = .ret (str (padL n))) := by
  refine ACalls.body T_ok Tryd.func69 (by kernel_rfl) rfl Tryd.ntmps69 (congrArg Array.toList Tryd.results69) ?_
  try simp -implicitDefEqProofs only [zaH, gl_k, zbb, zal T102, zag T91, zah T91, lenS, zbY, zbZ, fS0, fS1, fS2, ldS0, ldS1, ldS2, ldS, stS0, stS1, stS2, stS, alS, zbT, boxS, setp_one, TB, SB, Int.reduceToNat, Nat.reduceAdd, Nat.reduceEqDiff, Nat.reduceLT, Nat.reduceMod, Nat.reducePow, Nat.reduceSub, if_true, reduceIte]
  repeat (with_reducible refine And.intro (by first | omega | decide | (unfold inI; omega) | (simp only [List.length_append, List.length_reverse, List.length_take, List.length_drop, List.length_cons, List.length_nil, List.length_map, List.length_replicate]; omega)) ?_)
  refine ⟨fun h => ?_, fun h => ?_⟩
  · refine endQ_str ?_
    rw [padL, if_pos h]
  · obtain ⟨m, rfl⟩ : ∃ m : Nat, n = m := ⟨n.toNat, by omega⟩
    rw [show ((m : Int).tmod 64) = ((m % 64 : Nat) : Int) from rfl]
    rw [show (((m % 64 : Nat) : Int) + 9).tmod 64 = (((m % 64 + 9) % 64 : Nat) : Int) from rfl]
    rw [show (64 - (((m % 64 + 9) % 64 : Nat) : Int)) = ((64 - (m % 64 + 9) % 64 : Nat) : Int) by omega]
    rw [show (((64 - (m % 64 + 9) % 64 : Nat) : Int)).tmod 64 = (((64 - (m % 64 + 9) % 64) % 64 : Nat) : Int) from rfl]
    repeat (with_reducible refine And.intro (by first | omega | decide | (unfold inI; omega) | (simp only [List.length_append, List.length_reverse, List.length_take, List.length_drop, List.length_cons, List.length_nil, List.length_map, List.length_replicate]; omega)) ?_)
    have hz : (64 - (m % 64 + 9) % 64) % 64 < 64 := by omega
    generalize hzz : (64 - (m % 64 + 9) % 64) % 64 = z at *
    have hc : ∀ (σ : Store) (K : AEnd → Store → Prop), K (.ret (str (pw m))) σ → ACalls Tryd.prog 18 [u64 (8#64 * BitVec.ofInt 64 m), i64 8] σ K := fun σ K hk => (big_ok _ 8).pure rfl (by
      rintro _ σ' rfl
      exact ⟨rfl, hk⟩)
    refine W_drawT padTree ([.bot, .bot, str ((128 :: List.replicate z 0) ++ pw m), .bot, .bot, .bot, .bot, .bot, .bot, .bot, .bot, .bot, .bot, .bot, .bot, .bot, .bot, .bot, .bot, .bot, .bot]) [] (by kernel_rfl) (by kernel_rfl) ?_ ?_
    · have hpl := pw_length m
      have hrz : List.replicate z (u8 0) = (List.replicate z (0 : UInt8)).map u8 := by simp
      unfold padTree
      try simp -implicitDefEqProofs only [zaH, gl_k, zbb, zal T102, zag T91, zah T91, lenS, zbY, zbZ, fS0, fS1, fS2, ldS0, ldS1, ldS2, ldS, stS0, stS1, stS2, stS, alS, zbT, boxS, setp_one, hrz, Int.toNat_natCast, List.drop_zero, List.take_replicate, Nat.min_self, List.length_replicate, Nat.le_refl, TB, SB, Int.reduceToNat, Nat.reduceAdd, Nat.reduceEqDiff, Nat.reduceLT, Nat.reduceMod, Nat.reducePow, Nat.reduceSub, if_true, reduceIte]
      repeat' (first | (with_reducible refine And.intro ?_ ?_) | (refine hc _ _ ?_; try simp -implicitDefEqProofs only [zaH, gl_k, zbb, zal T102, zag T91, zah T91, lenS, zbY, zbZ, fS0, fS1, fS2, ldS0, ldS1, ldS2, ldS, stS0, stS1, stS2, stS, alS, zbT, boxS, setp_one, hrz, Int.toNat_natCast, List.drop_zero, List.take_replicate, Nat.min_self, List.length_replicate, Nat.le_refl, TB, SB, Int.reduceToNat, Nat.reduceAdd, Nat.reduceEqDiff, Nat.reduceLT, Nat.reduceMod, Nat.reducePow, Nat.reduceSub, if_true, reduceIte]))
      all_goals try (first | omega | (simp only [List.length_append, List.length_cons, List.length_nil, List.length_replicate, hpl]; omega))
      all_goals
        refine fits_same (q := []) rfl rfl (by decide) ?_ ?_
      all_goals try simp only [List.set_cons_zero, List.set_cons_succ, List.length_cons, List.length_nil, Nat.reduceAdd, List.cons_append, List.nil_append, zaQ, za7, zaR, zaS, zaT, za8, zaU, zaV, zaW, zaN, zai, zad, zae, zab, zan, zac, zaa u8 zai, zaa u32 zad, AV.ren, zaI, zaC, zaf u8 zai, zaf u32 zad, zaf i64 zab, zaf u64 zae, zaa u64 zae, zaa i64 zab, List.getElem?_cons_zero, List.getElem?_cons_succ, Option.map_some, zaX, zaY, za9, zaZ, zba, za0, true_and, and_true, or_true, true_or, reduceCtorEq, false_or, Option.some.injEq, Blk.rw.injEq, AV.sl.injEq, AV.ref.injEq, AV.ptr.injEq]
      all_goals done
    · try simp -implicitDefEqProofs only [zaH, gl_k, zbb, zal T102, zag T91, zah T91, lenS, zbY, zbZ, fS0, fS1, fS2, ldS0, ldS1, ldS2, ldS, stS0, stS1, stS2, stS, alS, zbT, boxS, setp_one, TB, SB, Int.reduceToNat, Nat.reduceAdd, Nat.reduceEqDiff, Nat.reduceLT, Nat.reduceMod, Nat.reducePow, Nat.reduceSub, if_true, reduceIte]
      refine endQ_str ?_
      rw [padL, if_neg h, Int.toNat_natCast, hzz]
      simp

end Go.Proofs.YtcabljgghammoaaDoor
end

section
namespace Go.Proofs.YtcabljgghammoaaDoor
open Go Go.Eng
set_option linter.defProp false in
def LB0 := And.intro @zaH (And.intro @gl_k (And.intro @zbb (And.intro @lenS (And.intro @zbY (And.intro @zbZ (And.intro @fS0 (And.intro @fS1 (And.intro @fS2 (And.intro @ldS0 (And.intro @ldS1 (And.intro @ldS2 (And.intro @ldS (And.intro @stS0 (And.intro @stS1 (And.intro @stS2 (And.intro @stS (And.intro @alS (And.intro @zbT (And.intro @boxS (@setp_one))))))))))))))))))))




theorem padL_length (n : Int) : (padL n).length ≤ 136 := by
  unfold padL
  split
  · simp
  · simp only [List.length_append, List.length_cons, List.length_replicate, pw_length]
    omega
theorem left_length (s : List UInt8) : (left s).length < 64 := by
  simp only [left, List.length_drop]; omega
def sumOf (v : Vc (BitVec 32) 8) (r : List UInt8) (n : Int) : List UInt8 := textK (absorb v (r ++ padL n)) 8
theorem sum_ok (v : Vc (BitVec 32) 8) (r : List UInt8) (n : Int) (hr : r.length < 64) (hn : 0 ≤ n ∧ n ≤ 100000000000) : ACalls Tryd.prog 58 [.ptr 0 0] [.rw (stC v r n)] (fun x σ => x = .ret (str (sumOf v r n)) ∧ σ = [.rw (stC v r n)]) := by
  refine ACalls.body T_ok Tryd.func58 (by kernel_rfl) rfl Tryd.ntmps58 (congrArg Array.toList Tryd.results58) ?_
  try simp -implicitDefEqProofs only [LB0, zal T102, zag T91, zah T91, TB, SB, Int.reduceToNat, Nat.reduceAdd, Nat.reduceEqDiff, Nat.reduceLT, Nat.reduceMod, Nat.reducePow, Nat.reduceSub, if_true, reduceIte]
  refine ACalls.frame ([0]) (clone_ok v r n) rfl (by decide) (by simp [zaM, zaO, zau, zax, zay, zam, zav, renL, AV.ren, AEnd.ren, zaD, zak, zac, zab, zan, zai, zad, zae, List.getElem?_cons_zero, List.getElem?_cons_succ]) (by first | rfl | simp [zaM, zaO, zau, zax, zay, zam, zav, renL, AV.ren, AEnd.ren, zaD, zak, zac, zab, zan, zai, zad, zae, List.getElem?_cons_zero, List.getElem?_cons_succ]) ?_
  rintro _ _ ⟨rfl, rfl⟩
  refine ⟨.ret (.ptr 1 0), [.rw (stC v r n), .rw (stC v r n)], (by show zaO _ _ ([0, 1]) ([0, 1]) 0 _; simp [zaM, zaO, zau, zax, zay, zam, zav, renL, AV.ren, AEnd.ren, zaD, zak, zac, zab, zan, zai, zad, zae, List.getElem?_cons_zero, List.getElem?_cons_succ]), (by show AEnd.ren ([0, 1]) _ _; first | rfl | simp [zaM, zaO, zau, zax, zay, zam, zav, renL, AV.ren, AEnd.ren, zaD, zak, zac, zab, zan, zai, zad, zae, List.getElem?_cons_zero, List.getElem?_cons_succ]), ?_⟩
  try simp -implicitDefEqProofs only [LB0, zal T102, zag T91, zah T91, TB, SB, Int.reduceToNat, Nat.reduceAdd, Nat.reduceEqDiff, Nat.reduceLT, Nat.reduceMod, Nat.reducePow, Nat.reduceSub, if_true, reduceIte]
  refine (pad_ok n (by unfold inI; omega)).pure rfl ?_
  rintro _ σ rfl
  refine ⟨rfl, ?_⟩
  try simp -implicitDefEqProofs only [LB0, zal T102, zag T91, zah T91, TB, SB, Int.reduceToNat, Nat.reduceAdd, Nat.reduceEqDiff, Nat.reduceLT, Nat.reduceMod, Nat.reducePow, Nat.reduceSub, if_true, reduceIte]
  have hp := padL_length n
  refine ACalls.frame ([1]) (write_ok v r n (padL n) hr (by omega) hn) rfl (by decide) (by simp [zaM, zaO, zau, zax, zay, zam, zav, renL, AV.ren, AEnd.ren, zaD, zak, zac, zab, zan, zai, zad, zae, List.getElem?_cons_zero, List.getElem?_cons_succ]) (by first | rfl | simp [zaM, zaO, zau, zax, zay, zam, zav, renL, AV.ren, AEnd.ren, zaD, zak, zac, zab, zan, zai, zad, zae, List.getElem?_cons_zero, List.getElem?_cons_succ]) ?_
  rintro _ _ ⟨rfl, rfl⟩
  refine ⟨.ret (.tup []), [.rw (stC v r n), .rw (stC (absorb v (r ++ padL n)) (left (r ++ padL n)) (n + (padL n).length))], (by show zaO _ _ ([1, 0]) ([1, 0]) 0 _; simp [zaM, zaO, zau, zax, zay, zam, zav, renL, AV.ren, AEnd.ren, zaD, zak, zac, zab, zan, zai, zad, zae, List.getElem?_cons_zero, List.getElem?_cons_succ]), (by show AEnd.ren ([1, 0]) _ _; first | rfl | simp [zaM, zaO, zau, zax, zay, zam, zav, renL, AV.ren, AEnd.ren, zaD, zak, zac, zab, zan, zai, zad, zae, List.getElem?_cons_zero, List.getElem?_cons_succ]), ?_⟩
  try simp -implicitDefEqProofs only [LB0, zal T102, zag T91, zah T91, TB, SB, Int.reduceToNat, Nat.reduceAdd, Nat.reduceEqDiff, Nat.reduceLT, Nat.reduceMod, Nat.reducePow, Nat.reduceSub, if_true, reduceIte]
  refine (text8_ok _).pure (by first | rfl | simp [renL, AV.ren, zak, zaa str zac, zai, zad, zae, zab, zan, zac]) ?_
  rintro _ σ rfl
  refine ⟨by first | rfl | simp [AEnd.noid, AV.ren, renL, zak, zaa str zac, zai, zad, zae, zab, zan, zac], ?_⟩
  try simp -implicitDefEqProofs only [LB0, zal T102, zag T91, zah T91, TB, SB, Int.reduceToNat, Nat.reduceAdd, Nat.reduceEqDiff, Nat.reduceLT, Nat.reduceMod, Nat.reducePow, Nat.reduceSub, if_true, reduceIte]
  exact endQ_st rfl rfl ⟨rfl, rfl⟩
def shaL (s : List UInt8) : List UInt8 := sumOf (absorb firstV s) (left s) s.length
theorem shaSum_ok (s : List UInt8) (hs : s.length ≤ 100000000000) : ACalls Tryd.prog 50 [str s] [] (fun x _ => x = .ret (str (shaL s))) := by
  refine ACalls.body T_ok Tryd.func50 (by kernel_rfl) rfl Tryd.ntmps50 (congrArg Array.toList Tryd.results50) ?_
  try simp -implicitDefEqProofs only [LB0, zal T102, zag T91, zah T91, TB, SB, Int.reduceToNat, Nat.reduceAdd, Nat.reduceEqDiff, Nat.reduceLT, Nat.reduceMod, Nat.reducePow, Nat.reduceSub, if_true, reduceIte]
  refine ACalls.frame ([]) (new_ok) rfl (by decide) (by simp [zaM, zaO, zau, zax, zay, zam, zav, renL, AV.ren, AEnd.ren, zaD, zak, zac, zab, zan, zai, zad, zae, List.getElem?_cons_zero, List.getElem?_cons_succ]) (by first | rfl | simp [zaM, zaO, zau, zax, zay, zam, zav, renL, AV.ren, AEnd.ren, zaD, zak, zac, zab, zan, zai, zad, zae, List.getElem?_cons_zero, List.getElem?_cons_succ]) ?_
  rintro _ _ ⟨rfl, rfl⟩
  refine ⟨.ret (.ptr 0 0), [.rw (stC firstV [] 0)], (by show zaO _ _ ([0]) ([0]) 0 _; simp [zaM, zaO, zau, zax, zay, zam, zav, renL, AV.ren, AEnd.ren, zaD, zak, zac, zab, zan, zai, zad, zae, List.getElem?_cons_zero, List.getElem?_cons_succ]), (by show AEnd.ren ([0]) _ _; first | rfl | simp [zaM, zaO, zau, zax, zay, zam, zav, renL, AV.ren, AEnd.ren, zaD, zak, zac, zab, zan, zai, zad, zae, List.getElem?_cons_zero, List.getElem?_cons_succ]), ?_⟩
  try simp -implicitDefEqProofs only [LB0, zal T102, zag T91, zah T91, TB, SB, Int.reduceToNat, Nat.reduceAdd, Nat.reduceEqDiff, Nat.reduceLT, Nat.reduceMod, Nat.reducePow, Nat.reduceSub, if_true, reduceIte]
  refine ACalls.frame ([0]) (write_ok firstV [] 0 s (by simp) hs (by omega)) rfl (by decide) (by simp [zaM, zaO, zau, zax, zay, zam, zav, renL, AV.ren, AEnd.ren, zaD, zak, zac, zab, zan, zai, zad, zae, List.getElem?_cons_zero, List.getElem?_cons_succ]) (by first | rfl | simp [zaM, zaO, zau, zax, zay, zam, zav, renL, AV.ren, AEnd.ren, zaD, zak, zac, zab, zan, zai, zad, zae, List.getElem?_cons_zero, List.getElem?_cons_succ]) ?_
  rintro _ _ ⟨rfl, rfl⟩
  refine ⟨.ret (.tup []), [.rw (stC (absorb firstV ([] ++ s)) (left ([] ++ s)) (0 + s.length))], (by show zaO _ _ ([0]) ([0]) 0 _; simp [zaM, zaO, zau, zax, zay, zam, zav, renL, AV.ren, AEnd.ren, zaD, zak, zac, zab, zan, zai, zad, zae, List.getElem?_cons_zero, List.getElem?_cons_succ]), (by show AEnd.ren ([0]) _ _; first | rfl | simp [zaM, zaO, zau, zax, zay, zam, zav, renL, AV.ren, AEnd.ren, zaD, zak, zac, zab, zan, zai, zad, zae, List.getElem?_cons_zero, List.getElem?_cons_succ]), ?_⟩
  try simp -implicitDefEqProofs only [LB0, zal T102, zag T91, zah T91, TB, SB, Int.reduceToNat, Nat.reduceAdd, Nat.reduceEqDiff, Nat.reduceLT, Nat.reduceMod, Nat.reducePow, Nat.reduceSub, if_true, reduceIte]
  refine ACalls.frame ([0]) (sum_ok (absorb firstV s) (left s) (0 + (s.length : Int)) (left_length _) (by omega)) rfl (by decide) (by simp [zaM, zaO, zau, zax, zay, zam, zav, renL, AV.ren, AEnd.ren, zaD, zak, zac, zab, zan, zai, zad, zae, List.getElem?_cons_zero, List.getElem?_cons_succ]) (by first | rfl | simp [zaM, zaO, zau, zax, zay, zam, zav, renL, AV.ren, AEnd.ren, zaD, zak, zac, zab, zan, zai, zad, zae, List.getElem?_cons_zero, List.getElem?_cons_succ]) ?_
  rintro _ _ ⟨rfl, rfl⟩
  refine ⟨.ret (str (sumOf (absorb firstV s) (left s) (0 + s.length))), [.rw (stC (absorb firstV s) (left s) (0 + s.length))], (by show zaO _ _ ([0]) ([0]) 0 _; simp [zaM, zaO, zau, zax, zay, zam, zav, renL, AV.ren, AEnd.ren, zaD, zak, zac, zab, zan, zai, zad, zae, List.getElem?_cons_zero, List.getElem?_cons_succ]), (by show AEnd.ren ([0]) _ _; first | rfl | simp [zaM, zaO, zau, zax, zay, zam, zav, renL, AV.ren, AEnd.ren, zaD, zak, zac, zab, zan, zai, zad, zae, List.getElem?_cons_zero, List.getElem?_cons_succ]), ?_⟩
  try simp -implicitDefEqProofs only [LB0, zal T102, zag T91, zah T91, TB, SB, Int.reduceToNat, Nat.reduceAdd, Nat.reduceEqDiff, Nat.reduceLT, Nat.reduceMod, Nat.reducePow, Nat.reduceSub, if_true, reduceIte]
  refine endQ_str ?_
  simp only [shaL, Int.zero_add]

/-! digits -/
end Go.Proofs.YtcabljgghammoaaDoor
end

