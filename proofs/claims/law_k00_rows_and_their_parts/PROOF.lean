import PyProof.Rows.All
import Wide.All
import OpenK.AllK
import Wide.FinOn
import HandS.ForMost
import PySem.Challenge.RW_waitless_k00_rows_and_their_parts
import HandS.Base
import HandS.Deep
import KE.DataCmp
import HandS.Exc
import HandS.ExcOwn
import HandS.Wide
import HandS.Lambda
import KE.KEqNest
import HandS.DeepEq
import HandS.TupAny
import HandS.Style
import HandS.Flow
import HandS.IsInst
import KE.SortData
import HandS.More
import HandS.WordsDict
import HandS.Conv
import HandS.CallSlots
import HandS.Defaults
import HandS.Comp
import HandS.Iter
import HandS.Rev
import HandS.Zip
import HandS.Dict
import HandS.DictComp
import HandS.Small
import KE.KExcIs
import HandS.ExcIs
import HandS.WordsExc
import HandS.Strs
import PyProof.Rows.SetFrom
import HandS.SetFor
import PyProof.Rows.SortShell
import HandS.EndTab
import KE.KNestM
import KE.SortKeyHeap
import HandS.SortKw
import HandS.RaiseMore
set_option Elab.async false
set_option linter.all false
namespace Iv
open PySem L2

/-! data -/
inductive D where
  | non | bl (b : Bool) | int (i : Int) | str (x : Str)
  | tup (xs : List D) | lst (xs : List D)
  | dct (ks : List Key) (vs : List D)
  | dcu (ks : List (List Key)) (vs : List D)
  | scr (xs : List D)
  | ref (n : Nat) | ty (n : String) | own (c : Nat) | exc (c : Nat) | fn (f : Nat) | clo (j : Nat)
inductive Ob where
  | lst (xs : List D)
  | dic (ks : List Key) (vs : List D)
  | dit (ks : List (List Key)) (vs : List D)
  | ins (c : Nat) (ns : List Str) (vs : List D)
abbrev Hs := List Ob
abbrev Env := List (Option D)

inductive R (α : Type) where
  | ok (a : α) (h : Hs)
  | ex (c : Nat) (h : Hs)
  | bad
@[reducible] def R.bind {α β : Type} (r : R α) (f : α → Hs → R β) : R β :=
  match r with
  | .ok a h => f a h
  | .ex c h => .ex c h
  | .bad => .bad
/-- flows of statements -/
inductive RS where
  | nx (e : Env) (h : Hs) | rt (d : D) (h : Hs) | bk (e : Env) (h : Hs) | ct (e : Env) (h : Hs)
  | ex (c : Nat) (e : Env) (h : Hs) | bad
def R.seq {α : Type} (r : R α) (e : Env) (f : α → Hs → RS) : RS :=
  match r with
  | .ok a h => f a h
  | .ex c h => .ex c e h
  | .bad => .bad

/-! plain data -/
mutual
def toPy : D → Option PyData
  | .non => some .none
  | .bl b => some (.bool b)
  | .int i => some (.int i)
  | .str x => some (.str x)
  | .tup xs => (toPys xs).map .tuple
  | .lst xs => (toPys xs).map .list
  | .dct _ _ => none
  | .dcu _ _ => none
  | .scr _ => none
  | .ref _ => none
  | .ty _ => none
  | .own _ => none
  | .exc _ => none
  | .fn _ => none
  | .clo _ => none
def toPys : List D → Option (List PyData)
  | [] => some []
  | x :: xs => match toPy x, toPys xs with
    | some p, some ps => some (p :: ps)
    | _, _ => none
end
/-- a mutable list or dict as it stands -/
def look (h : Hs) : D → D
  | .ref n => match h[n]? with
    | some (.lst xs) => .lst xs
    | some (.dic ks vs) => .dct ks vs
    | some (.dit ks vs) => .dcu ks vs
    | _ => .ref n
  | d => d
def items (h : Hs) (d : D) : Option (List D) := match look h d with
  | .lst xs => some xs
  | .tup xs => some xs
  | .scr xs => some xs
  | _ => none
def most : Nat := 1000000
/-- a new list -/
def mkL (m : Bool) (xs : List D) (h : Hs) : R D :=
  if xs.length ≤ most then (if m then .ok (.ref h.length) (h ++ [.lst xs]) else .ok (.lst xs) h) else .bad
def mkT (xs : List D) (h : Hs) : R D := if xs.length ≤ most then .ok (.tup xs) h else .bad
def keyOf : D → Option Key
  | .int i => some (.inl i)
  | .str x => some (.inr x)
  | _ => none
def keysU : List D → Option (List Key)
  | [] => some []
  | d :: ds => match keyOf d, keysU ds with
    | some k, some ks => some (k :: ks)
    | _, _ => none
def findK {κ : Type} [DecidableEq κ] : List κ → List D → κ → Option D
  | k :: ks, v :: vs, x => if k = x then some v else findK ks vs x
  | _, _, _ => none
def putKs : List Key → List D → Key → D → List Key × List D
  | k :: ks, v :: vs, x, y => if k = x then (k :: ks, y :: vs) else let r := putKs ks vs x y; (k :: r.1, v :: r.2)
  | _, _, x, y => ([x], [y])

/-! operators -/
def small (i : Int) : Bool := decide (-(2 ^ 64) < i) && decide (i < 2 ^ 64)
def addD (m : Bool) (x y : D) (h : Hs) : R D :=
  match x, y with
  | .int i, .int j => .ok (.int (i + j)) h
  | .tup xs, .tup ys => mkT (xs ++ ys) h
  | .str a, .str b => if a.length + b.length ≤ most then .ok (.str (a ++ b)) h else .bad
  | a, b => match look h a, look h b with
    | .lst xs, .lst ys => mkL m (xs ++ ys) h
    | _, _ => .bad
def subD (x y : D) (h : Hs) : R D :=
  match x, y with
  | .int i, .int j => .ok (.int (i - j)) h
  | _, _ => .bad
def mulD (m : Bool) (x y : D) (h : Hs) : R D :=
  match x, y with
  | .int i, .int j => if small i || small j then .ok (.int (i * j)) h else .bad
  | a, .int k => match look h a with
    | .lst xs => if decide (-1000000 ≤ k) && decide (k ≤ 1000000) && decide (xs.length * k.toNat ≤ most) then mkL m (List.replicate k.toNat xs).flatten h else .bad
    | _ => .bad
  | _, _ => .bad
def fdivD (x y : D) (h : Hs) : R D :=
  match x, y with
  | .int i, .int j => if decide (0 < j) && decide (j < 1073741824) then .ok (.int (i / j)) h else .bad
  | _, _ => .bad
def modD (x y : D) (h : Hs) : R D :=
  match x, y with
  | .int i, .int j => if decide (0 < j) then .ok (.int (i % j)) h else .bad
  | _, _ => .bad
def powD (x y : D) (h : Hs) : R D :=
  match x, y with
  | .int i, .int j => if decide (0 ≤ j) && decide (j ≤ 1000000) && decide (i.natAbs < 2 ^ 64) then .ok (.int (i ^ j.toNat)) h else .bad
  | _, _ => .bad
def opD (m : Bool) (o : Operator) (x y : D) (h : Hs) : R D :=
  match o with
  | .Add => addD m x y h
  | .Sub => subD x y h
  | .Mult => mulD m x y h
  | .FloorDiv => fdivD x y h
  | .Mod => modD x y h
  | .Pow => powD x y h
  | _ => .bad

def shp (p : PyData) : Bool := SeqAt.shaped p
def eqO (x y : D) (h : Hs) : Option Bool :=
  match toPy (look h x), toPy (look h y) with
  | some p, some q => if shp p && shp q then some (PyData.eqv p q) else none
  | _, _ => none
/-- with an empty one: whatever the other one holds -/
def eqE (x y : D) (h : Hs) : Option Bool :=
  match look h x, look h y with
  | .tup xs, .tup [] => some xs.isEmpty
  | .lst xs, .lst [] => some xs.isEmpty
  | _, _ => none
def eqC (x y : D) (h : Hs) : Option Bool := match eqO x y h with
  | some b => some b
  | none => eqE x y h
/-- the same, all through -/
def all2 (f : D → D → Bool) : List D → List D → Bool
  | [], [] => true
  | x :: xs, y :: ys => f x y && all2 f xs ys
  | _, _ => false
def allK (f : D → D → Bool) (js : List (List Key)) (ws : List D) : List (List Key) → List D → Bool
  | [], [] => true
  | k :: ks, v :: vs => (match findK js ws k with
    | some w => f v w
    | none => false) && allK f js ws ks vs
  | _, _ => false
def sameN : Nat → D → D → Bool
  | 0, _, _ => false
  | n + 1, x, y => match x, y with
    | .non, .non => true
    | .bl a, .bl b => decide (a = b)
    | .int i, .int j => decide (i = j)
    | .str a, .str b => decide (a = b)
    | .tup xs, .tup ys => all2 (sameN n) xs ys
    | .dcu ks vs, .dcu js ws => decide (ks.length = js.length) && allK (sameN n) js ws ks vs
    | _, _ => false
def eqS (x y : D) (h : Hs) : Option Bool :=
  match look h x, look h y with
  | .tup xs, .tup ys => if all2 (sameN 50) xs ys then some true else none
  | _, _ => none
def orO (a b : Option Bool) : Option Bool := match a with
  | some c => some c
  | none => b
def ltC (f : Int → Int → Bool) (x y : D) : Option Bool :=
  match x, y with
  | .int i, .int j => some (f i j)
  | _, _ => none
def inC (x y : D) (h : Hs) : Option Bool :=
  match look h y with
  | .lst ys => match toPy (look h x), toPys ys with
    | some p, some qs => if shp p && shp (.list qs) then some (qs.any fun z => PyData.eqv z p) else none
    | _, _ => none
  | .tup ys => match toPy (look h x), toPys ys with
    | some p, some qs => if shp p && shp (.list qs) then some (qs.any fun z => PyData.eqv z p) else none
    | _, _ => none
  | .dct ks _ => match keyOf x with
    | some k => some (ks.any fun z => decide (z = k))
    | none => none
  | _ => none
def isC (x y : D) : Option Bool :=
  match y with
  | .non => match x with
    | .non => some true
    | _ => some false
  | .bl b => match x with
    | .bl a => some (decide (a = b))
    | .non => some false
    | .int _ => some false
    | .str _ => some false
    | _ => none
  | _ => none
/-- x op y, whether it is true -/
def cmpD (o : CmpOp) (x y : D) (h : Hs) : Option Bool :=
  match o with
  | .Eq => orO (eqC x y h) (eqS x y h)
  | .NotEq => orO ((eqO x y h).map (!·)) ((eqS x y h).map (!·))
  | .Lt => ltC (fun i j => decide (i < j)) x y
  | .LtE => ltC (fun i j => decide (i ≤ j)) x y
  | .Gt => ltC (fun i j => decide (j < i)) x y
  | .GtE => ltC (fun i j => decide (j ≤ i)) x y
  | .In => inC x y h
  | .NotIn => (inC x y h).map (!·)
  | .Is => isC x y
  | .IsNot => (isC x y).map (!·)
end Iv

namespace Iv
open PySem L2

/-! what isinstance asks of: a built-in type by name, an own class by number -/
inductive CT where
  | bt (n : String) | ow (c : Nat)
/-- built-in functions -/
inductive Bi where
  | len | abs | int | list | tuple | all | any | sum | sorted | range1 | range2 | min2 | max2 | maxL | minL
  deriving DecidableEq
/-- methods of lists and dicts -/
inductive Me where
  | append | pop | popAt | clear | count
  deriving DecidableEq
def rngD (lo hi : Int) : List D := (List.range (hi - lo).toNat).map fun i => .int (lo + (i : Nat))
def rngOk (i : Int) : Bool := decide (-1000000000 ≤ i) && decide (i ≤ 1000000000)
def zipD : List D → List D → List D
  | x :: xs, y :: ys => .tup [x, y] :: zipD xs ys
  | _, _ => []

end Iv

set_option maxRecDepth 100000
namespace Iv
open PySem PySem.Spec PyProof.Rows L2
abbrev Sg := List (Option V)

/-- the written part's classes and defs, by number; the tables of code objects -/
structure Tb where
  cls : Nat → Addr
  fna : Nat → Addr
  tbs : List (Addr × Str)
  clo : Nat → Addr → Option ((Addr → Heap → Prop) × Str)

/-- a list that nobody changes: locked, or of the part that stood before -/
def SqS (K : PySem.W.Frag) (H : Hp) (a : Addr) (xs : List V) : Prop := (∃ o, H a = some (.frz o (.lst xs))) ∨
  ∃ (o : Obj) (its : Array Value) (n : Nat), K.lookup a = some o ∧ o.cls = .type "list" ∧ o.dict = none ∧ o.data = .seq its n ∧ its.size ≤ sizeLine ∧ Vals xs its.toList
theorem SqS.l {K : PySem.W.Frag} {H : Hp} {a : Addr} {xs : List V} (h : SqS K H a xs) : SqL K H a xs := h.elim (fun h => .inl (.inr h)) .inr
/-- an exception as a value: its class is known -/
def ExcO (a : Addr) (C : Addr) : HO := .ext fun h => ∃ (oe : Obj) (vs : Array Value), h.get? a = some oe ∧ oe.cls = .ref C ∧ oe.dict = none ∧ oe.data = .fields vs
section
variable (K : PySem.W.Frag) (T : Tb)
mutual
def RelD (H : Hp) (ρ : List Addr) : D → V → Prop
  | .non, v => v = .non
  | .bl b, v => v = .bl b
  | .int i, v => v = .int i
  | .str x, v => v = .str x
  | .tup ds, v => ∃ a vs, v = .ref a ∧ SqT K H a vs ∧ RelDs H ρ ds vs
  | .lst ds, v => ∃ a vs, v = .ref a ∧ H a = some (.lst vs) ∧ a ∉ ρ ∧ RelDs H ρ ds vs
  | .scr ds, v => ∃ a vs, v = .ref a ∧ SqS K H a vs ∧ RelDs H ρ ds vs
  | .dct ks ds, v => ∃ a kvs, v = .ref a ∧ Rd H a (.dK kvs) ∧ a ∉ ρ ∧ kvs.map (·.1) = ks ∧ RelDs H ρ ds (kvs.map (·.2))
  | .dcu ks ds, v => ∃ a kvs, v = .ref a ∧ H a = some (.dT kvs) ∧ a ∉ ρ ∧ kvs.map (·.1) = ks ∧ RelDs H ρ ds (kvs.map (·.2))
  | .ref n, v => ∃ a, v = .ref a ∧ ρ[n]? = some a
  | .ty n, v => v = .ty n
  | .own c, v => v = .ref (T.cls c)
  | .exc c, v => ∃ a, v = .ref a ∧ H a = some (ExcO a (T.cls c))
  | .fn f, v => v = .ref (T.fna f)
  | .clo j, v => ∃ f, v = .ref f ∧ ∀ φ q, T.clo j f = some (φ, q) → ∃ c, H f = some (.ext (φ c)) ∧ H c = some (LamX.CodeO c q)
def RelDs (H : Hp) (ρ : List Addr) : List D → List V → Prop
  | [], vs => vs = []
  | d :: ds, vs => ∃ v r, vs = v :: r ∧ RelD H ρ d v ∧ RelDs H ρ ds r
end
def RelOb (H : Hp) (ρ : List Addr) (a : Addr) : Ob → Prop
  | .lst ds => ∃ vs, H a = some (.lst vs) ∧ RelDs K T H ρ ds vs
  | .dic ks ds => ∃ kvs, H a = some (.dK kvs) ∧ kvs.map (·.1) = ks ∧ RelDs K T H ρ ds (kvs.map (·.2))
  | .dit ks ds => ∃ kvs, H a = some (.dT kvs) ∧ kvs.map (·.1) = ks ∧ RelDs K T H ρ ds (kvs.map (·.2))
  | .ins c ns ds => ∃ dx fs, H a = some (.ins (T.cls c) dx fs) ∧ fs.map (·.1) = ns ∧ RelDs K T H ρ ds (fs.map (·.2))
structure RelH (H : Hp) (ρ : List Addr) (h : Hs) : Prop where
  len : ρ.length = h.length
  nd : ρ.Nodup
  at_ : ∀ (n : Nat) (ob : Ob) (a : Addr), h[n]? = some ob → ρ[n]? = some a → RelOb K T H ρ a ob
  tab : LamX.Tabs T.tbs H
def RelEnv (H : Hp) (ρ : List Addr) (e : Env) (σ : Sg) : Prop := e.length = σ.length ∧ ∀ (i : Nat) (d : D), e[i]? = some (some d) → ∃ v, σ[i]? = some (some v) ∧ RelD K T H ρ d v
end
def Firm : HO → Prop
  | .tbl _ => False
  | .frz _ _ => False
  | .dK _ => False
  | _ => True
/-- later: what is not changed by the program's own stores stays -/
structure Ext (H : Hp) (ρ : List Addr) (H' : Hp) (ρ' : List Addr) : Prop where
  pre : ∃ r, ρ' = ρ ++ r
  stay : ∀ a u, H a = some u → Firm u → a ∉ ρ → H' a = some u ∧ a ∉ ρ'
  dict : ∀ a kvs, Rd H a (.dK kvs) → a ∉ ρ → Rd H' a (.dK kvs) ∧ a ∉ ρ'
  tup : ∀ a xs, Rd H a (.tup xs) → Rd H' a (.tup xs)
  obj : ∀ a φ, H a = some (.ext φ) → H' a = some (.ext φ)
  frz : ∀ a o u, H a = some (.frz o u) → H' a = some (.frz o u)
theorem Ext.refl (H : Hp) (ρ : List Addr) : Ext H ρ H ρ := ⟨⟨[], by simp⟩, fun a u h _ n => ⟨h, n⟩, fun _ _ h n => ⟨h, n⟩, fun _ _ h => h, fun _ _ h => h, fun _ _ _ h => h⟩
theorem Ext.trans {H H1 H2 : Hp} {ρ ρ1 ρ2 : List Addr} (a : Ext H ρ H1 ρ1) (b : Ext H1 ρ1 H2 ρ2) : Ext H ρ H2 ρ2 := by
  obtain ⟨r, e⟩ := a.pre
  obtain ⟨r', e'⟩ := b.pre
  exact ⟨⟨r ++ r', by rw [e', e, List.append_assoc]⟩, fun c u h f n => let ⟨x, y⟩ := a.stay c u h f n; b.stay c u x f y, fun c u h n => let ⟨x, y⟩ := a.dict c u h n; b.dict c u x y,
    fun c xs h => b.tup c xs (a.tup c xs h), fun c φ h => b.obj c φ (a.obj c φ h), fun c o xs h => b.frz c o xs (a.frz c o xs h)⟩
section
variable {K : PySem.W.Frag} {T : Tb} {H H' : Hp} {ρ ρ' : List Addr}
theorem Ext.sqT (x : Ext H ρ H' ρ') {a : Addr} {vs : List V} (h : SqT K H a vs) : SqT K H' a vs := h.elim (fun h => .inl (x.tup a vs h)) .inr
theorem Ext.sqS (x : Ext H ρ H' ρ') {a : Addr} {vs : List V} (h : SqS K H a vs) : SqS K H' a vs := h.elim (fun ⟨o, h⟩ => .inl ⟨o, x.frz a o _ h⟩) .inr
theorem Ext.get (x : Ext H ρ H' ρ') {n : Nat} {a : Addr} (h : ρ[n]? = some a) : ρ'[n]? = some a := by
  obtain ⟨r, e⟩ := x.pre
  rw [e, List.getElem?_append_left (List.getElem?_eq_some_iff.mp h).1]
  exact h
mutual
theorem RelD.mono (x : Ext H ρ H' ρ') : ∀ {d : D} {v : V}, RelD K T H ρ d v → RelD K T H' ρ' d v
  | .non, _, h => by unfold RelD at h ⊢; exact h
  | .bl b, _, h => by unfold RelD at h ⊢; exact h
  | .int i, _, h => by unfold RelD at h ⊢; exact h
  | .str y, _, h => by unfold RelD at h ⊢; exact h
  | .tup ds, v, h => by
    unfold RelD at h ⊢
    obtain ⟨a, vs, e, s, r⟩ := h
    exact ⟨a, vs, e, x.sqT s, RelDs.mono x r⟩
  | .lst ds, v, h => by
    unfold RelD at h ⊢
    obtain ⟨a, vs, e, s, n, r⟩ := h
    obtain ⟨s', n'⟩ := x.stay a _ s trivial n
    exact ⟨a, vs, e, s', n', RelDs.mono x r⟩
  | .scr ds, v, h => by
    unfold RelD at h ⊢
    obtain ⟨a, vs, e, s, r⟩ := h
    exact ⟨a, vs, e, x.sqS s, RelDs.mono x r⟩
  | .dct ks ds, v, h => by
    unfold RelD at h ⊢
    obtain ⟨a, kvs, e, s, n, k, r⟩ := h
    obtain ⟨s', n'⟩ := x.dict a _ s n
    exact ⟨a, kvs, e, s', n', k, RelDs.mono x r⟩
  | .dcu ks ds, v, h => by
    unfold RelD at h ⊢
    obtain ⟨a, kvs, e, s, n, k, r⟩ := h
    obtain ⟨s', n'⟩ := x.stay a _ s trivial n
    exact ⟨a, kvs, e, s', n', k, RelDs.mono x r⟩
  | .ref n, v, h => by
    unfold RelD at h ⊢
    obtain ⟨a, e, q⟩ := h
    exact ⟨a, e, x.get q⟩
  | .ty n, _, h => by unfold RelD at h ⊢; exact h
  | .own n, _, h => by unfold RelD at h ⊢; exact h
  | .exc c, v, h => by
    unfold RelD at h ⊢
    obtain ⟨a, e, q⟩ := h
    exact ⟨a, e, x.obj a _ q⟩
  | .fn n, _, h => by unfold RelD at h ⊢; exact h
  | .clo j, v, h => by
    unfold RelD at h ⊢
    obtain ⟨f, e, q⟩ := h
    refine ⟨f, e, fun φ r z => ?_⟩
    obtain ⟨c, h1, h2⟩ := q φ r z
    exact ⟨c, x.obj f _ h1, x.obj c _ h2⟩
theorem RelDs.mono (x : Ext H ρ H' ρ') : ∀ {ds : List D} {vs : List V}, RelDs K T H ρ ds vs → RelDs K T H' ρ' ds vs
  | [], _, h => by unfold RelDs at h ⊢; exact h
  | d :: ds, vs, h => by
    unfold RelDs at h ⊢
    obtain ⟨v, r, e, h1, h2⟩ := h
    exact ⟨v, r, e, RelD.mono x h1, RelDs.mono x h2⟩
end
theorem RelEnv.mono (x : Ext H ρ H' ρ') {e : Env} {σ : Sg} (h : RelEnv K T H ρ e σ) : RelEnv K T H' ρ' e σ := ⟨h.1, fun i d q => let ⟨v, a, b⟩ := h.2 i d q; ⟨v, a, b.mono x⟩⟩

/-! ### what may come of a program -/
def PostV {α β : Type} (K : PySem.W.Frag) (T : Tb) (Rel : Hp → List Addr → α → β → Prop) (H : Hp) (ρ : List Addr) (r : R α) (Q : β → Hp → Prop) (Wx : Value → Option Addr → Hp → Prop) : Prop :=
  match r with
  | .ok d h' => ∀ H' ρ' v, Ext H ρ H' ρ' → RelH K T H' ρ' h' → Rel H' ρ' d v → Q v H'
  | .ex c h' => ∀ H' ρ', Ext H ρ H' ρ' → RelH K T H' ρ' h' → Wx (.ref (T.cls c)) none H'
  | .bad => False
theorem PostV.mono {α β : Type} {Rel : Hp → List Addr → α → β → Prop} {r : R α} {Q : β → Hp → Prop} {Wx : Value → Option Addr → Hp → Prop} (x : Ext H ρ H' ρ') (h : PostV K T Rel H ρ r Q Wx) : PostV K T Rel H' ρ' r Q Wx := by
  cases r with
  | ok d h' => exact fun H2 ρ2 v x2 => h H2 ρ2 v (x.trans x2)
  | ex c h' => exact fun H2 ρ2 x2 => h H2 ρ2 (x.trans x2)
  | bad => exact h
abbrev M := Env → Hs → R D
/-- the reading that a piece has by its program -/
def tG {α β : Type} (K : PySem.W.Frag) (T : Tb) (W : WX) (Rel : Hp → List Addr → α → β → Prop) (m : Env → Hs → R α) (σ : Sg) (H : Hp) (Q : β → Hp → Prop) : Prop :=
  ∃ ρ env h, RelH K T H ρ h ∧ RelEnv K T H ρ env σ ∧ PostV K T Rel H ρ (m env h) Q (fun c d H' => W c d σ H')
/-- an expression, an argument list, a test -/
abbrev tI (K : PySem.W.Frag) (T : Tb) (W : WX) (m : M) : TE := tG K T W (RelD K T) m
abbrev tIs (K : PySem.W.Frag) (T : Tb) (W : WX) (m : Env → Hs → R (List D)) : TA := tG K T W (RelDs K T) m
def RelB (_ : Hp) (_ : List Addr) (d : D) (b : Bool) : Prop := d = .bl b
abbrev tIT (K : PySem.W.Frag) (T : Tb) (W : WX) (m : M) : TT := tG K T W RelB m
theorem bindI {α β γ δ : Type} {W : WX} {σ : Sg} {h : Hs} {env : Env} {Rel : Hp → List Addr → α → β → Prop} {Rel1 : Hp → List Addr → γ → δ → Prop} {ma : Env → Hs → R γ} {k : γ → Hs → R α} {Q : β → Hp → Prop} (hw : RelH K T H ρ h) (he : RelEnv K T H ρ env σ)
    (p : PostV K T Rel H ρ ((ma env h).bind k) Q (fun c d H' => W c d σ H')) {Q1 : δ → Hp → Prop} (q : ∀ H1 ρ1 x h1 v, Ext H ρ H1 ρ1 → RelH K T H1 ρ1 h1 → RelEnv K T H1 ρ1 env σ → Rel1 H1 ρ1 x v → PostV K T Rel H1 ρ1 (k x h1) Q (fun c d H' => W c d σ H') → Q1 v H1) :
    tG K T W Rel1 ma σ H Q1 := by
  refine ⟨ρ, env, h, hw, he, ?_⟩
  cases e : ma env h with
  | ok x h1 =>
    rw [e] at p
    exact fun H1 ρ1 v x1 r1 d1 => q H1 ρ1 x h1 v x1 r1 (he.mono x1) d1 (PostV.mono x1 p)
  | ex c h1 =>
    rw [e] at p
    exact p
  | bad =>
    rw [e] at p
    exact p.elim
end
end Iv

set_option maxRecDepth 100000
namespace Iv
open PySem PySem.Spec PyProof.Rows L2
section
variable {K : PySem.W.Frag} {T : Tb} {H H' : Hp} {ρ ρ' : List Addr} {h : Hs}
theorem rd_upd {a p : Addr} {o u : HO} (hp : a ≠ p) (r : Rd H a u) : Rd (upd H p o) a u := by
  rcases r with r | ⟨w, r⟩
  · exact .inl (by rw [L2.upd_ne hp]; exact r)
  · exact .inr ⟨w, by rw [L2.upd_ne hp]; exact r⟩
theorem rd_some {a : Addr} {u : HO} (r : Rd H a u) : H a ≠ none := by
  rcases r with r | ⟨w, r⟩ <;> (rw [r]; exact fun z => nomatch z)
theorem RelH.mem_some (R : RelH K T H ρ h) {a : Addr} (hm : a ∈ ρ) : ∃ o, H a = some o ∧ Mut (some o) ∧ (∀ φ, o ≠ .ext φ) := by
  obtain ⟨n, hn⟩ := List.getElem?_of_mem hm
  have hlt : n < h.length := by rw [← R.len]; exact (List.getElem?_eq_some_iff.mp hn).1
  have q := R.at_ n h[n] a (List.getElem?_eq_getElem hlt) hn
  cases e : h[n] with
  | lst ds => rw [e] at q; obtain ⟨vs, q, _⟩ := q; exact ⟨_, q, trivial, fun φ z => nomatch z⟩
  | dic ks ds => rw [e] at q; obtain ⟨vs, q, _⟩ := q; exact ⟨_, q, trivial, fun φ z => nomatch z⟩
  | dit ks ds => rw [e] at q; obtain ⟨vs, q, _⟩ := q; exact ⟨_, q, trivial, fun φ z => nomatch z⟩
  | ins c ns ds => rw [e] at q; obtain ⟨dx, fs, q, _⟩ := q; exact ⟨_, q, trivial, fun φ z => nomatch z⟩
/-- a new object that the program will not change -/
theorem Ext.new {p : Addr} {o : HO} (hp : H p = none) : Ext H ρ (upd H p o) ρ := by
  have ne : ∀ a u, H a = some u → a ≠ p := fun a u e z => by rw [z, hp] at e; cases e
  have neR : ∀ a u, Rd H a u → a ≠ p := fun a u r z => by rw [z] at r; exact rd_some r hp
  exact ⟨⟨[], by simp⟩, fun a u e _ n => ⟨by rw [upd_ne (ne a u e)]; exact e, n⟩, fun a kvs e n => ⟨rd_upd (neR a _ e) e, n⟩, fun a xs e => rd_upd (neR a _ e) e,
    fun a φ e => by rw [upd_ne (ne a _ e)]; exact e, fun a w xs e => by rw [upd_ne (ne a _ e)]; exact e⟩
theorem RelOb.mono (x : Ext H ρ H' ρ') {a : Addr} {ob : Ob} (k : H' a = H a) (r : RelOb K T H ρ a ob) : RelOb K T H' ρ' a ob := by
  cases ob with
  | lst ds => obtain ⟨vs, e, r⟩ := r; exact ⟨vs, k.trans e, RelDs.mono x r⟩
  | dic ks ds => obtain ⟨kvs, e, z, r⟩ := r; exact ⟨kvs, k.trans e, z, RelDs.mono x r⟩
  | dit ks ds => obtain ⟨kvs, e, z, r⟩ := r; exact ⟨kvs, k.trans e, z, RelDs.mono x r⟩
  | ins c ns ds => obtain ⟨dx, fs, e, z, r⟩ := r; exact ⟨dx, fs, k.trans e, z, RelDs.mono x r⟩
theorem RelH.new (R : RelH K T H ρ h) {p : Addr} {o : HO} (hp : H p = none) : RelH K T (upd H p o) ρ h := by
  refine ⟨R.len, R.nd, fun n ob a e1 e2 => (R.at_ n ob a e1 e2).mono (Ext.new hp) ?_, R.tab.ext fun b u e => by rw [upd_ne (ne_of_none e hp)]; exact e⟩
  obtain ⟨u, e, _⟩ := R.mem_some (List.mem_of_getElem? e2)
  rw [upd_ne (ne_of_none e hp)]
/-- a new object that the program may change -/
theorem Ext.alloc {p : Addr} {o : HO} (hp : H p = none) : Ext H ρ (upd H p o) (ρ ++ [p]) := by
  have ne : ∀ a u, H a = some u → a ≠ p := fun a u e z => by rw [z, hp] at e; cases e
  have neR : ∀ a u, Rd H a u → a ≠ p := fun a u r z => by rw [z] at r; exact rd_some r hp
  have no : ∀ {a : Addr}, a ∉ ρ → a ≠ p → a ∉ ρ ++ [p] := fun n q z => (List.mem_append.mp z).elim n fun z => q (by simpa using z)
  exact ⟨⟨[p], rfl⟩, fun a u e _ n => ⟨by rw [upd_ne (ne a u e)]; exact e, no n (ne a u e)⟩, fun a kvs e n => ⟨rd_upd (neR a _ e) e, no n (neR a _ e)⟩, fun a xs e => rd_upd (neR a _ e) e,
    fun a φ e => by rw [upd_ne (ne a _ e)]; exact e, fun a w xs e => by rw [upd_ne (ne a _ e)]; exact e⟩
theorem RelH.alloc (R : RelH K T H ρ h) {p : Addr} {o : HO} {ob : Ob} (hp : H p = none) (hob : RelOb K T (upd H p o) (ρ ++ [p]) p ob) : RelH K T (upd H p o) (ρ ++ [p]) (h ++ [ob]) := by
  have np : p ∉ ρ := fun z => by
    obtain ⟨u, e, _⟩ := R.mem_some z
    rw [hp] at e; cases e
  refine ⟨by rw [List.length_append, List.length_append, R.len]; rfl, ?_, fun n ob' a e1 e2 => ?_, R.tab.ext fun b u e => by rw [upd_ne (ne_of_none e hp)]; exact e⟩
  · rw [List.nodup_append]
    exact ⟨R.nd, by simp, fun a ha b hb => by rw [List.mem_singleton] at hb; subst hb; exact fun z => np (z ▸ ha)⟩
  · by_cases hn : n < h.length
    · rw [List.getElem?_append_left hn] at e1
      rw [List.getElem?_append_left (by rw [R.len]; exact hn)] at e2
      refine (R.at_ n ob' a e1 e2).mono (Ext.alloc hp) ?_
      obtain ⟨u, e, _⟩ := R.mem_some (List.mem_of_getElem? e2)
      rw [upd_ne (ne_of_none e hp)]
    · have hn' : n = h.length := by
        have := (List.getElem?_eq_some_iff.mp e1).1
        rw [List.length_append, List.length_singleton] at this
        omega
      subst hn'
      rw [List.getElem?_append_right (Nat.le_refl _), Nat.sub_self] at e1
      rw [← R.len, List.getElem?_append_right (Nat.le_refl _), Nat.sub_self] at e2
      cases Option.some.inj e1
      cases Option.some.inj e2
      exact hob
/-- a store -/
theorem Ext.put (R : RelH K T H ρ h) {a : Addr} {o : HO} (ha : a ∈ ρ) : Ext H ρ (upd H a o) ρ := by
  obtain ⟨w, ew, mw, nw⟩ := R.mem_some ha
  have ne : ∀ b, b ∉ ρ → b ≠ a := fun b n z => n (z ▸ ha)
  refine ⟨⟨[], by simp⟩, fun b u e _ n => ⟨by rw [upd_ne (ne b n)]; exact e, n⟩, fun b kvs e n => ⟨rd_upd (ne b n) e, n⟩, fun b xs e => ?_, fun b φ e => ?_, fun b q xs e => ?_⟩
  · refine rd_upd (fun z => ?_) e
    rw [z] at e
    rcases e with e | ⟨q, e⟩
    · rw [ew] at e; cases e; exact mw
    · rw [ew] at e; cases e; exact mw
  · rw [upd_ne]
    · exact e
    · intro z
      rw [z, ew] at e
      exact nw φ (Option.some.inj e)
  · rw [upd_ne]
    · exact e
    · intro z
      rw [z, ew] at e
      cases e
      exact mw
theorem tabs_put {P : List (Addr × Str)} {a : Addr} {o w : HO} (t : LamX.Tabs P H) (ew : H a = some w) (mw : Mut (some w)) (nw : ∀ φ, w ≠ .ext φ) : LamX.Tabs P (upd H a o) := fun p hp => by
  obtain ⟨ps, h1, h2, h3⟩ := t p hp
  refine ⟨ps, ?_, h2, fun pos cv hc => ?_⟩
  · rw [upd_ne]
    · exact h1
    · intro z
      rw [z, ew] at h1
      cases h1
      exact mw
  · obtain ⟨c, e1, e2⟩ := h3 pos cv hc
    refine ⟨c, e1, ?_⟩
    rw [upd_ne]
    · exact e2
    · intro z
      rw [z, ew] at e2
      exact nw _ (Option.some.inj e2)
theorem RelH.put (R : RelH K T H ρ h) {n : Nat} {a : Addr} {o : HO} {ob : Ob} (hn : ρ[n]? = some a) (hob : RelOb K T (upd H a o) ρ a ob) : RelH K T (upd H a o) ρ (h.set n ob) := by
  have ha := List.mem_of_getElem? hn
  obtain ⟨w, ew, mw, nw⟩ := R.mem_some ha
  refine ⟨by rw [List.length_set]; exact R.len, R.nd, fun m ob' b e1 e2 => ?_, tabs_put R.tab ew mw nw⟩
  by_cases hm : m = n
  · subst hm
    rw [hn] at e2
    cases e2
    have hlt : m < h.length := by rw [← R.len]; exact (List.getElem?_eq_some_iff.mp hn).1
    rw [List.getElem?_set_self hlt] at e1
    cases e1
    exact hob
  · rw [List.getElem?_set_ne (Ne.symm hm)] at e1
    refine (R.at_ m ob' b e1 e2).mono (Ext.put R ha) ?_
    rw [upd_ne]
    intro z
    subst z
    have q := List.getElem?_eq_some_iff.mp hn
    have q' := List.getElem?_eq_some_iff.mp e2
    exact hm ((List.getElem_inj R.nd).mp (q'.2.trans q.2.symm))
end
end Iv

set_option maxRecDepth 100000
namespace Iv
open PySem PySem.Spec PyProof.Rows L2
open PySem.SeqAt (EqP EqAt)
/-! == and != of tuples that hold dicts with tuple keys: where they are the same -/
section
variable {prog : Program} {w : World} {κ : Type} [DecidableEq κ] {knd : HeapKind prog w κ} {A : Around} {E : Value → Shared → Prop} {s : Shared}
theorem pairs_u {nm : String} {a b : Addr} {xa xb : List (κ × Addr × Value)} {Q : Bool → Shared → Prop} (hu : knd.room A) (ha : (a == sysModules) = false) (hb : (b == sysModules) = false) (da : s.heap.DictOfH knd a xa) (db : s.heap.DictOfH knd b xb) (hl : xa.length = xb.length)
    (hits : ∀ (i : Nat) (k : κ) (p : Addr × Value), xa[i]? = some (k, p) → ∃ (j : Nat) (q : Addr × Value), xb[j]? = some (k, q) ∧ EqP prog w A s p.2 q.2 true) (h : Q true s) : wpAny (model prog w) A (Builtin.Dict.samePairs nm a b) Q E s := by
  obtain ⟨oa, ea, pa, ga, _, fa, la, ka, na⟩ := da
  obtain ⟨ob, eb, pb, gb, _, fb, lb, kb, nb⟩ := db
  have za : ea.size = xa.length := size_of_entries la
  have zb : eb.size = xb.length := size_of_entries lb
  unfold Builtin.Dict.samePairs Builtin.Dict.showsAll
  rw [ha, hb, if_neg Bool.false_ne_true]
  refine wpAny_bind (wpAny_pure (wpAny_bind (wpAny_pure (wpAny_bind (wpAny_dictEntries ga fa ?_)))))
  dsimp only
  refine wpAny_bind (wpAny_dictEntries gb fb ?_)
  rw [if_neg (by rw [za, zb, hl]; simp)]
  refine wpAny_bind (wpAny_dictEpoch ga fa (wpAny_bind ?_))
  rw [Std.Legacy.Range.forIn_eq_forIn_range']
  simp only [Std.Legacy.Range.size, Nat.sub_zero, Nat.add_sub_cancel, Nat.div_one]
  refine wpAny_forIn_list _ (fun l q t => t = s ∧ q = (none, ()) ∧ ∃ i, l = List.range' i (ea.size - i)) _ ?_ ?_ _ _ ⟨rfl, rfl, 0, rfl⟩
  · rintro x l q t ⟨rfl, rfl, i, el⟩
    have hi : i < ea.size := Nat.lt_of_not_le fun z => by rw [Nat.sub_eq_zero_of_le z] at el; cases el
    rw [show ea.size - i = (ea.size - (i + 1)) + 1 by omega, List.range'_succ] at el
    injection el with e1 e2
    subst e1
    refine wpAny_bind (wpAny_dictEntries ga fa ?_)
    have hx : x < xa.length := za ▸ hi
    obtain ⟨k, p, ep⟩ : ∃ k p, xa[x]? = some (k, p) := ⟨xa[x].1, xa[x].2, by rw [List.getElem?_eq_getElem hx]⟩
    obtain ⟨j, q, eq, same⟩ := hits x k p ep
    have een : ea[x]? = some (entryOfKey knd (k, p)) := by rw [entry_at la x, ep]; rfl
    have fen : eb[j]? = some (entryOfKey knd (k, q)) := by rw [entry_at lb j, eq]; rfl
    rw [een]
    have isk : knd.is t.heap k p.1 := ka (k, p) (List.mem_of_getElem? ep)
    show wpAny _ _ (holding [Value.ref p.1, p.2] _ >>= _) _ _ _
    refine wpAny_bind (wpAny_holding (wpAny_bind ?_))
    show wpAny _ _ (dictFind b (.ref p.1) (knd.hash k)) _ _ _
    refine wpAny_dictFind_heap hu isk gb fb lb kb nb (fun no => absurd eq (no j q)) fun j' q' eq' => ?_
    have ej : j' = j := idxH_unique nb eq' eq
    subst ej
    refine wpAny_bind (wpAny_dictEntries gb fb ?_)
    rw [fen]
    refine wpAny_holding (same _ _ ?_)
    show wpAny _ _ (if (!true) = true then _ else _) _ _ _
    rw [if_neg (by decide)]
    refine wpAny_bind (wpAny_dictEpoch ga fa ?_)
    rw [if_neg (by simp)]
    exact wpAny_pure ⟨rfl, rfl, x + 1, e2⟩
  · rintro q t ⟨rfl, rfl, i, el⟩
    exact wpAny_pure h
theorem dicts_u {a b : Addr} {xa xb : List (κ × Addr × Value)} {Q : Value → Shared → Prop} (hu : knd.room A.in1) (hu' : A.units < cLine) (ha : (a == sysModules) = false) (hb : (b == sysModules) = false) (da : s.heap.DictOfH knd a xa) (db : s.heap.DictOfH knd b xb) (hl : xa.length = xb.length)
    (hits : ∀ (i : Nat) (k : κ) (p : Addr × Value), xa[i]? = some (k, p) → ∃ (j : Nat) (q : Addr × Value), xb[j]? = some (k, q) ∧ EqP prog w A.in1 s p.2 q.2 true) (h : Q (.bool true) s) : wpAny (model prog w) A (richCompare .Eq (.ref a) (.ref b)) Q E s := by
  refine wpAny_richCompare_same_room (op := .Eq) da.typeIs db.typeIs PySem.F.slot_dict_eq (wpAny_call_entry PySem.F.slot_dict_eq da.typeIs PySem.F.entry_dict_eq ?_ (PySem.F.args_dict_eq_2 _ _)) hu'
  show wpAny _ _ (Builtin.Dict.dictSlotArgs "__eq__" ⟨[.ref a, .ref b], []⟩ >>= _) _ _ s
  refine wpAny_bind ?_
  unfold Builtin.Dict.dictSlotArgs
  refine wpAny_bind (wpAny_notOrdered_dict da.typeIs ?_)
  show wpAny _ _ (pure (Value.ref a, Value.ref b)) _ _ s
  refine wpAny_pure (wpAny_bind (wpAny_isInstance (T := "dict") db.typeIs PySem.F.sub_dict_dict ?_))
  simp only [Bool.not_true, Bool.false_eq_true, if_false]
  exact wpAny_bind (wpAny_pure (wpAny_bind (wpAny_pure (wpAny_bind (pairs_u hu ha hb da db hl hits (wpAny_pure ⟨_, rfl, (fun x => nomatch x), h⟩))))))
end
/-- (..) != (..), all items equal -/
theorem tuple_ne_u {prog : Program} {w : World} (l b : Addr) (xs ys : Array Value) (n m : Nat) (dl db : Option Addr) (sl sb : Array (Option Value)) (hz : xs.size = ys.size) :
    MeetsIn prog w (Builtin.«tuple.__ne__» ⟨[.ref l, .ref b], []⟩) (fun A R s => s.heap.get? l = some { cls := .type "tuple", dict := dl, data := .seq xs n, slots := sl } ∧ s.heap.get? b = some { cls := .type "tuple", dict := db, data := .seq ys m, slots := sb } ∧
      (∀ p ∈ xs.toList.zip ys.toList, EqP prog w A.in1 s p.1 p.2 true) ∧ R (.ok (.ret (.bool false))) s) :=
  .of_wp fun A R s h => by
    obtain ⟨hp, g, d, tk, os⟩ := s
    obtain ⟨hl, hb, he, h⟩ := h
    have f2 := AutoSeq1.sub_tuple_tuple
    wp_walk using AutoSeq1.wpAny_loadPart' hl, AutoSeq1.wpAny_loadPart' hb, PySem.wpAny_forIn_list _ (fun r q t => q.1 = none ∧ t = ⟨hp, g, d, tk, os⟩ ∧ ∀ p : Value × Value, p ∈ r → EqP prog w A.in1 ⟨hp, g, d, tk, os⟩ p.1 p.2 true) _
    case turn =>
      rintro ⟨y, x⟩ r q t ⟨hq, rfl, hr⟩
      refine wpAny_bind (hr (y, x) List.mem_cons_self _ _ ?_)
      wp_walk
      exact ⟨rfl, rfl, fun p hp => hr p (List.mem_cons_of_mem _ hp)⟩
    case fin =>
      rintro ⟨q1, q2⟩ t ⟨hq, rfl, _⟩
      simp only at hq
      subst hq
      wp_walk
      exact ⟨_, rfl, by simpa [Builtin.Tuple.tupleCompareSizes, bne, hz] using h⟩
    case h =>
      exact ⟨rfl, rfl, he⟩
/-- the same, of nesting below n -/
def EqU (K : PySem.W.Frag) (H : Hp) : Nat → V → V → Prop
  | 0 => fun _ _ => False
  | n + 1 => fun x y => (x = y ∧ flatB x = true) ∨ (∃ a b xs ys, x = .ref a ∧ y = .ref b ∧ SqT K H a xs ∧ SqT K H b ys ∧ Paired (EqU K H n) xs ys) ∨
      ∃ a b ks ls, x = .ref a ∧ y = .ref b ∧ H a = some (.dT ks) ∧ H b = some (.dT ls) ∧ ks.length = ls.length ∧ ∀ p ∈ ks, ∃ u, valV ls p.1 = some u ∧ EqU K H n p.2 u
theorem paired_get {α β : Type} {F : α → β → Prop} {l : List α} {m : List β} (r : Paired F l m) : ∀ {i : Nat} {y : β}, m[i]? = some y → ∃ x, l[i]? = some x ∧ F x y := by
  induction r with
  | nil => intro i y e; simp at e
  | cons h _ ih =>
    intro i y e
    cases i with
    | zero => cases e; exact ⟨_, rfl, h⟩
    | succ i => exact ih (i := i) e
theorem atKey_get {κ : Type} [DecidableEq κ] {xs : List (κ × Addr × Value)} {k : κ} {q : Addr × Value} (e : atKey xs k = some q) : ∃ j : Nat, xs[j]? = some (k, q) := by
  unfold atKey at e
  obtain ⟨x, e1, rfl⟩ := Option.map_eq_some_iff.mp e
  obtain ⟨j, ej⟩ := List.getElem?_of_mem (List.mem_of_find?_eq_some e1)
  have ek : x.1 = k := by simpa using List.find?_some e1
  exact ⟨j, by rw [ej, ← ek]⟩
section
variable {X : Cx} {pins : List (Addr × Obj)} {σ : Sg} {H : Hp} {s : Shared}
theorem eqU_run (I : Inv X pins σ H s) : ∀ (n : Nat) (A : Around), A.units + n < cLine → ∀ (x y : V) (v u : Value), EqU X.K H n x y → RelV x v → RelV y u → EqP X.prog X.w A s v u true
  | 0, _, _, _, _, _, _, h, _, _ => False.elim h
  | n + 1, A, hu, x, y, v, u, h, rx, ry => by
    have ih := eqU_run I n A.in1 (by show A.units + 1 + n < cLine; omega)
    rcases h with ⟨rfl, f⟩ | ⟨a, b, xs, ys, rfl, rfl, sx, sy, ps⟩ | ⟨a, b, ks, ls, rfl, rfl, ea, eb, hl, hp⟩
    · exact (eqAt_same rx ry f).eqP
    · cases (show v = Value.ref a from rx)
      cases (show u = Value.ref b from ry)
      by_cases hab : a = b
      · subst hab; exact (SeqAt.EqAt.same _).eqP
      obtain ⟨us, r1, p1, _⟩ := I.tuple sx
      obtain ⟨ws, r2, p2, _⟩ := I.tuple sy
      have hz : us.length = ws.length := by rw [← r1.length, ← r2.length]; exact Paired.length ps
      refine SeqAt.eqP_refs hab fun E Q q => SeqAt.rcIn_tuples (e := fun _ => true) p1 p2 (by omega) (fun j h1 h2 => ?_) ?_
      · have k := items_run ih ps r1 r2 j (by simpa using h1) (by simpa using h2)
        exact fun E Q q => by simpa using k E Q q
      · rw [show ((List.range (min us.toArray.size ws.toArray.size)).all fun _ => true) = true from List.all_eq_true.mpr fun _ _ => rfl]
        simpa [hz] using q
    · cases (show v = Value.ref a from rx)
      cases (show u = Value.ref b from ry)
      by_cases hab : a = b
      · subst hab; exact (SeqAt.EqAt.same _).eqP
      obtain ⟨_, ya, xa, ra, da⟩ := dt_of I.hok ea
      obtain ⟨_, yb, xb, rb, db⟩ := dt_of I.hok eb
      refine SeqAt.eqP_refs hab fun E Q q => dicts_u (knd := tupleKind (mixKind X.prog X.w)) (tupleKind_room_in1 (by omega)) (by omega) ya yb da db (by rw [← Paired.length ra, ← Paired.length rb]; exact hl) (fun i k p e => ?_) q
      obtain ⟨kv, ek, e1, _, rv⟩ := paired_get ra e
      obtain ⟨w, ew, eq⟩ := hp kv (List.mem_of_getElem? ek)
      have e1 : kv.1 = k := e1
      rw [e1] at ew
      have rr := rb.val k
      rw [ew] at rr
      obtain ⟨z, ez, rz⟩ := rr.some_of
      obtain ⟨q, eq', rfl⟩ := Option.map_eq_some_iff.mp ez
      obtain ⟨j, ej⟩ := atKey_get eq'
      exact ⟨j, q, ej, ih _ _ _ _ eq rv rz⟩
end
/-- x == y, x != y, two tuples that are the same -/
def rSameU (K : PySem.W.Frag) (b : Bool) : R2 := fun x y H Q => ∃ c d xs ys, x = .ref c ∧ y = .ref d ∧ SqT K H c xs ∧ SqT K H d ys ∧ Paired (EqU K H 50) xs ys ∧ Q (.bl b) H
section
variable {X : Cx}
theorem op_eqU (hu : X.A.units + 64 < cLine) : OpR X (compareOp .Eq) (rSameU X.K true) := by
  intro pins s σ H x y v u Q I rx ry h
  obtain ⟨a, b, xs, ys, rfl, rfl, sx, sy, ps, q⟩ := h
  cases (show v = Value.ref a from rx)
  cases (show u = Value.ref b from ry)
  obtain ⟨us, r1, p1, _⟩ := I.tuple sx
  obtain ⟨ws, r2, p2, _⟩ := I.tuple sy
  have hz : us.length = ws.length := by rw [← r1.length, ← r2.length]; exact Paired.length ps
  show wpAny _ _ (richCompare .Eq (.ref a) (.ref b)) _ _ _
  refine SeqAt.rcIn_tuples (e := fun _ => true) p1 p2 (by omega) (fun j h1 h2 => ?_) ?_
  · have k := items_run (eqU_run I 50 X.A.in1 (by show X.A.units + 1 + 50 < cLine; omega)) ps r1 r2 j (by simpa using h1) (by simpa using h2)
    exact fun E Q q => by simpa using k E Q q
  · rw [show ((List.range (min us.toArray.size ws.toArray.size)).all fun _ => true) = true from List.all_eq_true.mpr fun _ _ => rfl]
    exact ⟨.bl true, H, I, by simp [hz, L2.RelV], q⟩
theorem op_neU (hu : X.A.units + 64 < cLine) : OpR X (compareOp .NotEq) (rSameU X.K false) := by
  intro pins s σ H x y v u Q I rx ry h
  obtain ⟨a, b, xs, ys, rfl, rfl, sx, sy, ps, q⟩ := h
  cases (show v = Value.ref a from rx)
  cases (show u = Value.ref b from ry)
  obtain ⟨us, r1, p1, _⟩ := I.tuple sx
  obtain ⟨ws, r2, p2, _⟩ := I.tuple sy
  have hz : us.length = ws.length := by rw [← r1.length, ← r2.length]; exact Paired.length ps
  obtain ⟨⟨c1, d1, t1, s1⟩, ho, hc, n, hd⟩ := id p1
  obtain ⟨⟨c2, d2, t2, s2⟩, ho2, hc2, n2, hd2⟩ := id p2
  simp only at hc hd hc2 hd2
  subst hc hd hc2 hd2
  show wpAny _ _ (richCompare .NotEq (.ref a) (.ref b)) _ _ _
  refine wpAny_richCompare_same_room (T := "tuple") (op := .NotEq) ⟨_, ho, rfl⟩ ⟨_, ho2, rfl⟩ PySem.F.slot_tuple_ne (call_meetsIn PySem.F.slot_tuple_ne ⟨_, ho, rfl⟩ PySem.F.entry_tuple_ne (PySem.F.args_tuple_ne_2 _ _) (tuple_ne_u a b us.toArray ws.toArray n n2 d1 d2 s1 s2 (by simpa using hz)) ⟨ho, ho2, fun p hp => ?_, (fun x => nomatch x), .bl false, H, I, rfl, q⟩) (by omega)
  obtain ⟨j, ej⟩ := List.getElem?_of_mem hp
  obtain ⟨e1, e2⟩ := List.getElem?_zip_eq_some.mp ej
  have h1 : j < us.length := by simpa using (List.getElem?_eq_some_iff.mp e1).1
  have h2 : j < ws.length := by simpa using (List.getElem?_eq_some_iff.mp e2).1
  have k := items_run (eqU_run I 50 X.A.in1 (by show X.A.units + 1 + 50 < cLine; omega)) ps r1 r2 j h1 h2
  have q1 : us[j] = p.1 := by have := e1; simp only [List.toList_toArray] at this; rw [List.getElem?_eq_getElem h1] at this; exact Option.some.inj this
  have q2 : ws[j] = p.2 := by have := e2; simp only [List.toList_toArray] at this; rw [List.getElem?_eq_getElem h2] at this; exact Option.some.inj this
  rw [← q1, ← q2]
  exact k
end
end Iv

set_option maxRecDepth 100000
namespace Iv
open PySem PySem.Spec PyProof.Rows L2
theorem PE.imp {X : Cx} {e : Expr} {t t' : TE} (h : PE X e t) (i : ∀ σ H Q, t' σ H Q → t σ H Q) : PE X e t' := ⟨fun pins s σ H Q I q => h.run pins s σ H Q I (i σ H Q q)⟩
theorem PA.imp {X : Cx} {e : List Expr} {t t' : TA} (h : PA X e t) (i : ∀ σ H Q, t' σ H Q → t σ H Q) : PA X e t' := ⟨fun pos pins s σ H Q I q => h.run pos pins s σ H Q I (i σ H Q q)⟩
theorem PT.imp {X : Cx} {e : Expr} {t t' : TT} (h : PT X e t) (i : ∀ σ H Q, t' σ H Q → t σ H Q) : PT X e t' := ⟨fun pins s σ H Q I q => h.run pins s σ H Q I (i σ H Q q)⟩
theorem PW.imp {X : Cx} {e : Expr} {t t' : TT} (h : PW X e t) (i : ∀ σ H Q, t' σ H Q → t σ H Q) : PW X e t' := ⟨fun w pins s σ H Q I q => h.run w pins s σ H Q I (i σ H Q q)⟩
section
variable {X : Cx} {T : Tb} {W : WX}
/-- what is now -/
theorem now {K : PySem.W.Frag} {H : Hp} {ρ : List Addr} {h : Hs} {α β : Type} {Rel : Hp → List Addr → α → β → Prop} {d : α} {v : β} {Q : β → Hp → Prop} {Wx : Value → Option Addr → Hp → Prop} (p : PostV K T Rel H ρ (.ok d h) Q Wx) (r : RelH K T H ρ h) (rd : Rel H ρ d v) : Q v H := p H ρ v (Ext.refl H ρ) r rd

/-! names, constants -/
def mVar (i : Nat) : M := fun env h => match env[i]? with
  | some (some d) => .ok d h
  | _ => .bad
theorem den_var {i : Nat} {x : Str} {pos : Pos} (hN : X.N[i]? = some x) (hv : Vis X.env.scope x) (hd : (x == ("__debug__" : Str)) = false) (hcd : (x == ("__classdict__" : Str)) = false) : PE X (.Name x pos) (tI X.K T W (mVar i)) := by
  refine PE.imp (pe_var hN hv hd hcd) fun σ H Q ⟨ρ, env, h, hw, he, p⟩ => ?_
  unfold mVar at p
  split at p
  · rename_i d e
    obtain ⟨v, e1, r⟩ := he.2 i d e
    exact ⟨v, e1, now p hw r⟩
  · exact p.elim
def flatD : D → Option V
  | .non => some .non
  | .bl b => some (.bl b)
  | .int i => some (.int i)
  | .str x => some (.str x)
  | _ => none
theorem flat_rel {K : PySem.W.Frag} {H : Hp} {ρ : List Addr} : ∀ {d : D} {v : V}, flatD d = some v → RelD K T H ρ d v
  | .non, _, h => by cases h; unfold RelD; rfl
  | .bl _, _, h => by cases h; unfold RelD; rfl
  | .int _, _, h => by cases h; unfold RelD; rfl
  | .str _, _, h => by cases h; unfold RelD; rfl
def mCon (d : D) : M := fun _ h => .ok d h
theorem den_flat {e : Expr} {d : D} {v : V} (hv : flatD d = some v) (he : PE X e (tC v)) : PE X e (tI X.K T W (mCon d)) :=
  PE.imp he fun σ H Q ⟨ρ, env, h, hw, _, p⟩ => now p hw (flat_rel hv)

/-! argument lists, displays -/
abbrev Ms := Env → Hs → R (List D)
def mNil : Ms := fun _ h => .ok [] h
def mCons (m : M) (ms : Ms) : Ms := fun env h => (m env h).bind fun d h1 => (ms env h1).bind fun ds h2 => .ok (d :: ds) h2
theorem den_nil : PA X [] (tIs X.K T W mNil) := PA.imp pa_nil fun σ H Q ⟨ρ, env, h, hw, _, p⟩ => now p hw (by unfold RelDs; rfl)
theorem den_cons {e : Expr} {es : List Expr} {m : M} {ms : Ms} (ha : PE X e (tI X.K T W m)) (hr : PA X es (tIs X.K T W ms)) (hs : starEach (e :: es) X.env = (false, eval e X.env) :: starEach es X.env) : PA X (e :: es) (tIs X.K T W (mCons m ms)) := by
  refine PA.imp (pa_cons ha hr hs) fun σ H Q ⟨ρ, env, h, hw, he, p⟩ => ?_
  refine bindI hw he p fun H1 ρ1 d h1 v x1 w1 e1 r1 p1 => ?_
  refine bindI w1 e1 p1 fun H2 ρ2 ds h2 vs x2 w2 e2 r2 p2 => ?_
  exact now p2 w2 (by unfold RelDs; exact ⟨v, vs, rfl, r1.mono x2, r2⟩)
theorem RelDs.len {K : PySem.W.Frag} {H : Hp} {ρ : List Addr} : ∀ {ds : List D} {vs : List V}, RelDs K T H ρ ds vs → ds.length = vs.length
  | [], _, h => by unfold RelDs at h; subst h; rfl
  | d :: ds, _, h => by
    unfold RelDs at h
    obtain ⟨v, r, rfl, _, h2⟩ := h
    rw [List.length_cons, List.length_cons, RelDs.len h2]
theorem most_line : most ≤ sizeLine := by rw [sizeLine_eq]; decide
/-- a new tuple -/
theorem put_tup {H : Hp} {ρ : List Addr} {h : Hs} {ds : List D} {vs : List V} {Q : V → Hp → Prop} {Wx : Value → Option Addr → Hp → Prop} (hw : RelH X.K T H ρ h) (r : RelDs X.K T H ρ ds vs) (p : PostV X.K T (RelD X.K T) H ρ (mkT ds h) Q Wx) :
    vs.length ≤ sizeLine ∧ ∀ q, H q = none → Q (.ref q) (upd H q (.tup vs)) := by
  unfold mkT at p
  split at p
  · rename_i hl
    refine ⟨by rw [← r.len]; exact Nat.le_trans hl most_line, fun q hq => ?_⟩
    refine p (upd H q (.tup vs)) ρ (.ref q) (Ext.new hq) (hw.new hq) ?_
    unfold RelD
    exact ⟨q, vs, rfl, .inl (.inl upd_same), r.mono (Ext.new hq)⟩
  · exact p.elim
def mTup (ms : Ms) : M := fun env h => (ms env h).bind mkT
theorem den_tup {es : List Expr} {k : Nat} {pos : Pos} {ms : Ms} (ha : PA X es (tIs X.K T W ms)) : PE X (.Tuple es k pos) (tI X.K T W (mTup ms)) := by
  refine PE.imp (pe_tup ha) fun σ H Q ⟨ρ, env, h, hw, he, p⟩ => ?_
  exact bindI hw he p fun H1 ρ1 ds h1 vs x1 w1 e1 r1 p1 => put_tup w1 r1 p1
/-- a new list -/
theorem put_lst {m : Bool} {H : Hp} {ρ : List Addr} {h : Hs} {ds : List D} {vs : List V} {Q : V → Hp → Prop} {Wx : Value → Option Addr → Hp → Prop} (hw : RelH X.K T H ρ h) (r : RelDs X.K T H ρ ds vs) (p : PostV X.K T (RelD X.K T) H ρ (mkL m ds h) Q Wx) :
    vs.length ≤ sizeLine ∧ ∀ q, H q = none → Q (.ref q) (upd H q (.lst vs)) := by
  unfold mkL at p
  split at p
  · rename_i hl
    refine ⟨by rw [← r.len]; exact Nat.le_trans hl most_line, fun q hq => ?_⟩
    split at p
    · refine p (upd H q (.lst vs)) (ρ ++ [q]) (.ref q) (Ext.alloc hq) (hw.alloc hq ?_) ?_
      · exact ⟨vs, upd_same, r.mono (Ext.alloc hq)⟩
      · unfold RelD
        refine ⟨q, rfl, ?_⟩
        rw [← hw.len, List.getElem?_append_right (Nat.le_refl _), Nat.sub_self]
        rfl
    · refine p (upd H q (.lst vs)) ρ (.ref q) (Ext.new hq) (hw.new hq) ?_
      unfold RelD
      refine ⟨q, vs, rfl, upd_same, fun z => ?_, r.mono (Ext.new hq)⟩
      obtain ⟨u, e, _⟩ := hw.mem_some z
      rw [hq] at e; cases e
  · exact p.elim
def mLst (m : Bool) (ms : Ms) : M := fun env h => (ms env h).bind (mkL m)
theorem den_lst {m : Bool} {es : List Expr} {pos : Pos} {ms : Ms} (ha : PA X es (tIs X.K T W ms)) : PE X (.List es pos) (tI X.K T W (mLst m ms)) := by
  refine PE.imp (pe_lst ha) fun σ H Q ⟨ρ, env, h, hw, he, p⟩ => ?_
  exact bindI hw he p fun H1 ρ1 ds h1 vs x1 w1 e1 r1 p1 => put_lst w1 r1 p1
end
end Iv

set_option maxRecDepth 100000
namespace Iv
open PySem PySem.Spec PyProof.Rows L2
section
variable {X : Cx} {T : Tb} {W : WX}
theorem look_lst {K : PySem.W.Frag} {H : Hp} {ρ : List Addr} {h : Hs} (hw : RelH K T H ρ h) : ∀ {d : D} {v : V} {xs : List D}, look h d = .lst xs → RelD K T H ρ d v → ∃ a vs, v = .ref a ∧ H a = some (.lst vs) ∧ RelDs K T H ρ xs vs := by
  intro d v xs e r
  cases d with
  | lst ys =>
    cases e
    unfold RelD at r
    obtain ⟨a, vs, rfl, s, _, r⟩ := r
    exact ⟨a, vs, rfl, s, r⟩
  | ref n =>
    unfold RelD at r
    obtain ⟨a, rfl, q⟩ := r
    unfold look at e
    dsimp only at e
    split at e
    · rename_i ys e1
      cases e
      obtain ⟨vs, s, r⟩ := hw.at_ n _ a e1 q
      exact ⟨a, vs, rfl, s, r⟩
    all_goals cases e
  | _ => cases e
theorem look_tup {K : PySem.W.Frag} {H : Hp} {ρ : List Addr} {h : Hs} : ∀ {d : D} {v : V} {xs : List D}, look h d = .tup xs → RelD K T H ρ d v → ∃ a vs, v = .ref a ∧ SqT K H a vs ∧ RelDs K T H ρ xs vs := by
  intro d v xs e r
  cases d with
  | tup ys =>
    cases e
    unfold RelD at r
    exact r
  | ref n =>
    unfold look at e
    dsimp only at e
    split at e <;> cases e
  | _ => cases e
theorem RelDs.app {K : PySem.W.Frag} {H : Hp} {ρ : List Addr} : ∀ {xs ys : List D} {vs ws : List V}, RelDs K T H ρ xs vs → RelDs K T H ρ ys ws → RelDs K T H ρ (xs ++ ys) (vs ++ ws)
  | [], _, _, _, h, g => by unfold RelDs at h; subst h; exact g
  | x :: xs, ys, vs, ws, h, g => by
    unfold RelDs at h
    obtain ⟨v, r, rfl, h1, h2⟩ := h
    show RelDs K T H ρ (x :: (xs ++ ys)) (v :: (r ++ ws))
    unfold RelDs
    exact ⟨v, _, rfl, h1, RelDs.app h2 g⟩
theorem RelDs.rep {K : PySem.W.Frag} {H : Hp} {ρ : List Addr} {xs : List D} {vs : List V} (r : RelDs K T H ρ xs vs) : ∀ n : Nat, RelDs K T H ρ (List.replicate n xs).flatten (List.replicate n vs).flatten
  | 0 => by show RelDs K T H ρ [] []; unfold RelDs; rfl
  | n + 1 => by
    rw [List.replicate_succ, List.replicate_succ, List.flatten_cons, List.flatten_cons]
    exact r.app (RelDs.rep r n)
theorem relInt {K : PySem.W.Frag} {H : Hp} {ρ : List Addr} {i : Int} {v : V} (r : RelD K T H ρ (.int i) v) : v = .int i := by unfold RelD at r; exact r
theorem relStr {K : PySem.W.Frag} {H : Hp} {ρ : List Addr} {i : Str} {v : V} (r : RelD K T H ρ (.str i) v) : v = .str i := by unfold RelD at r; exact r
theorem relBl {K : PySem.W.Frag} {H : Hp} {ρ : List Addr} {i : Bool} {v : V} (r : RelD K T H ρ (.bl i) v) : v = .bl i := by unfold RelD at r; exact r
theorem relNon {K : PySem.W.Frag} {H : Hp} {ρ : List Addr} {v : V} (r : RelD K T H ρ .non v) : v = .non := by unfold RelD at r; exact r
/-- the rule of an operator serves the program's own one -/
def OpSound (X : Cx) (T : Tb) (m : Bool) (o : Operator) (r : R2) : Prop := ∀ (H : Hp) (ρ : List Addr) (h : Hs) (x y : D) (v w : V) (Q : VK) (Wx : Value → Option Addr → Hp → Prop),
  RelH X.K T H ρ h → RelD X.K T H ρ x v → RelD X.K T H ρ y w → PostV X.K T (RelD X.K T) H ρ (opD m o x y h) Q Wx → r v w H Q
def mOp (m : Bool) (o : Operator) (ma mb : M) : M := fun env h => (ma env h).bind fun x h1 => (mb env h1).bind fun y h2 => opD m o x y h2
theorem den_op {m : Bool} {o : Operator} {r : R2} {a b : Expr} {pos : Pos} {ma mb : M} (ho : OpR X (binaryOp o) r) (hs : OpSound X T m o r) (ha : PE X a (tI X.K T W ma)) (hb : PE X b (tI X.K T W mb)) : PE X (.BinOp a o b pos) (tI X.K T W (mOp m o ma mb)) := by
  refine PE.imp (pe_op ho ha hb) fun σ H Q ⟨ρ, env, h, hw, he, p⟩ => ?_
  refine bindI hw he p fun H1 ρ1 d h1 v x1 w1 e1 r1 p1 => ?_
  refine bindI w1 e1 p1 fun H2 ρ2 d2 h2 v2 x2 w2 e2 r2 p2 => ?_
  exact hs H2 ρ2 h2 d d2 v v2 Q _ w2 (r1.mono x2) r2 p2
theorem op_none {o : Operator} : OpR X (binaryOp o) (fun _ _ _ _ => False) := fun _ _ _ _ _ _ _ _ _ _ _ _ h => h.elim
theorem snd_none {m : Bool} {o : Operator} (e : ∀ x y h, opD m o x y h = .bad) : OpSound X T m o (fun _ _ _ _ => False) := fun H ρ h x y v w Q Wx hw r1 r2 p => by
  rw [e] at p
  exact p
theorem two_ints {K : PySem.W.Frag} {H : Hp} {ρ : List Addr} {x y : D} {v w : V} {i j : Int} (ex : x = .int i) (ey : y = .int j) (r1 : RelD K T H ρ x v) (r2 : RelD K T H ρ y w) : v = .int i ∧ w = .int j := by
  subst ex; subst ey
  exact ⟨relInt r1, relInt r2⟩
theorem snd_sub {m : Bool} : OpSound X T m .Sub (rI0 fun i j => .int (i - j)) := fun H ρ h x y v w Q Wx hw r1 r2 p => by
  unfold opD subD at p
  dsimp only at p
  split at p
  · rename_i i j
    exact ⟨i, j, relInt r1, relInt r2, now p hw (by unfold RelD; rfl)⟩
  · exact p.elim
theorem snd_fdiv {m : Bool} : OpSound X T m .FloorDiv (rI CDiv fun i j => .int (i / j)) := fun H ρ h x y v w Q Wx hw r1 r2 p => by
  unfold opD fdivD at p
  dsimp only at p
  split at p
  · rename_i i j
    split at p
    · rename_i c
      simp only [Bool.and_eq_true, decide_eq_true_eq] at c
      exact ⟨i, j, relInt r1, relInt r2, c, now p hw (by unfold RelD; rfl)⟩
    · exact p.elim
  · exact p.elim
theorem snd_mod {m : Bool} : OpSound X T m .Mod (rI (fun _ j => 0 < j) fun i j => .int (i % j)) := fun H ρ h x y v w Q Wx hw r1 r2 p => by
  unfold opD modD at p
  dsimp only at p
  split at p
  · rename_i i j
    split at p
    · rename_i c
      exact ⟨i, j, relInt r1, relInt r2, of_decide_eq_true c, now p hw (by unfold RelD; rfl)⟩
    · exact p.elim
  · exact p.elim
theorem snd_pow {m : Bool} : OpSound X T m .Pow (rI CPow fun i j => .int (i ^ j.toNat)) := fun H ρ h x y v w Q Wx hw r1 r2 p => by
  unfold opD powD at p
  dsimp only at p
  split at p
  · rename_i i j
    split at p
    · rename_i c
      simp only [Bool.and_eq_true, decide_eq_true_eq] at c
      exact ⟨i, j, relInt r1, relInt r2, ⟨c.1.1, c.1.2, c.2⟩, now p hw (by unfold RelD; rfl)⟩
    · exact p.elim
  · exact p.elim
theorem tup_nil {K : PySem.W.Frag} {H : Hp} {ρ : List Addr} {vs : List V} {xs : List D} (r : RelDs K T H ρ xs vs) : vs = [] ↔ xs = [] := by
  have := r.len
  constructor
  · intro e; subst e; exact List.eq_nil_of_length_eq_zero this
  · intro e; subst e; exact List.eq_nil_of_length_eq_zero this.symm
/-- + -/
def rAddA (K : PySem.W.Frag) : R2 := fun x y H Q => (rI0 (fun i j => .int (i + j)) x y H Q ∨ rCatA K x y H Q) ∨ (rCat x y H Q ∨ ∃ i j, x = .str i ∧ y = .str j ∧ i.length + j.length ≤ sizeLine ∧ Q (.str (i ++ j)) H)
theorem op_addA : OpR X (binaryOp .Add) (rAddA X.K) := (op_add.or op_catA).or (op_cat.or op_add_str)
theorem snd_add {m : Bool} : OpSound X T m .Add (rAddA X.K) := fun H ρ h x y v w Q Wx hw r1 r2 p => by
  unfold opD addD at p
  dsimp only at p
  split at p
  · rename_i i j
    exact .inl (.inl ⟨i, j, relInt r1, relInt r2, now p hw (by unfold RelD; rfl)⟩)
  · rename_i xs ys
    unfold RelD at r1 r2
    obtain ⟨a, vs, rfl, sa, ra⟩ := r1
    obtain ⟨b, ws, rfl, sb, rb⟩ := r2
    have hz := (put_tup (X := X) hw (ra.app rb) p).1
    rw [List.length_append] at hz
    have small : (xs ++ ys).length ≤ most := by
      unfold mkT at p
      split at p
      · assumption
      · exact p.elim
    refine .inl (.inr ⟨a, b, vs, ws, rfl, rfl, sa, sb, hz, fun e => ?_, fun e1 e2 => ?_, fun e1 e2 q hq => ?_⟩)
    · have e' := (tup_nil ra).mp e
      subst e'
      unfold mkT at p
      rw [if_pos small] at p
      exact now p hw (by unfold RelD; exact ⟨b, ws, rfl, sb, rb⟩)
    · have e' := (tup_nil rb).mp e2
      subst e'
      unfold mkT at p
      rw [if_pos small, List.append_nil] at p
      exact now p hw (by unfold RelD; exact ⟨a, vs, rfl, sa, ra⟩)
    · exact (put_tup (X := X) hw (ra.app rb) p).2 q hq
  · rename_i a b
    split at p
    · rename_i c
      exact .inr (.inr ⟨a, b, relStr r1, relStr r2, Nat.le_trans c most_line, now p hw (by unfold RelD; rfl)⟩)
    · exact p.elim
  · split at p
    · rename_i xs ys l1 l2
      obtain ⟨a, vs, rfl, sa, ra⟩ := look_lst hw l1 r1
      obtain ⟨b, ws, rfl, sb, rb⟩ := look_lst hw l2 r2
      have q := put_lst (X := X) hw (ra.app rb) p
      rw [List.length_append] at q
      exact .inr (.inl ⟨a, b, vs, ws, rfl, rfl, sa, sb, q.1, q.2⟩)
    · exact p.elim
def rMulA : R2 := fun x y H Q => rI CMul (fun i j => .int (i * j)) x y H Q ∨ rRep x y H Q
theorem op_mulA : OpR X (binaryOp .Mult) rMulA := op_mul.or op_rep
theorem snd_mul {m : Bool} : OpSound X T m .Mult rMulA := fun H ρ h x y v w Q Wx hw r1 r2 p => by
  unfold opD mulD at p
  dsimp only at p
  split at p
  · rename_i i j
    split at p
    · rename_i c
      refine .inl ⟨i, j, relInt r1, relInt r2, ?_, now p hw (by unfold RelD; rfl)⟩
      unfold small at c
      simp only [Bool.and_eq_true, Bool.or_eq_true, decide_eq_true_eq] at c
      exact c
    · exact p.elim
  · rename_i k _
    split at p
    · rename_i xs l1
      split at p
      · rename_i c
        simp only [Bool.and_eq_true, decide_eq_true_eq] at c
        obtain ⟨a, vs, rfl, sa, ra⟩ := look_lst hw l1 r1
        have q := put_lst (X := X) hw (ra.rep k.toNat) p
        refine .inr ⟨a, k, vs, rfl, relInt r2, sa, by omega, by omega, ?_, q.2⟩
        rw [← ra.len]
        exact Nat.le_trans c.2 most_line
      · exact p.elim
    · exact p.elim
  · exact p.elim
/-- every operator -/
theorem den_bin {m : Bool} {o : Operator} {a b : Expr} {pos : Pos} {ma mb : M} (ha : PE X a (tI X.K T W ma)) (hb : PE X b (tI X.K T W mb)) : PE X (.BinOp a o b pos) (tI X.K T W (mOp m o ma mb)) := by
  cases o with
  | Add => exact den_op op_addA snd_add ha hb
  | Sub => exact den_op op_sub snd_sub ha hb
  | Mult => exact den_op op_mulA snd_mul ha hb
  | FloorDiv => exact den_op op_fdiv snd_fdiv ha hb
  | Mod => exact den_op op_mod snd_mod ha hb
  | Pow => exact den_op op_pow snd_pow ha hb
  | _ => exact den_op op_none (snd_none fun _ _ _ => rfl) ha hb
end
end Iv

set_option maxRecDepth 100000
namespace Iv
open PySem PySem.Spec PyProof.Rows L2
section
variable {X : Cx} {T : Tb} {W : WX}
mutual
theorem dp_of {K : PySem.W.Frag} {H : Hp} {ρ : List Addr} : ∀ {d : D} {v : V} {p : PyData}, toPy d = some p → RelD K T H ρ d v → Dp K H v p
  | .non, v, p, e, r => by cases e; rw [relNon r]; exact .non
  | .bl b, v, p, e, r => by cases e; rw [relBl r]; exact .bl b
  | .int i, v, p, e, r => by cases e; rw [relInt r]; exact .int i
  | .str x, v, p, e, r => by cases e; rw [relStr r]; exact .str x
  | .tup xs, v, p, e, r => by
    unfold toPy at e
    cases q : toPys xs with
    | none => rw [q] at e; cases e
    | some ps =>
      rw [q] at e
      cases e
      unfold RelD at r
      obtain ⟨a, vs, rfl, s, r⟩ := r
      exact .tup s (dps_of q r)
  | .lst xs, v, p, e, r => by
    unfold toPy at e
    cases q : toPys xs with
    | none => rw [q] at e; cases e
    | some ps =>
      rw [q] at e
      cases e
      unfold RelD at r
      obtain ⟨a, vs, rfl, s, _, r⟩ := r
      exact .lst (.of s) (dps_of q r)
theorem dps_of {K : PySem.W.Frag} {H : Hp} {ρ : List Addr} : ∀ {ds : List D} {vs : List V} {ps : List PyData}, toPys ds = some ps → RelDs K T H ρ ds vs → DpAll K H vs ps
  | [], vs, ps, e, r => by
    unfold toPys at e
    cases e
    unfold RelDs at r
    subst r
    exact .nil
  | d :: ds, vs, ps, e, r => by
    unfold toPys at e
    unfold RelDs at r
    obtain ⟨v, w, rfl, r1, r2⟩ := r
    split at e
    · rename_i p qs e1 e2
      cases e
      exact .cons (dp_of e1 r1) (dps_of e2 r2)
    · cases e
end
theorem dp_look {K : PySem.W.Frag} {H : Hp} {ρ : List Addr} {h : Hs} (hw : RelH K T H ρ h) {d : D} {v : V} {p : PyData} (e : toPy (look h d) = some p) (r : RelD K T H ρ d v) : Dp K H v p := by
  cases d with
  | ref n =>
    cases l : look h (.ref n) with
    | lst xs =>
      rw [l] at e
      obtain ⟨a, vs, rfl, s, rs⟩ := look_lst hw l r
      unfold toPy at e
      cases q : toPys xs with
      | none => rw [q] at e; cases e
      | some ps =>
        rw [q] at e
        cases e
        exact .lst (.of s) (dps_of q rs)
    | dct ks vs => rw [l] at e; cases e
    | dcu ks vs => rw [l] at e; cases e
    | ref k => rw [l] at e; cases e
    | _ =>
      unfold look at l
      dsimp only at l
      split at l <;> cases l
  | _ => exact dp_of e r
/-- x in y: a list, a tuple, a dict -/
def yn (neg : Bool) (b : Bool) : Bool := if neg then !b else b
def rInA (K : PySem.W.Frag) (neg : Bool) : R2 := fun x y H Q =>
  (∃ d ds, Dp K H x d ∧ (Dp K H y (.list ds) ∨ Dp K H y (.tuple ds)) ∧ SeqAt.shaped d = true ∧ SeqAt.shaped (.list ds) = true ∧ Q (.bl (yn neg (ds.any fun z => PyData.eqv z d))) H) ∨
  ∃ a o, y = .ref a ∧ DGet H a x o ∧ Q (.bl (yn neg o.isSome)) H
theorem op_inA (hu : X.A.units + 65 < cLine) : OpR X (compareOp .In) (rInA X.K false) := by
  intro pins s σ H x y v u Q I rx ry h
  rcases h with ⟨d, ds, hd, he, sd, se, q⟩ | ⟨a, o, rfl, g, q⟩
  · obtain ⟨as, r1⟩ := Dp.reads I d x v hd rx
    rcases he with he | he
    · obtain ⟨bs, r2⟩ := Dp.reads I (.list ds) y u he ry
      exact SeqAt.in_list_reads r2 r1 (SeqAt.canLay_of_shaped se) (SeqAt.canLay_of_shaped sd) (room_in_shaped sd hu) ⟨.bl _, H, I, rfl, q⟩
    · obtain ⟨bs, r2⟩ := Dp.reads I (.tuple ds) y u he ry
      exact SeqAt.in_tuple_reads r2 r1 (SeqAt.canLay_of_shaped se) (SeqAt.canLay_of_shaped sd) (room_in_shaped sd hu) ⟨.bl _, H, I, rfl, q⟩
  · cases ry
    exact d_in (by omega) I g rx fun s' I' => ⟨.bl _, H, I', rfl, q⟩
theorem op_notInA (hu : X.A.units + 65 < cLine) : OpR X (compareOp .NotIn) (rInA X.K true) := by
  intro pins s σ H x y v u Q I rx ry h
  rcases h with ⟨d, ds, hd, he, sd, se, q⟩ | ⟨a, o, rfl, g, q⟩
  · obtain ⟨as, r1⟩ := Dp.reads I d x v hd rx
    rcases he with he | he
    · obtain ⟨bs, r2⟩ := Dp.reads I (.list ds) y u he ry
      exact SeqAt.notIn_list_reads r2 r1 (SeqAt.canLay_of_shaped se) (SeqAt.canLay_of_shaped sd) (room_in_shaped sd hu) ⟨.bl _, H, I, rfl, q⟩
    · obtain ⟨bs, r2⟩ := Dp.reads I (.tuple ds) y u he ry
      exact SeqAt.notIn_tuple_reads r2 r1 (SeqAt.canLay_of_shaped se) (SeqAt.canLay_of_shaped sd) (room_in_shaped sd hu) ⟨.bl _, H, I, rfl, q⟩
  · cases ry
    exact d_notIn (by omega) I g rx fun s' I' => ⟨.bl _, H, I', rfl, q⟩
/-- x is y, y None or a bool -/
def isV (x y : V) : Option Bool := match y, x with
  | .non, .non => some true
  | .non, _ => some false
  | .bl b, .bl a => some (decide (a = b))
  | .bl _, .non => some false
  | .bl _, .int _ => some false
  | .bl _, .str _ => some false
  | _, _ => none
def rIsA (neg : Bool) : R2 := fun x y H Q => ∃ b, isV x y = some b ∧ Q (.bl (yn neg b)) H
theorem op_isA : OpR X (compareOp .Is) (rIsA false) := by
  intro pins s σ H x y v u Q I rx ry h
  obtain ⟨b, e, q⟩ := h
  cases y with
  | non =>
    cases (show u = Value.none from ry)
    refine is_none_gen ⟨.bl _, H, I, ?_, q⟩
    rw [RelV.none_iff rx]
    cases x <;> (cases e; rfl)
  | bl y =>
    cases (show u = Value.bool y from ry)
    cases x with
    | non =>
      cases (show v = Value.none from rx)
      cases e
      exact wpAny_is_other rfl (fun z => nomatch z) ⟨.bl false, H, I, rfl, q⟩
    | bl x =>
      cases (show v = Value.bool x from rx)
      cases e
      by_cases e : x = y
      · subst e
        exact wpAny_is_self rfl ⟨.bl true, H, I, rfl, by simpa [yn] using q⟩
      · exact wpAny_is_other rfl (fun z => e (Value.bool.inj z)) ⟨.bl false, H, I, rfl, by simpa [e, yn] using q⟩
    | int i =>
      obtain ⟨t, z⟩ := (show ∃ t, v = Value.int i t from rx)
      subst z
      cases e
      exact wpAny_is_other rfl (fun z => nomatch z) ⟨.bl false, H, I, rfl, q⟩
    | str i =>
      obtain ⟨t, z⟩ := (show ∃ t, v = Value.str i t from rx)
      subst z
      cases e
      exact wpAny_is_other rfl (fun z => nomatch z) ⟨.bl false, H, I, rfl, q⟩
    | _ => cases e
  | _ => cases x <;> cases e
theorem op_isNotA : OpR X (compareOp .IsNot) (rIsA true) := by
  intro pins s σ H x y v u Q I rx ry h
  obtain ⟨b, e, q⟩ := h
  cases y with
  | non =>
    cases (show u = Value.none from ry)
    refine isnot_none_gen ⟨.bl _, H, I, ?_, q⟩
    rw [RelV.none_iff rx]
    cases x <;> (cases e; rfl)
  | bl y =>
    cases (show u = Value.bool y from ry)
    cases x with
    | non =>
      cases (show v = Value.none from rx)
      cases e
      exact wpAny_isNot_other rfl (fun z => nomatch z) ⟨.bl true, H, I, rfl, q⟩
    | bl x =>
      cases (show v = Value.bool x from rx)
      cases e
      by_cases e : x = y
      · subst e
        exact wpAny_isNot_self rfl ⟨.bl false, H, I, rfl, by simpa [yn] using q⟩
      · exact wpAny_isNot_other rfl (fun z => e (Value.bool.inj z)) ⟨.bl true, H, I, rfl, by simpa [e, yn] using q⟩
    | int i =>
      obtain ⟨t, z⟩ := (show ∃ t, v = Value.int i t from rx)
      subst z
      cases e
      exact wpAny_isNot_other rfl (fun z => nomatch z) ⟨.bl true, H, I, rfl, q⟩
    | str i =>
      obtain ⟨t, z⟩ := (show ∃ t, v = Value.str i t from rx)
      subst z
      cases e
      exact wpAny_isNot_other rfl (fun z => nomatch z) ⟨.bl true, H, I, rfl, q⟩
    | _ => cases e
  | _ => cases x <;> cases e
/-- a comparison's rule serves the program's own one -/
def CmpSound (X : Cx) (T : Tb) (o : CmpOp) (r : R2) : Prop := ∀ (H : Hp) (ρ : List Addr) (h : Hs) (x y : D) (v w : V) (Q : VK) (b : Bool),
  RelH X.K T H ρ h → RelD X.K T H ρ x v → RelD X.K T H ρ y w → cmpD o x y h = some b → Q (.bl b) H → r v w H Q
theorem eqO_some {x y : D} {h : Hs} {b : Bool} (e : eqO x y h = some b) : ∃ p q, toPy (look h x) = some p ∧ toPy (look h y) = some q ∧ SeqAt.shaped p = true ∧ SeqAt.shaped q = true ∧ b = PyData.eqv p q := by
  unfold eqO at e
  split at e
  · rename_i p q e1 e2
    split at e
    · rename_i c
      cases e
      rw [Bool.and_eq_true] at c
      exact ⟨p, q, e1, e2, c.1, c.2, rfl⟩
    · cases e
  · cases e
theorem not_some {o : Option Bool} {b : Bool} (e : o.map (!·) = some b) : ∃ c, o = some c ∧ b = !c := by
  cases o with
  | none => cases e
  | some c => cases e; exact ⟨c, rfl, rfl⟩
/-- == with an empty tuple or list -/
def rEqE (K : PySem.W.Frag) : R2 := fun x y H Q => ∃ (a b : Addr) (xs : List V), x = .ref a ∧ y = .ref b ∧ ((SqT K H a xs ∧ SqT K H b []) ∨ (SqL K H a xs ∧ SqL K H b [])) ∧ Q (.bl xs.isEmpty) H
theorem op_eqE (hu : X.A.units < cLine) : OpR X (compareOp .Eq) (rEqE X.K) := by
  intro pins s σ H x y v u Q I rx ry h
  obtain ⟨a, b, xs, rfl, rfl, hq, q⟩ := h
  obtain rfl : v = Value.ref a := rx
  obtain rfl : u = Value.ref b := ry
  rcases hq with ⟨h1, h2⟩ | ⟨h1, h2⟩
  · obtain ⟨its, rv, p, _⟩ := I.tuple h1
    obtain ⟨it2, rv2, p2, _⟩ := I.tuple h2
    have l1 := rv.length
    have l2 := rv2.length
    have e2 : it2 = [] := List.eq_nil_of_length_eq_zero l2.symm
    subst e2
    refine SeqAt.eq_tupleAt (e := fun _ => true) (show s.heap.IsTuple a its.toArray from p) (show s.heap.IsTuple b _ from p2) hu (fun j h1 h2 => absurd h2 (by simp)) ⟨.bl _, H, I, rfl, ?_⟩
    have e : ((List.range (min its.toArray.size ([] : List Value).toArray.size)).all (fun _ => true) && its.toArray.size == ([] : List Value).toArray.size) = xs.isEmpty := by
      cases xs with
      | nil => have : its = [] := List.eq_nil_of_length_eq_zero l1.symm; subst this; rfl
      | cons x xs => cases its with
        | nil => simp at l1
        | cons y its => simp
    rw [e]
    exact q
  · obtain ⟨its, rv, p, _⟩ := I.list h1
    obtain ⟨it2, rv2, p2, _⟩ := I.list h2
    have l1 := rv.length
    have l2 := rv2.length
    have e2 : it2 = [] := List.eq_nil_of_length_eq_zero l2.symm
    subst e2
    cases xs with
    | nil =>
      have e1 : its = [] := List.eq_nil_of_length_eq_zero l1.symm
      subst e1
      exact SeqAt.eq_listAt (e := fun _ => true) p.isList p2.isList rfl hu (fun j h1 h2 => absurd h2 (by simp)) ⟨.bl true, H, I, rfl, q⟩
    | cons x xs =>
      have : its ≠ [] := fun z => by rw [z] at l1; cases l1
      exact SeqAt.eq_list_lengthsAt p.isList p2.isList (by cases its with | nil => exact absurd rfl this | cons y its => simp) hu ⟨.bl false, H, I, rfl, q⟩
theorem eqC_or {x y : D} {h : Hs} {b : Bool} (e : eqC x y h = some b) : eqO x y h = some b ∨ eqE x y h = some b := by
  unfold eqC at e
  split at e
  · rename_i c ec; cases e; exact .inl ec
  · exact .inr e
theorem eqE_some {K : PySem.W.Frag} {H : Hp} {ρ : List Addr} {h : Hs} {x y : D} {v w : V} {b : Bool} (hw : RelH K T H ρ h) (r1 : RelD K T H ρ x v) (r2 : RelD K T H ρ y w) (e : eqE x y h = some b) : ∃ (a c : Addr) (vs : List V), v = .ref a ∧ w = .ref c ∧ ((SqT K H a vs ∧ SqT K H c []) ∨ (SqL K H a vs ∧ SqL K H c [])) ∧ b = vs.isEmpty := by
  unfold eqE at e
  split at e
  · rename_i xs l1 l2
    cases e
    obtain ⟨a, vs, rfl, s, rs⟩ := look_tup l1 r1
    obtain ⟨c, ws, rfl, s2, rs2⟩ := look_tup l2 r2
    unfold RelDs at rs2
    subst rs2
    refine ⟨a, c, vs, rfl, rfl, .inl ⟨s, s2⟩, ?_⟩
    have := RelDs.len rs
    cases xs <;> cases vs <;> simp_all
  · rename_i xs l1 l2
    cases e
    obtain ⟨a, vs, rfl, s, rs⟩ := look_lst hw l1 r1
    obtain ⟨c, ws, rfl, s2, rs2⟩ := look_lst hw l2 r2
    unfold RelDs at rs2
    subst rs2
    refine ⟨a, c, vs, rfl, rfl, .inr ⟨.of s, .of s2⟩, ?_⟩
    have := RelDs.len rs
    cases xs <;> cases vs <;> simp_all
  · cases e
theorem find_val {κ : Type} [DecidableEq κ] {K : PySem.W.Frag} {H : Hp} {ρ : List Addr} (k : κ) : ∀ {kvs : List (κ × V)} {ds : List D} {d : D}, RelDs K T H ρ ds (kvs.map (·.2)) → findK (kvs.map (·.1)) ds k = some d → ∃ v, valV kvs k = some v ∧ RelD K T H ρ d v
  | [], ds, d, r, e => by
    unfold findK at e
    cases e
  | (k', v) :: kvs, ds, d, r, e => by
    cases ds with
    | nil => unfold RelDs at r; cases r
    | cons d' ds =>
      unfold RelDs at r
      obtain ⟨v', w, q, r1, r2⟩ := r
      cases q
      rw [List.map_cons] at e
      unfold findK at e
      by_cases hk : k' = k
      · rw [if_pos hk] at e
        cases e
        exact ⟨v, valV_pos hk, r1⟩
      · rw [if_neg hk] at e
        obtain ⟨v2, e2, r3⟩ := find_val k r2 e
        exact ⟨v2, by rw [valV_neg hk]; exact e2, r3⟩
theorem all2_rel {K : PySem.W.Frag} {H : Hp} {ρ : List Addr} {f : D → D → Bool} {F : V → V → Prop} (hf : ∀ x y v w, f x y = true → RelD K T H ρ x v → RelD K T H ρ y w → F v w) : ∀ {xs ys : List D} {vs ws : List V}, all2 f xs ys = true → RelDs K T H ρ xs vs → RelDs K T H ρ ys ws → Paired F vs ws := by
  intro xs
  induction xs with
  | nil =>
    intro ys vs ws e r1 r2
    cases ys with
    | nil => unfold RelDs at r1 r2; subst r1 r2; exact .nil
    | cons y ys => unfold all2 at e; cases e
  | cons x xs ih =>
    intro ys vs ws e r1 r2
    cases ys with
    | nil => unfold all2 at e; cases e
    | cons y ys =>
      unfold all2 at e
      rw [Bool.and_eq_true] at e
      unfold RelDs at r1 r2
      obtain ⟨v, vs', rfl, a1, a2⟩ := r1
      obtain ⟨w, ws', rfl, b1, b2⟩ := r2
      exact .cons (hf x y v w e.1 a1 b1) (ih e.2 a2 b2)
theorem allK_rel {K : PySem.W.Frag} {H : Hp} {ρ : List Addr} {f : D → D → Bool} {F : V → V → Prop} (hf : ∀ x y v w, f x y = true → RelD K T H ρ x v → RelD K T H ρ y w → F v w) {ls : List (List Key × V)} {ws : List D} (rl : RelDs K T H ρ ws (ls.map (·.2))) :
    ∀ {kvs : List (List Key × V)} {vs : List D}, allK f (ls.map (·.1)) ws (kvs.map (·.1)) vs = true → RelDs K T H ρ vs (kvs.map (·.2)) → ∀ p ∈ kvs, ∃ u, valV ls p.1 = some u ∧ F p.2 u := by
  intro kvs
  induction kvs with
  | nil => intro vs _ _ p hp; cases hp
  | cons q kvs ih =>
    intro vs e r p hp
    cases vs with
    | nil => unfold allK at e; cases e
    | cons v vs =>
      rw [List.map_cons] at e r
      unfold allK at e
      rw [Bool.and_eq_true] at e
      unfold RelDs at r
      obtain ⟨v', r', er, a1, a2⟩ := r
      injection er with e1 e2
      subst e1 e2
      rcases List.mem_cons.mp hp with rfl | hp
      · have e1 := e.1
        split at e1
        · rename_i w ew
          obtain ⟨u, eu, ru⟩ := find_val _ rl ew
          exact ⟨u, eu, hf _ _ _ _ e1 a1 ru⟩
        · cases e1
      · exact ih e.2 a2 p hp
theorem same_rel {K : PySem.W.Frag} {H : Hp} {ρ : List Addr} : ∀ (n : Nat) {x y : D} {v w : V}, sameN n x y = true → RelD K T H ρ x v → RelD K T H ρ y w → EqU K H n v w
  | 0, _, _, _, _, e, _, _ => by unfold sameN at e; cases e
  | n + 1, x, y, v, w, e, r1, r2 => by
    unfold sameN at e
    split at e
    · rw [relNon r1, relNon r2]; exact .inl ⟨rfl, rfl⟩
    · rw [relBl r1, relBl r2, of_decide_eq_true e]; exact .inl ⟨rfl, rfl⟩
    · rw [relInt r1, relInt r2, of_decide_eq_true e]; exact .inl ⟨rfl, rfl⟩
    · rw [relStr r1, relStr r2, of_decide_eq_true e]; exact .inl ⟨rfl, rfl⟩
    · unfold RelD at r1 r2
      obtain ⟨a, vs, rfl, s1, q1⟩ := r1
      obtain ⟨b, ws, rfl, s2, q2⟩ := r2
      exact .inr (.inl ⟨a, b, vs, ws, rfl, rfl, s1, s2, all2_rel (fun x y v w e r1 r2 => same_rel n e r1 r2) e q1 q2⟩)
    · rw [Bool.and_eq_true] at e
      unfold RelD at r1 r2
      obtain ⟨a, kvs, rfl, s1, _, rfl, q1⟩ := r1
      obtain ⟨b, ls, rfl, s2, _, rfl, q2⟩ := r2
      have hl := of_decide_eq_true e.1
      rw [List.length_map, List.length_map] at hl
      exact .inr (.inr ⟨a, b, kvs, ls, rfl, rfl, s1, s2, hl, allK_rel (fun x y v w e r1 r2 => same_rel n e r1 r2) q2 e.2 q1⟩)
    · cases e
theorem eqS_some {K : PySem.W.Frag} {H : Hp} {ρ : List Addr} {h : Hs} {x y : D} {v w : V} {b : Bool} (r1 : RelD K T H ρ x v) (r2 : RelD K T H ρ y w) (e : eqS x y h = some b) : b = true ∧ ∃ c d xs ys, v = .ref c ∧ w = .ref d ∧ SqT K H c xs ∧ SqT K H d ys ∧ Paired (EqU K H 50) xs ys := by
  unfold eqS at e
  split at e
  · rename_i xs ys l1 l2
    split at e
    · rename_i ea
      cases e
      obtain ⟨a, vs, rfl, s1, q1⟩ := look_tup l1 r1
      obtain ⟨c, ws, rfl, s2, q2⟩ := look_tup l2 r2
      exact ⟨rfl, a, c, vs, ws, rfl, rfl, s1, s2, all2_rel (fun x y v w e r1 r2 => same_rel 50 e r1 r2) ea q1 q2⟩
    · cases e
  · cases e
theorem orO_or {a b : Option Bool} {c : Bool} (e : orO a b = some c) : a = some c ∨ b = some c := by
  unfold orO at e
  split at e
  · exact .inl e
  · exact .inr e
theorem cs_eq : CmpSound X T .Eq (fun x y H Q => (rEqD X.K x y H Q ∨ rEqE X.K x y H Q) ∨ rSameU X.K true x y H Q) := fun H ρ h x y v w Q b hw r1 r2 e q => by
  rcases orO_or e with e | e
  · refine .inl ?_
    rcases eqC_or e with e | e
    · obtain ⟨p, p', e1, e2, s1, s2, rfl⟩ := eqO_some e
      exact .inl ⟨p, p', dp_look hw e1 r1, dp_look hw e2 r2, s1, s2, q⟩
    · obtain ⟨a, c, vs, rfl, rfl, hq, rfl⟩ := eqE_some hw r1 r2 e
      exact .inr ⟨a, c, vs, rfl, rfl, hq, q⟩
  · obtain ⟨rfl, c, d, xs, ys, rfl, rfl, s1, s2, ps⟩ := eqS_some r1 r2 e
    exact .inr ⟨c, d, xs, ys, rfl, rfl, s1, s2, ps, q⟩
theorem cs_ne : CmpSound X T .NotEq (fun x y H Q => rNeD X.K x y H Q ∨ rSameU X.K false x y H Q) := fun H ρ h x y v w Q b hw r1 r2 e q => by
  rcases orO_or e with e | e
  · obtain ⟨c, ec, rfl⟩ := not_some e
    obtain ⟨p, p', e1, e2, s1, s2, rfl⟩ := eqO_some ec
    exact .inl ⟨p, p', dp_look hw e1 r1, dp_look hw e2 r2, s1, s2, q⟩
  · obtain ⟨c, ec, rfl⟩ := not_some e
    obtain ⟨rfl, c, d, xs, ys, rfl, rfl, s1, s2, ps⟩ := eqS_some r1 r2 ec
    exact .inr ⟨c, d, xs, ys, rfl, rfl, s1, s2, ps, q⟩
theorem ltC_some {f : Int → Int → Bool} {x y : D} {b : Bool} (e : ltC f x y = some b) : ∃ i j, x = .int i ∧ y = .int j ∧ b = f i j := by
  unfold ltC at e
  split at e
  · cases e; exact ⟨_, _, rfl, rfl, rfl⟩
  · cases e
theorem cs_int {o : CmpOp} {f : Int → Int → Bool} (hf : ∀ x y h, cmpD o x y h = ltC f x y) : CmpSound X T o (rI0 fun i j => .bl (f i j)) := fun H ρ h x y v w Q b hw r1 r2 e q => by
  rw [hf] at e
  obtain ⟨i, j, rfl, rfl, rfl⟩ := ltC_some e
  exact ⟨i, j, relInt r1, relInt r2, q⟩
theorem key_rel {K : PySem.W.Frag} {H : Hp} {ρ : List Addr} {d : D} {k : Key} {v : V} (e : keyOf d = some k) (r : RelD K T H ρ d v) : v = kV k := by
  unfold keyOf at e
  split at e
  · cases e; exact relInt r
  · cases e; exact relStr r
  · cases e
theorem look_dct {K : PySem.W.Frag} {H : Hp} {ρ : List Addr} {h : Hs} (hw : RelH K T H ρ h) : ∀ {d : D} {v : V} {ks : List Key} {xs : List D}, look h d = .dct ks xs → RelD K T H ρ d v → ∃ a kvs, v = .ref a ∧ Rd H a (.dK kvs) ∧ kvs.map (·.1) = ks ∧ RelDs K T H ρ xs (kvs.map (·.2)) := by
  intro d v ks xs e r
  cases d with
  | dct ys zs =>
    cases e
    unfold RelD at r
    obtain ⟨a, kvs, rfl, s, _, k, r⟩ := r
    exact ⟨a, kvs, rfl, s, k, r⟩
  | ref n =>
    unfold RelD at r
    obtain ⟨a, rfl, q⟩ := r
    unfold look at e
    dsimp only at e
    split at e
    · cases e
    · rename_i ys zs e1
      cases e
      obtain ⟨kvs, s, k, r⟩ := hw.at_ n _ a e1 q
      exact ⟨a, kvs, rfl, .inl s, k, r⟩
    all_goals cases e
  | _ => cases e
theorem look_dcu {K : PySem.W.Frag} {H : Hp} {ρ : List Addr} {h : Hs} (hw : RelH K T H ρ h) : ∀ {d : D} {v : V} {ks : List (List Key)} {xs : List D}, look h d = .dcu ks xs → RelD K T H ρ d v → ∃ a kvs, v = .ref a ∧ H a = some (.dT kvs) ∧ kvs.map (·.1) = ks ∧ RelDs K T H ρ xs (kvs.map (·.2)) := by
  intro d v ks xs e r
  cases d with
  | dcu ys zs =>
    cases e
    unfold RelD at r
    obtain ⟨a, kvs, rfl, s, _, k, r⟩ := r
    exact ⟨a, kvs, rfl, s, k, r⟩
  | ref n =>
    unfold RelD at r
    obtain ⟨a, rfl, q⟩ := r
    unfold look at e
    dsimp only at e
    split at e
    · cases e
    · cases e
    · rename_i ys zs e1
      cases e
      obtain ⟨kvs, s, k, r⟩ := hw.at_ n _ a e1 q
      exact ⟨a, kvs, rfl, s, k, r⟩
    · cases e
  | _ => cases e
theorem keysU_rel {K : PySem.W.Frag} {H : Hp} {ρ : List Addr} : ∀ {ds : List D} {ks : List Key} {vs : List V}, keysU ds = some ks → RelDs K T H ρ ds vs → vs = ks.map kV := by
  intro ds
  induction ds with
  | nil => intro ks vs e r; cases e; unfold RelDs at r; exact r
  | cons d ds ih =>
    intro ks vs e r
    unfold keysU at e
    unfold RelDs at r
    obtain ⟨v, w, rfl, r1, r2⟩ := r
    split at e
    · rename_i k ks' e1 e2
      cases e
      rw [List.map_cons, key_rel e1 r1, ih e2 r2]
    · cases e
theorem any_val (k : Key) : ∀ kvs : List (Key × V), ((kvs.map (·.1)).any fun z => decide (z = k)) = (valV kvs k).isSome := fun kvs => by
  rw [← valV_any, List.any_map]
  rfl
theorem cs_inN (neg : Bool) {x y : D} {h : Hs} {c : Bool} (e : inC x y h = some c) {H : Hp} {ρ : List Addr} {v w : V} {Q : VK} (hw : RelH X.K T H ρ h) (r1 : RelD X.K T H ρ x v) (r2 : RelD X.K T H ρ y w) (q : Q (.bl (yn neg c)) H) : rInA X.K neg v w H Q := by
  unfold inC at e
  split at e
  · rename_i ys l
    split at e
    · rename_i p qs e1 e2
      split at e
      · rename_i s
        cases e
        rw [Bool.and_eq_true] at s
        obtain ⟨a, vs, rfl, sa, ra⟩ := look_lst hw l r2
        exact .inl ⟨p, qs, dp_look hw e1 r1, .inl (.lst (.of sa) (dps_of e2 ra)), s.1, s.2, q⟩
      · cases e
    · cases e
  · rename_i ys l
    split at e
    · rename_i p qs e1 e2
      split at e
      · rename_i s
        cases e
        rw [Bool.and_eq_true] at s
        obtain ⟨a, vs, rfl, sa, ra⟩ := look_tup l r2
        exact .inl ⟨p, qs, dp_look hw e1 r1, .inr (.tup sa (dps_of e2 ra)), s.1, s.2, q⟩
      · cases e
    · cases e
  · rename_i ks zs l
    split at e
    · rename_i k ek
      cases e
      obtain ⟨a, kvs, rfl, s, rfl, _⟩ := look_dct hw l r2
      refine .inr ⟨a, valV kvs k, rfl, .inl ⟨kvs, k, s, key_rel ek r1, rfl⟩, ?_⟩
      rw [← any_val]
      exact q
    · cases e
  · cases e
theorem cs_in : CmpSound X T .In (rInA X.K false) := fun H ρ h x y v w Q b hw r1 r2 e q => cs_inN false e hw r1 r2 q
theorem cs_notIn : CmpSound X T .NotIn (rInA X.K true) := fun H ρ h x y v w Q b hw r1 r2 e q => by
  obtain ⟨c, ec, rfl⟩ := not_some e
  exact cs_inN true ec hw r1 r2 q
theorem isC_V {K : PySem.W.Frag} {H : Hp} {ρ : List Addr} {x y : D} {v w : V} {b : Bool} (e : isC x y = some b) (r1 : RelD K T H ρ x v) (r2 : RelD K T H ρ y w) : isV v w = some b := by
  unfold isC at e
  cases y with
  | non =>
    rw [relNon r2]
    cases x with
    | non => rw [relNon r1]; exact e
    | bl _ => rw [relBl r1]; exact e
    | int _ => rw [relInt r1]; exact e
    | str _ => rw [relStr r1]; exact e
    | tup _ => unfold RelD at r1; obtain ⟨a, vs, rfl, _⟩ := r1; exact e
    | lst _ => unfold RelD at r1; obtain ⟨a, vs, rfl, _⟩ := r1; exact e
    | dct _ _ => unfold RelD at r1; obtain ⟨a, vs, rfl, _⟩ := r1; exact e
    | dcu _ _ => unfold RelD at r1; obtain ⟨a, vs, rfl, _⟩ := r1; exact e
    | scr _ => unfold RelD at r1; obtain ⟨a, vs, rfl, _⟩ := r1; exact e
    | ref _ => unfold RelD at r1; obtain ⟨a, rfl, _⟩ := r1; exact e
    | ty _ => unfold RelD at r1; subst r1; exact e
    | own _ => unfold RelD at r1; subst r1; exact e
    | exc _ => unfold RelD at r1; obtain ⟨a, rfl, _⟩ := r1; exact e
    | fn _ => unfold RelD at r1; subst r1; exact e
    | clo _ => unfold RelD at r1; obtain ⟨a, rfl, _⟩ := r1; exact e
  | bl _ =>
    rw [relBl r2]
    cases x with
    | non => rw [relNon r1]; exact e
    | bl _ => rw [relBl r1]; exact e
    | int _ => rw [relInt r1]; exact e
    | str _ => rw [relStr r1]; exact e
    | _ => cases e
  | _ => cases e
theorem cs_is : CmpSound X T .Is (rIsA false) := fun H ρ h x y v w Q b hw r1 r2 e q => ⟨b, isC_V e r1 r2, q⟩
theorem cs_isNot : CmpSound X T .IsNot (rIsA true) := fun H ρ h x y v w Q b hw r1 r2 e q => by
  obtain ⟨c, ec, rfl⟩ := not_some e
  exact ⟨c, isC_V ec r1 r2, q⟩
/-- the rule of each comparison -/
theorem cmp_rule (hu : X.A.units + 65 < cLine) (o : CmpOp) : ∃ r, OpR X (compareOp o) r ∧ CmpSound X T o r := by
  cases o with
  | Eq => exact ⟨_, ((op_eqD (by omega)).or (op_eqE (by omega))).or (op_eqU (by omega)), cs_eq⟩
  | NotEq => exact ⟨_, (op_neD (by omega)).or (op_neU (by omega)), cs_ne⟩
  | Lt => exact ⟨_, op_lt, cs_int fun _ _ _ => rfl⟩
  | LtE => exact ⟨_, op_le, cs_int fun _ _ _ => rfl⟩
  | Gt => exact ⟨_, op_gt, cs_int fun _ _ _ => rfl⟩
  | GtE => exact ⟨_, op_ge, cs_int fun _ _ _ => rfl⟩
  | In => exact ⟨_, op_inA hu, cs_in⟩
  | NotIn => exact ⟨_, op_notInA hu, cs_notIn⟩
  | Is => exact ⟨_, op_isA, cs_is⟩
  | IsNot => exact ⟨_, op_isNotA, cs_isNot⟩
def ans (o : Option Bool) (h : Hs) : R D := match o with
  | some b => .ok (.bl b) h
  | none => .bad
def mCmp (o : CmpOp) (ma mb : M) : M := fun env h => (ma env h).bind fun x h1 => (mb env h1).bind fun y h2 => ans (cmpD o x y h2) h2
theorem ans_post {K : PySem.W.Frag} {H : Hp} {ρ : List Addr} {h : Hs} {o : Option Bool} {Q : V → Hp → Prop} {Wx : Value → Option Addr → Hp → Prop} (hw : RelH K T H ρ h) (p : PostV K T (RelD K T) H ρ (ans o h) Q Wx) : ∃ b, o = some b ∧ Q (.bl b) H := by
  cases o with
  | none => exact p.elim
  | some b => exact ⟨b, rfl, now p hw (by unfold RelD; rfl)⟩
theorem ans_postT {K : PySem.W.Frag} {H : Hp} {ρ : List Addr} {h : Hs} {o : Option Bool} {Q : Bool → Hp → Prop} {Wx : Value → Option Addr → Hp → Prop} (hw : RelH K T H ρ h) (p : PostV K T RelB H ρ (ans o h) Q Wx) : ∃ b, o = some b ∧ Q b H := by
  cases o with
  | none => exact p.elim
  | some b => exact ⟨b, rfl, now p hw rfl⟩
theorem den_cmp (hu : X.A.units + 65 < cLine) {o : CmpOp} {a b : Expr} {pos : Pos} {ma mb : M} (ha : PE X a (tI X.K T W ma)) (hb : PE X b (tI X.K T W mb)) (hm : behindInMarks o b = false) : PE X (.Compare a [o] [b] pos) (tI X.K T W (mCmp o ma mb)) := by
  obtain ⟨r, ho, hs⟩ := cmp_rule (T := T) hu o
  refine PE.imp (pe_cmpR ho ha hb hm) fun σ H Q ⟨ρ, env, h, hw, he, p⟩ => ?_
  refine bindI hw he p fun H1 ρ1 d h1 v x1 w1 e1 r1 p1 => ?_
  refine bindI w1 e1 p1 fun H2 ρ2 d2 h2 v2 x2 w2 e2 r2 p2 => ?_
  obtain ⟨c, ec, q⟩ := ans_post w2 p2
  exact hs H2 ρ2 h2 d d2 v v2 Q c w2 (r1.mono x2) r2 ec q
theorem dent_cmp (hu : X.A.units + 65 < cLine) {o : CmpOp} {a b : Expr} {pos : Pos} {ma mb : M} (ha : PE X a (tI X.K T W ma)) (hb : PE X b (tI X.K T W mb)) (hm : behindInMarks o b = false) : PT X (.Compare a [o] [b] pos) (tIT X.K T W (mCmp o ma mb)) := by
  obtain ⟨r, ho, hs⟩ := cmp_rule (T := T) hu o
  refine PT.imp (pt_cmpR ho ha hb hm) fun σ H Q ⟨ρ, env, h, hw, he, p⟩ => ?_
  refine bindI hw he p fun H1 ρ1 d h1 v x1 w1 e1 r1 p1 => ?_
  refine bindI w1 e1 p1 fun H2 ρ2 d2 h2 v2 x2 w2 e2 r2 p2 => ?_
  obtain ⟨c, ec, q⟩ := ans_postT w2 p2
  exact hs H2 ρ2 h2 d d2 v v2 _ c w2 (r1.mono x2) r2 ec ⟨c, rfl, q⟩
end
end Iv

set_option maxRecDepth 100000
namespace Iv
open PySem PySem.Spec PyProof.Rows L2
/-- a value's truth -/
def truD (d : D) (h : Hs) : Option Bool := match look h d with
  | .non => some false
  | .bl b => some b
  | .int i => some (i != 0)
  | .lst xs => some !xs.isEmpty
  | .tup xs => some !xs.isEmpty
  | _ => none
def mT (m : M) : M := fun env h => (m env h).bind fun d h1 => ans (truD d h1) h1
section
variable {X : Cx} {T : Tb} {W : WX}
/-! tests, and, or, not, if -/
theorem emp_of {K : PySem.W.Frag} {H : Hp} {ρ : List Addr} {xs : List D} {vs : List V} (r : RelDs K T H ρ xs vs) : (!vs.isEmpty) = !xs.isEmpty := by
  have := r.len
  cases xs <;> cases vs <;> first | rfl | (simp at this)
theorem tru_of {K : PySem.W.Frag} {H : Hp} {ρ : List Addr} {h : Hs} {d : D} {v : V} {b : Bool} (hw : RelH K T H ρ h) (e : truD d h = some b) (r : RelD K T H ρ d v) : TruV K v H b := by
  unfold truD at e
  split at e
  · rename_i l
    cases d with
    | non => rw [relNon r]; exact (Option.some.inj e).symm
    | ref n => unfold look at l; dsimp only at l; split at l <;> cases l
    | _ => cases l
  · rename_i c l
    cases d with
    | bl c' => cases l; rw [relBl r]; exact (Option.some.inj e).symm
    | ref n => unfold look at l; dsimp only at l; split at l <;> cases l
    | _ => cases l
  · rename_i i l
    cases d with
    | int c' => cases l; rw [relInt r]; exact (Option.some.inj e).symm
    | ref n => unfold look at l; dsimp only at l; split at l <;> cases l
    | _ => cases l
  · rename_i xs l
    obtain ⟨a, vs, rfl, s, rs⟩ := look_lst hw l r
    exact .inl ⟨vs, .of s, by rw [emp_of rs]; exact (Option.some.inj e).symm⟩
  · rename_i xs l
    obtain ⟨a, vs, rfl, s, rs⟩ := look_tup l r
    exact .inr (.inl ⟨vs, s, by rw [emp_of rs]; exact (Option.some.inj e).symm⟩)
  · cases e
theorem dent_val {e : Expr} {m : M} (h : PE X e (tI X.K T W m)) (he : ∀ whole, isTrue e X.env whole = (do let v ← whole; standAt e.pos; holding [v] (truthy v))) : PT X e (tIT X.K T W (mT m)) := by
  refine PT.imp (pt_truth h he) fun σ H Q ⟨ρ, env, hh, hw, he, p⟩ => ?_
  refine bindI hw he p fun H1 ρ1 d h1 v x1 w1 e1 r1 p1 => ?_
  obtain ⟨b, eb, q⟩ := ans_postT w1 p1
  exact ⟨b, tru_of w1 eb r1, q⟩
def mNot (m : M) : M := fun env h => (mT m env h).bind fun d h1 => match d with
  | .bl b => .ok (.bl (!b)) h1
  | _ => .bad
theorem bl_or {d : D} : (∃ b, d = .bl b) ∨ ∀ b, d ≠ .bl b := by
  cases d with
  | bl b => exact .inl ⟨b, rfl⟩
  | _ => exact .inr fun b z => nomatch z
/-- a test, then what follows by its answer -/
theorem testI {α β : Type} {σ : Sg} {H : Hp} {ρ : List Addr} {h : Hs} {env : Env} {Rel : Hp → List Addr → α → β → Prop} {m : M} {k : Bool → Hs → R α} {Q : β → Hp → Prop} (hw : RelH X.K T H ρ h) (he : RelEnv X.K T H ρ env σ)
    (p : PostV X.K T Rel H ρ ((mT m env h).bind fun d h1 => match d with | .bl b => k b h1 | _ => .bad) Q (fun c d H' => W c d σ H')) {Q1 : Bool → Hp → Prop}
    (q : ∀ H1 ρ1 b h1, Ext H ρ H1 ρ1 → RelH X.K T H1 ρ1 h1 → RelEnv X.K T H1 ρ1 env σ → PostV X.K T Rel H1 ρ1 (k b h1) Q (fun c d H' => W c d σ H') → Q1 b H1) : tIT X.K T W (mT m) σ H Q1 := by
  refine bindI hw he p fun H1 ρ1 d h1 b x1 w1 e1 r1 p1 => ?_
  have e : d = .bl b := r1
  subst e
  exact q H1 ρ1 b h1 x1 w1 e1 p1
theorem mT_bl {m : M} (hb : ∀ env h d h1, m env h = .ok d h1 → ∃ b, d = .bl b) : mT m = m := by
  funext env h
  unfold mT
  cases e : m env h with
  | ok d h1 =>
    obtain ⟨b, rfl⟩ := hb env h d h1 e
    rfl
  | ex c h1 => rfl
  | bad => rfl
theorem ans_bl {o : Option Bool} {h h1 : Hs} {d : D} (e : ans o h = .ok d h1) : ∃ b, d = .bl b := by
  cases o with
  | none => cases e
  | some b => cases e; exact ⟨b, rfl⟩
theorem mNot_bl (m : M) : ∀ env h d h1, mNot m env h = .ok d h1 → ∃ b, d = .bl b := fun env h d h1 e => by
  unfold mNot at e
  cases q : mT m env h with
  | ok d' h' =>
    rw [q] at e
    dsimp only [R.bind] at e
    split at e
    · cases e; exact ⟨_, rfl⟩
    · cases e
  | ex c h' => rw [q] at e; cases e
  | bad => rw [q] at e; cases e
theorem mCmp_bl (o : CmpOp) (ma mb : M) : ∀ env h d h1, mCmp o ma mb env h = .ok d h1 → ∃ b, d = .bl b := fun env h d h1 e => by
  unfold mCmp at e
  cases q : ma env h with
  | ok d' h' =>
    rw [q] at e
    dsimp only [R.bind] at e
    cases q' : mb env h' with
    | ok d2 h2 =>
      rw [q'] at e
      exact ans_bl e
    | ex c h' => rw [q'] at e; cases e
    | bad => rw [q'] at e; cases e
  | ex c h' => rw [q] at e; cases e
  | bad => rw [q] at e; cases e
theorem dent_cmpT (hu : X.A.units + 65 < cLine) {o : CmpOp} {a b : Expr} {pos : Pos} {ma mb : M} (ha : PE X a (tI X.K T W ma)) (hb : PE X b (tI X.K T W mb)) (hm : behindInMarks o b = false) : PT X (.Compare a [o] [b] pos) (tIT X.K T W (mT (mCmp o ma mb))) := by
  rw [mT_bl (mCmp_bl o ma mb)]
  exact dent_cmp hu ha hb hm
theorem dent_not {e : Expr} {pos : Pos} {m : M} (h : PT X e (tIT X.K T W (mT m))) : PT X (.UnaryOp .Not e pos) (tIT X.K T W (mT (mNot m))) := by
  rw [mT_bl (mNot_bl m)]
  refine PT.imp (pt_not h) fun σ H Q ⟨ρ, env, hh, hw, he, p⟩ => ?_
  refine testI (k := fun b h1 => .ok (D.bl !b) h1) hw he p fun H1 ρ1 b h1 x1 w1 e1 p1 => ?_
  exact now p1 w1 rfl
theorem den_not {e : Expr} {pos : Pos} {m : M} (h : PE X e (tI X.K T W m)) : PE X (.UnaryOp .Not e pos) (tI X.K T W (mNot m)) := by
  refine PE.imp (L2.pe_notT h) fun σ H Q ⟨ρ, env, hh, hw, he, p⟩ => ?_
  have p : PostV X.K T (RelD X.K T) H ρ ((m env hh).bind fun d h1 => match truD d h1 with | some b => .ok (.bl !b) h1 | none => .bad) Q (fun c d H' => W c d σ H') := by
    unfold mNot mT at p
    cases e1 : m env hh with
    | ok d h1 =>
      rw [e1] at p
      dsimp only [R.bind] at p ⊢
      cases e2 : truD d h1 with
      | none => rw [e2] at p; exact p
      | some b => rw [e2] at p; exact p
    | ex c h1 => rw [e1] at p; exact p
    | bad => rw [e1] at p; exact p
  refine bindI hw he p fun H1 ρ1 d h1 v x1 w1 e1 r1 p1 => ?_
  cases e2 : truD d h1 with
  | none => rw [e2] at p1; exact p1.elim
  | some b =>
    rw [e2] at p1
    exact ⟨b, tru_of w1 e2 r1, now p1 w1 (by unfold RelD; rfl)⟩
/-! and, or: all but the last are bools -/
def mAnd (m r : M) : M := fun env h => (m env h).bind fun d h1 => match d with
  | .bl true => r env h1
  | .bl false => .ok (.bl false) h1
  | _ => .bad
def mOr (m r : M) : M := fun env h => (m env h).bind fun d h1 => match d with
  | .bl false => r env h1
  | .bl true => .ok (.bl true) h1
  | _ => .bad
def mBop (o : BoolOp) : List M → M
  | [] => fun _ _ => .bad
  | [m] => m
  | m :: r => match o with
    | .And => mAnd m (mBop o r)
    | .Or => mOr m (mBop o r)
/-- a bool is known -/
theorem blI {α β : Type} {σ : Sg} {H : Hp} {ρ : List Addr} {h : Hs} {env : Env} {Rel : Hp → List Addr → α → β → Prop} {m : M} {k : Bool → Hs → R α} {Q : β → Hp → Prop} (hw : RelH X.K T H ρ h) (he : RelEnv X.K T H ρ env σ)
    (p : PostV X.K T Rel H ρ ((m env h).bind fun d h1 => match d with | .bl b => k b h1 | _ => .bad) Q (fun c d H' => W c d σ H')) {Q1 : V → Hp → Prop}
    (q : ∀ H1 ρ1 b h1, Ext H ρ H1 ρ1 → RelH X.K T H1 ρ1 h1 → RelEnv X.K T H1 ρ1 env σ → PostV X.K T Rel H1 ρ1 (k b h1) Q (fun c d H' => W c d σ H') → Q1 (.bl b) H1) : tI X.K T W m σ H Q1 := by
  refine bindI hw he p fun H1 ρ1 d h1 v x1 w1 e1 r1 p1 => ?_
  cases d with
  | bl b => rw [relBl r1]; exact q H1 ρ1 b h1 x1 w1 e1 p1
  | _ => exact p1.elim
theorem and_eq (m r : M) (env : Env) (h : Hs) : mAnd m r env h = (m env h).bind fun d h1 => match d with | .bl b => (fun b h1 => if b = true then r env h1 else .ok (.bl false) h1) b h1 | _ => .bad := by
  unfold mAnd
  congr 1
  funext d h1
  cases d with
  | bl b => cases b <;> rfl
  | _ => rfl
theorem or_eq (m r : M) (env : Env) (h : Hs) : mOr m r env h = (m env h).bind fun d h1 => match d with | .bl b => (fun b h1 => if b = true then .ok (.bl true) h1 else r env h1) b h1 | _ => .bad := by
  unfold mOr
  congr 1
  funext d h1
  cases d with
  | bl b => cases b <;> rfl
  | _ => rfl
theorem den_and {a b : Expr} {rest : List Expr} {pos : Pos} {m r : M} (ha : PE X a (tI X.K T W m)) (hr : PE X (.BoolOp .And (b :: rest) pos) (tI X.K T W r)) : PE X (.BoolOp .And (a :: b :: rest) pos) (tI X.K T W (mAnd m r)) := by
  refine PE.imp (L2.pe_and ha hr) fun σ H Q ⟨ρ, env, hh, hw, he, p⟩ => ?_
  rw [and_eq] at p
  refine blI hw he p fun H1 ρ1 c h1 x1 w1 e1 p1 => ⟨c, rfl, ?_⟩
  cases c with
  | true => exact iteT ⟨ρ1, env, h1, w1, e1, p1⟩
  | false => exact iteF (now p1 w1 (by unfold RelD; rfl))
theorem den_or {a b : Expr} {rest : List Expr} {pos : Pos} {m r : M} (ha : PE X a (tI X.K T W m)) (hr : PE X (.BoolOp .Or (b :: rest) pos) (tI X.K T W r)) : PE X (.BoolOp .Or (a :: b :: rest) pos) (tI X.K T W (mOr m r)) := by
  refine PE.imp (L2.pe_or ha hr) fun σ H Q ⟨ρ, env, hh, hw, he, p⟩ => ?_
  rw [or_eq] at p
  refine blI hw he p fun H1 ρ1 c h1 x1 w1 e1 p1 => ⟨c, rfl, ?_⟩
  cases c with
  | true => exact iteT (now p1 w1 (by unfold RelD; rfl))
  | false => exact iteF ⟨ρ1, env, h1, w1, e1, p1⟩
/-- as a test; the parts' values are bools here too -/
theorem mT_and {m r : M} {env : Env} {h : Hs} : mT (mAnd m r) env h = (m env h).bind fun d h1 => match d with
  | .bl true => mT r env h1
  | .bl false => .ok (.bl false) h1
  | _ => .bad := by
  unfold mT mAnd
  cases m env h with
  | ok d h1 =>
    cases d with
    | bl b => cases b <;> rfl
    | _ => rfl
  | ex c h1 => rfl
  | bad => rfl
theorem mT_or {m r : M} {env : Env} {h : Hs} : mT (mOr m r) env h = (m env h).bind fun d h1 => match d with
  | .bl false => mT r env h1
  | .bl true => .ok (.bl true) h1
  | _ => .bad := by
  unfold mT mOr
  cases m env h with
  | ok d h1 =>
    cases d with
    | bl b => cases b <;> rfl
    | _ => rfl
  | ex c h1 => rfl
  | bad => rfl
theorem post_T {α β : Type} {H : Hp} {ρ : List Addr} {h : Hs} {env : Env} {Rel : Hp → List Addr → α → β → Prop} {m : M} {k : Bool → Hs → R α} {Q : β → Hp → Prop} {Wx : Value → Option Addr → Hp → Prop}
    (p : PostV X.K T Rel H ρ ((m env h).bind fun d h1 => match d with | .bl b => k b h1 | _ => .bad) Q Wx) : PostV X.K T Rel H ρ ((mT m env h).bind fun d h1 => match d with | .bl b => k b h1 | _ => .bad) Q Wx := by
  unfold mT
  cases e1 : m env h with
  | ok d h1 =>
    rw [e1] at p
    cases d with
    | bl b => exact p
    | _ => exact p.elim
  | ex c h1 => rw [e1] at p; exact p
  | bad => rw [e1] at p; exact p
theorem dent_and {a b : Expr} {rest : List Expr} {pos : Pos} {m r : M} (ha : PT X a (tIT X.K T W (mT m))) (hr : PW X (.BoolOp .And (b :: rest) pos) (tIT X.K T W (mT r))) : PW X (.BoolOp .And (a :: b :: rest) pos) (tIT X.K T W (mT (mAnd m r))) := by
  refine PW.imp (pw_and ha hr) fun σ H Q ⟨ρ, env, hh, hw, he, p⟩ => ?_
  have p : PostV X.K T RelB H ρ ((m env hh).bind fun d h1 => match d with | .bl b => (fun b h1 => if b = true then mT r env h1 else .ok (.bl false) h1) b h1 | _ => .bad) Q (fun c d H' => W c d σ H') := by
    rw [mT_and] at p
    cases e1 : m env hh with
    | ok d h1 =>
      rw [e1] at p
      cases d with
      | bl b => cases b <;> exact p
      | _ => exact p
    | ex c h1 => rw [e1] at p; exact p
    | bad => rw [e1] at p; exact p
  refine testI hw he (post_T p) fun H1 ρ1 c h1 x1 w1 e1 p1 => ?_
  cases c with
  | true => exact iteT ⟨ρ1, env, h1, w1, e1, p1⟩
  | false => exact iteF (now p1 w1 rfl)
theorem dent_or {a b : Expr} {rest : List Expr} {pos : Pos} {m r : M} (ha : PT X a (tIT X.K T W (mT m))) (hr : PW X (.BoolOp .Or (b :: rest) pos) (tIT X.K T W (mT r))) : PW X (.BoolOp .Or (a :: b :: rest) pos) (tIT X.K T W (mT (mOr m r))) := by
  refine PW.imp (pw_or ha hr) fun σ H Q ⟨ρ, env, hh, hw, he, p⟩ => ?_
  have p : PostV X.K T RelB H ρ ((m env hh).bind fun d h1 => match d with | .bl b => (fun b h1 => if b = true then .ok (.bl true) h1 else mT r env h1) b h1 | _ => .bad) Q (fun c d H' => W c d σ H') := by
    rw [mT_or] at p
    cases e1 : m env hh with
    | ok d h1 =>
      rw [e1] at p
      cases d with
      | bl b => cases b <;> exact p
      | _ => exact p
    | ex c h1 => rw [e1] at p; exact p
    | bad => rw [e1] at p; exact p
  refine testI hw he (post_T p) fun H1 ρ1 c h1 x1 w1 e1 p1 => ?_
  cases c with
  | true => exact iteT (now p1 w1 rfl)
  | false => exact iteF ⟨ρ1, env, h1, w1, e1, p1⟩
theorem dent_and1 {a : Expr} {pos : Pos} {m : M} (ha : PT X a (tIT X.K T W (mT m))) : PW X (.BoolOp .And [a] pos) (tIT X.K T W (mT m)) := pw_and1 ha
theorem dent_or1 {a : Expr} {pos : Pos} {m : M} (ha : PT X a (tIT X.K T W (mT m))) : PW X (.BoolOp .Or [a] pos) (tIT X.K T W (mT m)) := pw_or1 ha
/-! x if c else y -/
def mIfe (c a b : M) : M := fun env h => (mT c env h).bind fun d h1 => match d with
  | .bl t => (fun t h1 => if t = true then a env h1 else b env h1) t h1
  | _ => .bad
theorem den_ife {c a b : Expr} {pos : Pos} {mc ma mb : M} (hc : PT X c (tIT X.K T W (mT mc))) (ha : PE X a (tI X.K T W ma)) (hb : PE X b (tI X.K T W mb)) : PE X (.IfExp c a b pos) (tI X.K T W (mIfe mc ma mb)) := by
  refine PE.imp (pe_ifExp hc ha hb) fun σ H Q ⟨ρ, env, hh, hw, he, p⟩ => ?_
  refine testI hw he p fun H1 ρ1 t h1 x1 w1 e1 p1 => ?_
  cases t with
  | true => exact iteT ⟨ρ1, env, h1, w1, e1, p1⟩
  | false => exact iteF ⟨ρ1, env, h1, w1, e1, p1⟩
def negD (d : D) (h : Hs) : R D := match d with
  | .int i => .ok (.int (-i)) h
  | _ => .bad
def mNeg (m : M) : M := fun env h => (m env h).bind negD
theorem den_neg {e : Expr} {pos : Pos} {m : M} (h : PE X e (tI X.K T W m)) : PE X (.UnaryOp .USub e pos) (tI X.K T W (mNeg m)) := by
  refine PE.imp (pe_un un_neg h) fun σ H Q ⟨ρ, env, hh, hw, he, p⟩ => ?_
  refine bindI hw he p fun H1 ρ1 d h1 v x1 w1 e1 r1 p1 => ?_
  unfold negD at p1
  split at p1
  · rename_i i
    exact ⟨i, relInt r1, now p1 w1 (by unfold RelD; rfl)⟩
  · exact p1.elim
/-! a < b < c -/
def mChain (o o' : CmpOp) (ma mb mc : M) : M := fun env h => (ma env h).bind fun x h1 => (mb env h1).bind fun y h2 => match cmpD o x y h2 with
  | some true => (mc env h2).bind fun z h3 => ans (cmpD o' y z h3) h3
  | some false => .ok (.bl false) h2
  | none => .bad
theorem den_chain (hu : X.A.units + 65 < cLine) {o o' : CmpOp} {a b c : Expr} {pos : Pos} {ma mb mc : M} (ha : PE X a (tI X.K T W ma)) (hb : PE X b (tI X.K T W mb)) (hc : PE X c (tI X.K T W mc)) (hm : lastMarks [o, o'] [b, c] = false) : PE X (.Compare a [o, o'] [b, c] pos) (tI X.K T W (mChain o o' ma mb mc)) := by
  obtain ⟨r, ho, hs⟩ := cmp_rule (T := T) hu o
  obtain ⟨r', ho', hs'⟩ := cmp_rule (T := T) hu o'
  refine PE.imp (pe_chain ho ho' ha hb hc hm) fun σ H Q ⟨ρ, env, h, hw, he, p⟩ => ?_
  refine bindI hw he p fun H1 ρ1 d h1 v x1 w1 e1 r1 p1 => ?_
  refine bindI w1 e1 p1 fun H2 ρ2 d2 h2 v2 x2 w2 e2 r2 p2 => ?_
  cases ec : cmpD o d d2 h2 with
  | none => rw [ec] at p2; exact p2.elim
  | some t =>
    rw [ec] at p2
    refine hs H2 ρ2 h2 d d2 v v2 _ t w2 (r1.mono x2) r2 ec ⟨t, rfl, ?_⟩
    cases t with
    | false => exact iteF (now p2 w2 (by unfold RelD; rfl))
    | true =>
      refine iteT (bindI w2 e2 p2 fun H3 ρ3 d3 h3 v3 x3 w3 e3 r3 p3 => ?_)
      obtain ⟨t', ec', q⟩ := ans_post w3 p3
      exact hs' H3 ρ3 h3 d2 d3 v2 v3 Q t' w3 (r2.mono x3) r3 ec' q
theorem mChain_bl (o o' : CmpOp) (ma mb mc : M) : ∀ env h d h1, mChain o o' ma mb mc env h = .ok d h1 → ∃ b, d = .bl b := fun env h d h1 e => by
  unfold mChain at e
  cases q : ma env h with
  | ok d' h' =>
    rw [q] at e
    dsimp only [R.bind] at e
    cases q' : mb env h' with
    | ok d2 h2 =>
      rw [q'] at e
      dsimp only at e
      split at e
      · cases q3 : mc env h2 with
        | ok d3 h3 => rw [q3] at e; exact ans_bl e
        | ex c h' => rw [q3] at e; cases e
        | bad => rw [q3] at e; cases e
      · cases e; exact ⟨_, rfl⟩
      · cases e
    | ex c h' => rw [q'] at e; cases e
    | bad => rw [q'] at e; cases e
  | ex c h' => rw [q] at e; cases e
  | bad => rw [q] at e; cases e
theorem dent_chain (hu : X.A.units + 65 < cLine) {o o' : CmpOp} {a b c : Expr} {pos : Pos} {ma mb mc : M} (ha : PE X a (tI X.K T W ma)) (hb : PE X b (tI X.K T W mb)) (hc : PE X c (tI X.K T W mc)) (hm : lastMarks [o, o'] [b, c] = false) : PT X (.Compare a [o, o'] [b, c] pos) (tIT X.K T W (mT (mChain o o' ma mb mc))) := by
  obtain ⟨r, ho, hs⟩ := cmp_rule (T := T) hu o
  obtain ⟨r', ho', hs'⟩ := cmp_rule (T := T) hu o'
  rw [mT_bl (mChain_bl o o' ma mb mc)]
  refine PT.imp (pt_chain ho ho' ha hb hc hm) fun σ H Q ⟨ρ, env, h, hw, he, p⟩ => ?_
  refine bindI hw he p fun H1 ρ1 d h1 v x1 w1 e1 r1 p1 => ?_
  refine bindI w1 e1 p1 fun H2 ρ2 d2 h2 v2 x2 w2 e2 r2 p2 => ?_
  cases ec : cmpD o d d2 h2 with
  | none => rw [ec] at p2; exact p2.elim
  | some t =>
    rw [ec] at p2
    refine hs H2 ρ2 h2 d d2 v v2 _ t w2 (r1.mono x2) r2 ec ⟨t, rfl, ?_⟩
    cases t with
    | false => exact iteF ⟨false, rfl, now p2 w2 rfl⟩
    | true =>
      refine iteT (bindI w2 e2 p2 fun H3 ρ3 d3 h3 v3 x3 w3 e3 r3 p3 => ?_)
      obtain ⟨t', ec', q⟩ := ans_postT w3 p3
      exact hs' H3 ρ3 h3 d2 d3 v2 v3 _ t' w3 (r2.mono x3) r3 ec' ⟨t', rfl, q⟩
end
end Iv

set_option maxRecDepth 100000
namespace Iv
open PySem PySem.Spec PyProof.Rows L2
/-! subscripts -/
def ixD (x y : D) (h : Hs) : R D :=
  match look h x with
  | .lst xs => match y with
    | .int i => match atI xs i with
      | some d => .ok d h
      | none => .bad
    | _ => .bad
  | .tup xs => match y with
    | .int i => match atI xs i with
      | some d => .ok d h
      | none => .bad
    | _ => .bad
  | .scr xs => match y with
    | .int i => match atI xs i with
      | some d => .ok d h
      | none => .bad
    | _ => .bad
  | .dct ks vs => match keyOf y with
    | some k => match findK ks vs k with
      | some d => .ok d h
      | none => .bad
    | none => .bad
  | .dcu ks vs => match y with
    | .tup ds => match keysU ds with
      | some k => match findK ks vs k with
        | some d => .ok d h
        | none => .bad
      | none => .bad
    | _ => .bad
  | _ => .bad
section
variable {X : Cx} {T : Tb} {W : WX}
theorem RelDs.get {K : PySem.W.Frag} {H : Hp} {ρ : List Addr} : ∀ {xs : List D} {vs : List V} {j : Nat} {d : D}, RelDs K T H ρ xs vs → xs[j]? = some d → ∃ v, vs[j]? = some v ∧ RelD K T H ρ d v
  | [], _, j, d, _, e => by simp at e
  | x :: xs, vs, 0, d, r, e => by
    unfold RelDs at r
    obtain ⟨v, w, rfl, r1, _⟩ := r
    cases e
    exact ⟨v, rfl, r1⟩
  | x :: xs, vs, j + 1, d, r, e => by
    unfold RelDs at r
    obtain ⟨v, w, rfl, _, r2⟩ := r
    exact RelDs.get (j := j) r2 e
theorem RelDs.atI {K : PySem.W.Frag} {H : Hp} {ρ : List Addr} {xs : List D} {vs : List V} {i : Int} {d : D} (r : RelDs K T H ρ xs vs) (e : L2.atI xs i = some d) : ∃ v, L2.atI vs i = some v ∧ RelD K T H ρ d v := by
  unfold L2.atI at e ⊢
  rw [r.len] at e
  cases q : ixN vs.length i with
  | none => rw [q] at e; cases e
  | some j =>
    rw [q] at e
    exact r.get e
def rIxD : R2 := fun x y H Q => ∃ a v, x = .ref a ∧ DGet H a y (some v) ∧ Q v H
theorem ix_dict (hu : X.A.units + 1 < cLine) : IxR X rIxD := by
  intro value slice pins s σ H x y v u Q I rx ry h hs
  obtain ⟨a, z, rfl, g, q⟩ := h
  cases rx
  exact tail_any (dict_typeIs I g) PySem.F.slot_dict_getitem.lookup (d_getItem hu I g ry fun w' s' I' r' => ⟨z, H, I', r', q⟩) hs
def rIxU (K : PySem.W.Frag) : R2 := fun x y H Q => ∃ a b kvs k v, x = .ref a ∧ y = .ref b ∧ H a = some (.dT kvs) ∧ SqT K H b (k.map kV) ∧ valV kvs k = some v ∧ Q v H
theorem ix_dictU (hu : X.A.units + 1 < cLine) : IxR X (rIxU X.K) := by
  intro value slice pins s σ H x y v u Q I rx ry h hs
  obtain ⟨a, b, kvs, k, z, rfl, rfl, e, eb, l, q⟩ := h
  cases rx
  cases ry
  obtain ⟨_, hd, xs, rel, dd⟩ := dt_of I.hok e
  obtain ⟨w', hw, rw'⟩ := RelO.some_of (v := z) (o := (atKey xs k).map (·.2)) (by rw [← l]; exact rel.val k)
  obtain ⟨p, hp, hp2⟩ := Option.map_eq_some_iff.mp hw
  obtain ⟨its, rv, ⟨o, h1, h2, n, h3⟩, _⟩ := I.tuple eb
  refine tail_any dd.typeIs PySem.F.slot_dict_getitem.lookup (wpAny_getItem_heap (knd := tupleKind (mixKind X.prog X.w)) (tupleKind_room_in1 hu) ⟨o, its.toArray, n, h1, h2, h3, by simpa using items_are rv⟩ dd hp ?_) hs
  rw [hp2]
  exact ⟨z, H, I.tok _, rw', q⟩
def rIxA (K : PySem.W.Frag) : R2 := fun x y H Q => rIx K x y H Q ∨ rIxD x y H Q ∨ rIxU K x y H Q
theorem ix_all (hu : X.A.units + 1 < cLine) : IxR X (rIxA X.K) := ix_seq.or ((ix_dict hu).or (ix_dictU hu))
def mIx (ma mb : M) : M := fun env h => (ma env h).bind fun x h1 => (mb env h1).bind fun y h2 => ixD x y h2
theorem den_ix (hu : X.A.units + 1 < cLine) {a b : Expr} {pos : Pos} {ma mb : M} (ha : PE X a (tI X.K T W ma)) (hb : PE X b (tI X.K T W mb)) (hp : PlainIx b) : PE X (.Subscript a b pos) (tI X.K T W (mIx ma mb)) := by
  refine PE.imp (pe_ix (ix_all hu) ha hb hp) fun σ H Q ⟨ρ, env, h, hw, he, p⟩ => ?_
  refine bindI hw he p fun H1 ρ1 d h1 v x1 w1 e1 r1 p1 => ?_
  refine bindI w1 e1 p1 fun H2 ρ2 d2 h2 v2 x2 w2 e2 r2 p2 => ?_
  have r1 := r1.mono x2
  unfold ixD at p2
  split at p2
  · rename_i xs l
    obtain ⟨a, vs, rfl, s, rs⟩ := look_lst w2 l r1
    split at p2
    · rename_i i
      split at p2
      · rename_i z ez
        obtain ⟨w, ew, rw'⟩ := rs.atI ez
        exact .inl (.inl ⟨a, vs, i, w, rfl, relInt r2, .of s, ew, now p2 w2 rw'⟩)
      · exact p2.elim
    · exact p2.elim
  · rename_i xs l
    obtain ⟨a, vs, rfl, s, rs⟩ := look_tup l r1
    split at p2
    · rename_i i
      split at p2
      · rename_i z ez
        obtain ⟨w, ew, rw'⟩ := rs.atI ez
        exact .inl (.inr (.inl ⟨a, vs, i, w, rfl, relInt r2, s, ew, now p2 w2 rw'⟩))
      · exact p2.elim
    · exact p2.elim
  · rename_i xs l
    have hd : d = .scr xs := by
      cases d with
      | scr ys => exact l
      | ref n => unfold look at l; dsimp only at l; split at l <;> cases l
      | _ => cases l
    subst hd
    unfold RelD at r1
    obtain ⟨a, vs, rfl, s, rs⟩ := r1
    split at p2
    · rename_i i
      split at p2
      · rename_i z ez
        obtain ⟨w, ew, rw'⟩ := rs.atI ez
        exact .inl (.inl ⟨a, vs, i, w, rfl, relInt r2, s.l, ew, now p2 w2 rw'⟩)
      · exact p2.elim
    · exact p2.elim
  · rename_i ks vs l
    obtain ⟨a, kvs, rfl, s, rfl, rs⟩ := look_dct w2 l r1
    split at p2
    · rename_i k ek
      split at p2
      · rename_i z ez
        obtain ⟨w, ew, rw'⟩ := find_val k rs ez
        exact .inr (.inl ⟨a, w, rfl, .inl ⟨kvs, k, s, key_rel ek r2, ew.symm⟩, now p2 w2 rw'⟩)
      · exact p2.elim
    · exact p2.elim
  · rename_i ks vs l
    obtain ⟨a, kvs, rfl, s, rfl, rs⟩ := look_dcu w2 l r1
    split at p2
    · rename_i ds
      split at p2
      · rename_i k ek
        split at p2
        · rename_i z ez
          obtain ⟨w, ew, rw'⟩ := find_val k rs ez
          unfold RelD at r2
          obtain ⟨b, us, rfl, sb, ru⟩ := r2
          have eu := keysU_rel ek ru
          subst eu
          exact .inr (.inr ⟨a, b, kvs, k, w, rfl, rfl, s, sb, ew, now p2 w2 rw'⟩)
        · exact p2.elim
      · exact p2.elim
    · exact p2.elim
  · exact p2.elim
/-! slices -/
def cutD (xs : List D) (lo hi : Option Int) : List D := (xs.drop (HT.sIx xs.length 0 lo)).take (HT.sIx xs.length xs.length hi - HT.sIx xs.length 0 lo)
def slD (m : Bool) (x : D) (lo hi : Option Int) (h : Hs) : R D :=
  match look h x with
  | .lst xs => mkL m (cutD xs lo hi) h
  | .tup xs => mkT (cutD xs lo hi) h
  | _ => .bad
theorem RelDs.drop {K : PySem.W.Frag} {H : Hp} {ρ : List Addr} : ∀ {xs : List D} {vs : List V} (n : Nat), RelDs K T H ρ xs vs → RelDs K T H ρ (xs.drop n) (vs.drop n)
  | xs, vs, 0, r => r
  | [], vs, n + 1, r => by unfold RelDs at r; subst r; show RelDs K T H ρ [] []; unfold RelDs; rfl
  | x :: xs, vs, n + 1, r => by
    unfold RelDs at r
    obtain ⟨v, w, rfl, _, r2⟩ := r
    exact RelDs.drop n r2
theorem RelDs.take {K : PySem.W.Frag} {H : Hp} {ρ : List Addr} : ∀ {xs : List D} {vs : List V} (n : Nat), RelDs K T H ρ xs vs → RelDs K T H ρ (xs.take n) (vs.take n)
  | xs, vs, 0, r => by rw [List.take_zero, List.take_zero]; unfold RelDs; rfl
  | [], vs, n + 1, r => by unfold RelDs at r; subst r; show RelDs K T H ρ [] []; unfold RelDs; rfl
  | x :: xs, vs, n + 1, r => by
    unfold RelDs at r
    obtain ⟨v, w, rfl, r1, r2⟩ := r
    rw [List.take_succ_cons, List.take_succ_cons]
    unfold RelDs
    exact ⟨v, _, rfl, r1, RelDs.take n r2⟩
theorem RelDs.cut {K : PySem.W.Frag} {H : Hp} {ρ : List Addr} {xs : List D} {vs : List V} (lo hi : Option Int) (r : RelDs K T H ρ xs vs) : RelDs K T H ρ (cutD xs lo hi) (cutV vs lo hi) := by
  unfold cutD cutV
  rw [← r.len]
  exact (r.drop _).take _
abbrev Mo := Env → Hs → R (Option Int)
def RelO1 (_ : Hp) (_ : List Addr) (a b : Option Int) : Prop := a = b
def mNo : Mo := fun _ h => .ok none h
def mYes (m : M) : Mo := fun env h => (m env h).bind fun d h1 => match d with
  | .int i => .ok (some i) h1
  | _ => .bad
theorem PO.imp {e : Option Expr} {t t' : TO} (h : PO X e t) (i : ∀ σ H Q, t' σ H Q → t σ H Q) : PO X e t' := by
  constructor
  intro pins s σ H Q I q
  exact h.run pins s σ H Q I (i σ H Q q)
theorem den_no : PO X none (tG X.K T W RelO1 mNo) := PO.imp po_none fun σ H Q ⟨ρ, env, h, hw, _, p⟩ => now p hw rfl
theorem den_yes {e : Expr} {m : M} (h : PE X e (tI X.K T W m)) : PO X (some e) (tG X.K T W RelO1 (mYes m)) := by
  refine PO.imp (po_some h) fun σ H Q ⟨ρ, env, h, hw, he, p⟩ => ?_
  refine bindI hw he p fun H1 ρ1 d h1 v x1 w1 e1 r1 p1 => ?_
  split at p1
  · rename_i i
    exact ⟨i, relInt r1, now p1 w1 rfl⟩
  · exact p1.elim
def mSl (m : Bool) (ma : M) (ml mh : Mo) : M := fun env h => (ma env h).bind fun x h1 => (ml env h1).bind fun lo h2 => (mh env h2).bind fun hi h3 => slD m x lo hi h3
theorem den_sl {m : Bool} {a : Expr} {lo hi : Option Expr} {pos p2 : Pos} {ma : M} {ml mh : Mo} (ha : PE X a (tI X.K T W ma)) (hl : PO X lo (tG X.K T W RelO1 ml)) (hh : PO X hi (tG X.K T W RelO1 mh)) :
    PE X (.Subscript a (.Slice lo hi none p2) pos) (tI X.K T W (mSl m ma ml mh)) := by
  refine PE.imp (pe_slice (sl_list.or sl_tupA) ha hl hh) fun σ H Q ⟨ρ, env, h, hw, he, p⟩ => ?_
  refine bindI hw he p fun H1 ρ1 d h1 v x1 w1 e1 r1 p1 => ?_
  refine bindI w1 e1 p1 fun H2 ρ2 l h2 lv x2 w2 e2 r2 p2 => ?_
  refine bindI w2 e2 p2 fun H3 ρ3 u h3 uv x3 w3 e3 r3 p3 => ?_
  have e2' : l = lv := r2
  have e3' : u = uv := r3
  subst e2' e3'
  have r1 := (r1.mono x2).mono x3
  unfold slD at p3
  split at p3
  · rename_i xs lk
    obtain ⟨a, vs, rfl, s, rs⟩ := look_lst w3 lk r1
    have q := put_lst (X := X) w3 (rs.cut l u) p3
    exact .inl ⟨a, vs, rfl, .of s, q.2⟩
  · rename_i xs lk
    obtain ⟨a, vs, rfl, s, rs⟩ := look_tup lk r1
    have q := put_tup (X := X) w3 (rs.cut l u) p3
    have small : (cutD xs l u).length ≤ most := by
      unfold mkT at p3
      split at p3
      · assumption
      · exact p3.elim
    refine .inr ⟨a, vs, rfl, s, fun hh => ?_, fun _ => q.2⟩
    unfold mkT at p3
    rw [if_pos small] at p3
    have e : cutD xs l u = xs := by
      unfold cutD
      rw [rs.len, hh.1, hh.2, List.drop_zero, Nat.sub_zero, ← rs.len, List.take_length]
    rw [e] at p3
    exact now p3 w3 (by unfold RelD; exact ⟨a, vs, rfl, s, rs⟩)
  · exact p3.elim
end
end Iv

set_option maxRecDepth 100000
namespace Iv
open PySem PySem.Spec PyProof.Rows PySem.W
section
variable {prog : Program} {w : World} {A : Around} {E : Value → Shared → Prop} {s : Shared}
theorem collect_tuple {l : Addr} {vs : List Value} {Q : List Value → Shared → Prop} (hl : IsTup s.heap l vs.toArray)
    (h : Q vs { s with heap := (s.heap.push (seqObj "list" #[] 0)).update s.heap.objs.size (Obj.mapSeq (· ++ vs.toArray)) }) (hsz : vs.length ≤ sizeLine) :
    wpAny (model prog w) A (collect (.ref l)) Q E s := by
  obtain ⟨o, ho, hc, n, hd⟩ := id hl
  unfold collect
  refine wpAny_bind (wpAny_runValue (codeAny_builtin entry_proto_collect' ?_))
  show wpAny _ _ (do again (.builtin "list.__iadd__" ⟨[← newList [], .ref l], []⟩)) _ _ s
  refine wpAny_bind (wpAny_newList (wpAny_pure ⟨Code.quiet_builtin _ (by decide +kernel), codeAny_builtin entry_list_iadd' ?_⟩))
  show wpAny _ _ (Builtin.List.listExtendWith (.ref s.heap.objs.size) (.ref l) (.ref s.heap.objs.size)) _ _ { s with heap := s.heap.push (seqObj "list" #[] 0) }
  unfold Builtin.List.listExtendWith
  have ho' : (s.heap.push (seqObj "list" #[] 0)).get? l = some o := Heap.get?_push_of_some _ ho
  refine wpAny_bind (wpAny_typeOf (T := "tuple") ⟨o, ho', hc⟩ ?_)
  have ht : (Value.type "tuple" == Value.type "tuple") = true := by rfl
  rw [if_pos (by rw [ht]; simp)]
  refine wpAny_bind (listItems_at ho' hd ?_)
  refine wpAny_bind (listItems_at (xs := #[]) (n := 0) (Heap.get?_push_size _ rfl) rfl ?_)
  rw [if_neg (by simp)]
  refine wpAny_bind (listUpdate_at (xs := #[]) (n := 0) (Heap.get?_push_size _ rfl) rfl ?_ (Nat.zero_le _) (by show (#[] ++ vs.toArray).size ≤ sizeLine + 1; simp only [Array.size_append, List.size_toArray, List.length_nil]; omega))
  refine wpAny_pure ?_
  show wpAny (model prog w) A (do
      let o ← load s.heap.objs.size
      match o.data with
      | .seq xs _ => pure xs.toList
      | _ => unsupported "internal:collect") Q E { s with heap := (s.heap.push (seqObj "list" #[] 0)).update s.heap.objs.size (Obj.mapSeq (· ++ vs.toArray)) }
  refine wpAny_bind (wpAny_load (get?_update_seq (Heap.get?_push_size _ rfl) _) ?_)
  show wpAny _ _ (pure ((#[] : Array Value) ++ vs.toArray).toList) Q E _
  rw [show ((#[] : Array Value) ++ vs.toArray).toList = vs by simp]
  exact wpAny_pure h
theorem sorted_of_sortT {l : Addr} {vs : List Value} {kw : List (Str × Value)} {Q : Value → Shared → Prop} (hl : IsTup s.heap l vs.toArray) (hL : vs.length ≤ sizeLine) (ha1 : argsOk "sorted" ⟨[.ref l], kw⟩) (ha2 : ∀ x, argsOk "list.sort" ⟨[.ref x], kw⟩)
    (body : ∀ E' : Value → Shared → Prop, wpAny (model prog w) A.in1.in1 (Builtin.«list.sort» ⟨[.ref (s.heap.objs.size + 1)], kw⟩) (fun f s' => f = .done (.ret .none) ∧ Q (.ref (s.heap.objs.size + 1)) s') E' { s with heap := copyHeap s.heap vs }) :
    wpAny (model prog w) A (call (.builtin "sorted") [.ref l] kw) Q E s := by
  refine call_function_entry_kw kind_sorted plain_sorted entry_sorted ha1 ?_
  unfold Builtin.«sorted»
  refine wpAny_bind (m := checkCount "sorted" 1 1 _) (wpAny_pure ?_)
  refine wpAny_bind (collect_tuple hl ?_ hL)
  refine wpAny_bind (wpAny_newList ?_ hL)
  have hsz : ((s.heap.push (seqObj "list" #[] 0)).update s.heap.objs.size (Obj.mapSeq (· ++ vs.toArray))).objs.size = s.heap.objs.size + 1 := by
    rw [Heap.size_update, size_push']
  show wpAny _ _ _ _ _ { s with heap := copyHeap s.heap vs }
  rw [hsz]
  refine wpAny_bind (wpAny_holding (wpAny_call_entry_kw slot_list_sort ⟨_, copyHeap_at s.heap vs, rfl⟩ entry_list_sort ?body (ha2 _)))
  case body =>
    show wpAny (model prog w) A.in1.in1 (Builtin.«list.sort» ⟨[.ref (s.heap.objs.size + 1)], kw⟩) _ _ _
    refine wpAny_mono (body _) (fun f s' hf => ?_) fun _ _ e => e
    obtain ⟨rfl, hq⟩ := hf
    exact ⟨_, rfl, wpAny_pure ⟨_, rfl, hq⟩⟩
theorem sorted_dataT {β : Type} {R : Value → β → Prop} {enc : β → PyData} {vs : List Value} {bs : List β} {l : Addr} {Q : Value → Shared → Prop} (hl : IsTup s.heap l vs.toArray) (e : EachIs R vs bs) (er : EachIs (fun v b => ∃ as, Reads s.heap v (enc b) as) vs bs) (hal : AllAlike (bs.map enc)) (hk : Sortable (bs.map enc)) (hL : bs.length ≤ sizeLine)
    (hu : ∀ b, b ∈ bs → A.units + 2 + (enc b).depth < cLine) (h : ∀ out, out.length = bs.length → EachIs R out (bs.mergeSort (dataLe false enc)) → Q (.ref (s.heap.objs.size + 1)) { s with heap := sortedAll s.heap vs (List.toArray out) }) :
    wpAny (model prog w) A (call (.builtin "sorted") [.ref l]) Q E s := by
  have er' : EachIs (fun v b => ∃ as, Reads (sortingHeap (copyHeap s.heap vs) (s.heap.objs.size + 1) vs) v (enc b) as) vs bs := er.mono fun _ _ ⟨as, r⟩ => ⟨as, PyProof.Rows.Reads.keeps (fun _ _ => sorting_copy_old) r⟩
  have hL' : vs.length ≤ sizeLine := by rw [e.length]; exact hL
  refine sorted_of_sortT hl hL' (args_sorted1 _) (fun _ => args_list_sort _) fun _ => list_sort_vals (s := { s with heap := copyHeap s.heap vs }) (copyHeap_at s.heap vs) (SortsAt.data (s := { s with heap := sortingHeap (copyHeap s.heap vs) (s.heap.objs.size + 1) vs }) (each_map (R := fun v d => ∃ as, Reads (sortingHeap (copyHeap s.heap vs) (s.heap.objs.size + 1) vs) v d as) enc er') hal hk (bound_map hu)) hL'
    ⟨rfl, h _ (by rw [sortVals_length false rfl]; exact e.length) (sortVals_data false e er' hal)⟩
end
/-! a sort that reckons by itself -/
def ins {α : Type} (le : α → α → Bool) (x : α) : List α → List α
  | [] => [x]
  | y :: ys => if le x y then x :: y :: ys else y :: ins le x ys
def isort {α : Type} (le : α → α → Bool) : List α → List α
  | [] => []
  | x :: xs => ins le x (isort le xs)
theorem mem_ins' {α : Type} {le : α → α → Bool} {x z : α} : ∀ {ys : List α}, z ∈ ins le x ys → z = x ∨ z ∈ ys
  | [], h => by unfold ins at h; simpa using h
  | y :: ys, h => by
    unfold ins at h
    split at h
    · simpa using h
    · rcases List.mem_cons.mp h with h | h
      · exact .inr (by simp [h])
      · exact (mem_ins' h).elim .inl fun h => .inr (List.mem_cons_of_mem _ h)
theorem pair_ins {α : Type} {le : α → α → Bool} (t : TotalLe le) (x : α) : ∀ {ys : List α}, ys.Pairwise (fun a b => le a b = true) → (ins le x ys).Pairwise (fun a b => le a b = true)
  | [], _ => by unfold ins; simp
  | y :: ys, h => by
    unfold ins
    have hh := List.pairwise_cons.mp h
    split
    · rename_i c
      refine List.pairwise_cons.mpr ⟨fun z hz => ?_, h⟩
      rcases List.mem_cons.mp hz with e | hz
      · rw [e]; exact c
      · exact t.trans _ _ _ c (hh.1 z hz)
    · rename_i c
      refine List.pairwise_cons.mpr ⟨fun z hz => ?_, pair_ins t x hh.2⟩
      rcases mem_ins' hz with e | hz
      · rw [e]
        exact (t.total x y).resolve_left c
      · exact hh.1 z hz
theorem filter_ins {α : Type} {le : α → α → Bool} (t : TotalLe le) (c x : α) : ∀ {ys : List α}, (ins le x ys).filter (sameRank le c) = (x :: ys).filter (sameRank le c)
  | [] => rfl
  | y :: ys => by
    unfold ins
    split
    · rfl
    · rename_i h
      rw [List.filter_cons, filter_ins t c x (ys := ys), List.filter_cons, List.filter_cons, List.filter_cons]
      cases hx : sameRank le c x with
      | false => rfl
      | true =>
        cases hy : sameRank le c y with
        | false => rfl
        | true =>
          exfalso
          unfold sameRank at hx hy
          rw [Bool.and_eq_true] at hx hy
          exact h (t.trans _ _ _ hx.2 hy.1)
theorem isort_eq {α : Type} {le : α → α → Bool} (t : TotalLe le) (xs : List α) : isort le xs = xs.mergeSort le := by
  refine sort_unique t ?_ fun c => ?_
  · induction xs with
    | nil => exact .nil
    | cons x xs ih => exact pair_ins t x ih
  · induction xs with
    | nil => rfl
    | cons x xs ih =>
      show (ins le x (isort le xs)).filter _ = _
      rw [filter_ins t c x, List.filter_cons, List.filter_cons, ih]
end Iv

set_option maxRecDepth 100000
namespace Iv
open PySem PySem.Spec PyProof.Rows L2
def kD : Key → D
  | .inl i => .int i
  | .inr x => .str x
def enc (d : D) : PyData := (toPy d).getD .none
def sortable (xs : List D) : Bool :=
  (xs.all fun d => match toPy d with | some (.tuple (_ :: _)) => true | _ => false) || xs.all fun d => match toPy d with | some (.int _) => true | some (.str _) => true | some (.bool _) => true | some (.list _) => true | _ => false
def alikes (xs : List D) : Bool := xs.all fun a => xs.all fun b => PySem.W.alike (enc a) (enc b)
def srt (m : Bool) (xs : List D) (h : Hs) : R D :=
  if (xs.all fun d => (toPy d).isSome) && sortable xs && alikes xs && xs.all (fun d => decide ((enc d).depth ≤ 60)) then mkL m (isort (PySem.W.dataLe false enc) xs) h else .bad
def intKeys (ks : List Key) : Bool := ks.all fun k => match k with | .inl _ => true | .inr _ => false
def intsD : List D → Option (List Int)
  | [] => some []
  | .int i :: r => (intsD r).map (i :: ·)
  | _ => none
def boolsD : List D → Option (List Bool)
  | [] => some []
  | .bl i :: r => (boolsD r).map (i :: ·)
  | _ => none
def minI : List Int → Int
  | [] => 0
  | [x] => x
  | x :: r => if x ≤ minI r then x else minI r
def maxI : List Int → Int
  | [] => 0
  | [x] => x
  | x :: r => if minI r ≤ x ∧ maxI r ≤ x then x else maxI r
def lenB (d : D) (h : Hs) : R D := match look h d with
  | .lst ys => .ok (.int ys.length) h
  | .tup ys => .ok (.int ys.length) h
  | .scr ys => .ok (.int ys.length) h
  | .dct ks _ => .ok (.int ks.length) h
  | .str x => if x.length ≤ most then .ok (.int x.length) h else .bad
  | _ => .bad
def absB (d : D) (h : Hs) : R D := match d with
  | .int i => .ok (.int (if i < 0 then -i else i)) h
  | _ => .bad
def intB (d : D) (h : Hs) : R D := match d with
  | .int i => .ok (.int i) h
  | .bl b => .ok (.int (if b then 1 else 0)) h
  | _ => .bad
def listB (m : Bool) (d : D) (h : Hs) : R D := match look h d with
  | .lst ys => mkL m ys h
  | .tup ys => mkL m ys h
  | .scr ys => mkL m ys h
  | _ => .bad
def tupleB (d : D) (h : Hs) : R D := match look h d with
  | .lst ys => mkT ys h
  | .tup ys => .ok (.tup ys) h
  | _ => .bad
def allB (d : D) (h : Hs) : R D := match look h d with
  | .lst ys => match boolsD ys with
    | some bs => .ok (.bl (bs.all id)) h
    | none => .bad
  | _ => .bad
def anyB (d : D) (h : Hs) : R D := match look h d with
  | .lst ys => match boolsD ys with
    | some bs => .ok (.bl (bs.any id)) h
    | none => .bad
  | _ => .bad
def sumB (d : D) (h : Hs) : R D := match look h d with
  | .lst ys => match intsD ys with
    | some is => .ok (.int is.sum) h
    | none => .bad
  | _ => .bad
def sortedB (m : Bool) (d : D) (h : Hs) : R D := match look h d with
  | .lst ys => srt m ys h
  | .tup ys => srt m ys h
  | _ => .bad
def b1 (f : D → Hs → R D) (xs : List D) (h : Hs) : R D := match xs with
  | [d] => f d h
  | _ => .bad
def ii2 (f : Int → Int → Int) (xs : List D) (h : Hs) : R D := match xs with
  | [.int i, .int j] => .ok (.int (f i j)) h
  | _ => .bad
def biF (m : Bool) (b : Bi) : List D → Hs → R D := match b with
  | .len => b1 lenB
  | .abs => b1 absB
  | .int => b1 intB
  | .list => b1 (listB m)
  | .tuple => b1 tupleB
  | .all => b1 allB
  | .any => b1 anyB
  | .sum => b1 sumB
  | .sorted => b1 (sortedB m)
  | .min2 => ii2 fun i j => if j < i then j else i
  | .max2 => ii2 fun i j => if j > i then j else i
  | _ => fun _ _ => .bad
def BiSound (X : Cx) (T : Tb) (f : List D → Hs → R D) (r : List V → Hp → VK → Prop) : Prop := ∀ (H : Hp) (ρ : List Addr) (h : Hs) (xs : List D) (vs : List V) (Q : VK) (Wx : Value → Option Addr → Hp → Prop),
  RelH X.K T H ρ h → RelDs X.K T H ρ xs vs → PostV X.K T (RelD X.K T) H ρ (f xs h) Q Wx → r vs H Q
section
variable {X : Cx} {T : Tb} {W : WX}
theorem one_arg' {f : D → Hs → R D} {r : List V → Hp → VK → Prop} (hs : ∀ (H : Hp) (ρ : List Addr) (h : Hs) (d : D) (v : V) (Q : VK) (Wx : Value → Option Addr → Hp → Prop), RelH X.K T H ρ h → RelD X.K T H ρ d v → PostV X.K T (RelD X.K T) H ρ (f d h) Q Wx → r [v] H Q) : BiSound X T (b1 f) r := fun H ρ h xs vs Q Wx hw r p => by
  unfold b1 at p
  split at p
  · unfold RelDs at r
    obtain ⟨v, w, rfl, r1, r2⟩ := r
    unfold RelDs at r2
    subst r2
    exact hs H ρ h _ v Q Wx hw r1 p
  · exact p.elim
theorem look_scr {K : PySem.W.Frag} {H : Hp} {ρ : List Addr} {h : Hs} : ∀ {d : D} {v : V} {xs : List D}, look h d = .scr xs → RelD K T H ρ d v → ∃ a vs, v = .ref a ∧ SqS K H a vs ∧ RelDs K T H ρ xs vs := by
  intro d v xs e r
  cases d with
  | scr ys => cases e; unfold RelD at r; exact r
  | ref n => unfold look at e; dsimp only at e; split at e <;> cases e
  | _ => cases e
theorem look_str {h : Hs} {d : D} {x : Str} (e : look h d = .str x) : d = .str x := by
  cases d with
  | str y => exact e
  | ref n => unfold look at e; dsimp only at e; split at e <;> cases e
  | _ => cases e
/-! len -/
def rLenA (K : PySem.W.Frag) : List V → Hp → VK → Prop := fun xs H Q => (∃ x n, xs = [x] ∧ LenV K x H n ∧ Q (.int n) H) ∨ ∃ a kvs, xs = [V.ref a] ∧ Rd H a (.dK kvs) ∧ Q (.int kvs.length) H
theorem call_lenA : CallR X (.builtin "len") (rLenA X.K) := call_len.or fun pins s σ H xs us Q I r h => by
  obtain ⟨a, kvs, rfl, ha, q⟩ := h
  obtain ⟨u, rfl, ru⟩ := vals1 r
  cases ru
  exact d_len I ha fun t s' I' => ⟨.int kvs.length, H, I', ⟨t, rfl⟩, q⟩
theorem snd_len : BiSound X T (b1 lenB) (rLenA X.K) := one_arg' fun H ρ h d v Q Wx hw r p => by
  unfold lenB at p
  split at p
  · rename_i ys l
    obtain ⟨a, vs, rfl, s, rs⟩ := look_lst hw l r
    exact .inl ⟨_, vs.length, rfl, .inl ⟨vs, .of s, rfl⟩, by rw [← rs.len]; exact now p hw (by unfold RelD; rfl)⟩
  · rename_i ys l
    obtain ⟨a, vs, rfl, s, rs⟩ := look_tup l r
    exact .inl ⟨_, vs.length, rfl, .inr ⟨vs, s, rfl⟩, by rw [← rs.len]; exact now p hw (by unfold RelD; rfl)⟩
  · rename_i ys l
    obtain ⟨a, vs, rfl, s, rs⟩ := look_scr l r
    exact .inl ⟨_, vs.length, rfl, .inl ⟨vs, s.l, rfl⟩, by rw [← rs.len]; exact now p hw (by unfold RelD; rfl)⟩
  · rename_i ks ys l
    obtain ⟨a, kvs, rfl, s, rfl, rs⟩ := look_dct hw l r
    refine .inr ⟨a, kvs, rfl, s, ?_⟩
    rw [List.length_map] at p
    exact now p hw (by unfold RelD; rfl)
  · rename_i x l
    rw [look_str l] at r
    split at p
    · rename_i c
      exact .inl ⟨_, x.length, rfl, by rw [relStr r]; exact ⟨Nat.le_trans c most_line, rfl⟩, now p hw (by unfold RelD; rfl)⟩
    · exact p.elim
  · exact p.elim
theorem snd_abs : BiSound X T (b1 absB) (fun xs H Q => ∃ i, xs = [.int i] ∧ Q (.int (if i < 0 then -i else i)) H) := one_arg' fun H ρ h d v Q Wx hw r p => by
  unfold absB at p
  split at p
  · rename_i i
    rw [relInt r]
    exact ⟨i, rfl, now p hw (by unfold RelD; rfl)⟩
  · exact p.elim
theorem snd_int : BiSound X T (b1 intB) (fun xs H Q => (∃ i, xs = [.int i] ∧ Q (.int i) H) ∨ ∃ k, xs = [.bl k] ∧ Q (.int (if k then 1 else 0)) H) := one_arg' fun H ρ h d v Q Wx hw r p => by
  unfold intB at p
  split at p
  · rename_i i
    rw [relInt r]
    exact .inl ⟨i, rfl, now p hw (by unfold RelD; rfl)⟩
  · rename_i i
    rw [relBl r]
    exact .inr ⟨i, rfl, now p hw (by unfold RelD; rfl)⟩
  · exact p.elim
theorem snd_list {m : Bool} : BiSound X T (b1 (listB m)) (fun xs H Q => ∃ p ys, xs = [.ref p] ∧ (SqL X.K H p ys ∨ SqT X.K H p ys) ∧ ∀ l, H l = none → Q (.ref l) (upd H l (.lst ys))) := one_arg' fun H ρ h d v Q Wx hw r p => by
  unfold listB at p
  split at p
  · rename_i ys l
    obtain ⟨a, vs, rfl, s, rs⟩ := look_lst hw l r
    exact ⟨a, vs, rfl, .inl (.of s), (put_lst (X := X) hw rs p).2⟩
  · rename_i ys l
    obtain ⟨a, vs, rfl, s, rs⟩ := look_tup l r
    exact ⟨a, vs, rfl, .inr s, (put_lst (X := X) hw rs p).2⟩
  · rename_i ys l
    obtain ⟨a, vs, rfl, s, rs⟩ := look_scr l r
    exact ⟨a, vs, rfl, .inl s.l, (put_lst (X := X) hw rs p).2⟩
  · exact p.elim
theorem snd_tuple : BiSound X T (b1 tupleB) (fun xs H Q => ∃ p ys, xs = [.ref p] ∧ ((SqL X.K H p ys ∧ ∀ l, H l = none → Q (.ref l) (upd H l (.tup ys))) ∨ (SqT X.K H p ys ∧ Q (.ref p) H))) := one_arg' fun H ρ h d v Q Wx hw r p => by
  unfold tupleB at p
  split at p
  · rename_i ys l
    obtain ⟨a, vs, rfl, s, rs⟩ := look_lst hw l r
    exact ⟨a, vs, rfl, .inl ⟨.of s, (put_tup (X := X) hw rs p).2⟩⟩
  · rename_i ys l
    obtain ⟨a, vs, rfl, s, rs⟩ := look_tup l r
    exact ⟨a, vs, rfl, .inr ⟨s, now p hw (by unfold RelD; exact ⟨a, vs, rfl, s, rs⟩)⟩⟩
  · exact p.elim
theorem bools_rel {K : PySem.W.Frag} {H : Hp} {ρ : List Addr} : ∀ {ys : List D} {bs : List Bool} {vs : List V}, boolsD ys = some bs → RelDs K T H ρ ys vs → vs = bs.map V.bl
  | [], bs, vs, e, r => by unfold boolsD at e; cases e; unfold RelDs at r; exact r
  | y :: ys, bs, vs, e, r => by
    unfold boolsD at e
    split at e
    · rename_i h; cases h
    · rename_i b r' h
      cases h
      obtain ⟨bs', e', rfl⟩ := Option.map_eq_some_iff.mp e
      unfold RelDs at r
      obtain ⟨v, w, rfl, r1, r2⟩ := r
      rw [relBl r1, bools_rel e' r2]
      rfl
    · cases e
theorem ints_rel {K : PySem.W.Frag} {H : Hp} {ρ : List Addr} : ∀ {ys : List D} {bs : List Int} {vs : List V}, intsD ys = some bs → RelDs K T H ρ ys vs → vs = bs.map V.int
  | [], bs, vs, e, r => by unfold intsD at e; cases e; unfold RelDs at r; exact r
  | y :: ys, bs, vs, e, r => by
    unfold intsD at e
    split at e
    · rename_i h; cases h
    · rename_i b r' h
      cases h
      obtain ⟨bs', e', rfl⟩ := Option.map_eq_some_iff.mp e
      unfold RelDs at r
      obtain ⟨v, w, rfl, r1, r2⟩ := r
      rw [relInt r1, ints_rel e' r2]
      rfl
    · cases e
theorem snd_all : BiSound X T (b1 allB) (rAll X.K) := one_arg' fun H ρ h d v Q Wx hw r p => by
  unfold allB at p
  split at p
  · rename_i ys l
    split at p
    · rename_i bs e
      obtain ⟨a, vs, rfl, s, rs⟩ := look_lst hw l r
      have := bools_rel e rs
      subst this
      exact ⟨a, bs, rfl, .of s, now p hw (by unfold RelD; rfl)⟩
    · exact p.elim
  · exact p.elim
theorem snd_any : BiSound X T (b1 anyB) (rAny X.K) := one_arg' fun H ρ h d v Q Wx hw r p => by
  unfold anyB at p
  split at p
  · rename_i ys l
    split at p
    · rename_i bs e
      obtain ⟨a, vs, rfl, s, rs⟩ := look_lst hw l r
      have := bools_rel e rs
      subst this
      exact ⟨a, bs, rfl, .of s, now p hw (by unfold RelD; rfl)⟩
    · exact p.elim
  · exact p.elim
theorem snd_sum : BiSound X T (b1 sumB) (rSum X.K) := one_arg' fun H ρ h d v Q Wx hw r p => by
  unfold sumB at p
  split at p
  · rename_i ys l
    split at p
    · rename_i bs e
      obtain ⟨a, vs, rfl, s, rs⟩ := look_lst hw l r
      have := ints_rel e rs
      subst this
      exact ⟨a, bs, rfl, .of s, now p hw (by unfold RelD; rfl)⟩
    · exact p.elim
  · exact p.elim
theorem two_arg {f : Int → Int → Int} {r : List V → Hp → VK → Prop} (hs : ∀ (H : Hp) (i j : Int) (Q : VK), Q (.int (f i j)) H → r [.int i, .int j] H Q) : BiSound X T (ii2 f) r := fun H ρ h xs vs Q Wx hw r p => by
  unfold ii2 at p
  split at p
  · unfold RelDs at r
    obtain ⟨v, w, rfl, r1, r2⟩ := r
    unfold RelDs at r2
    obtain ⟨v2, w2, rfl, r2, r3⟩ := r2
    unfold RelDs at r3
    subst r3
    rw [relInt r1, relInt r2]
    exact hs H _ _ Q (now p hw (by unfold RelD; rfl))
  · exact p.elim
/-! sorted -/
def rSortA (K : PySem.W.Frag) : List V → Hp → VK → Prop := fun vs H Q => ∃ (a : Addr) (bs : List (V × PyData)), vs = [V.ref a] ∧ (SqL K H a (bs.map (·.1)) ∨ SqT K H a (bs.map (·.1))) ∧ (∀ b ∈ bs, Dp K H b.1 b.2) ∧ PySem.W.AllAlike (bs.map (·.2)) ∧ PySem.W.Sortable (bs.map (·.2)) ∧
  (∀ b ∈ bs, b.2.depth ≤ 60) ∧ ∀ p, H p = none → Q (.ref p) (upd H p (.lst ((bs.mergeSort (PySem.W.dataLe false (·.2))).map (·.1))))
theorem each_of {R : Value → V × PyData → Prop} : ∀ {bs : List (V × PyData)} {us : List Value}, Vals (bs.map (·.1)) us → (∀ b ∈ bs, ∀ u, RelV b.1 u → R u b) → PySem.W.EachIs R us bs
  | [], us, r, _ => by cases r; exact .nil
  | b :: bs, us, r, h => by
    cases r with
    | cons r1 r2 => exact .cons (h b List.mem_cons_self _ r1) (each_of r2 fun b' hb => h b' (List.mem_cons_of_mem _ hb))
theorem vals_each : ∀ {bs : List (V × PyData)} {us : List Value}, PySem.W.EachIs (fun u b => RelV b.1 u) us bs → Vals (bs.map (·.1)) us
  | _, _, .nil => .nil
  | _, _, .cons h t => .cons h (vals_each t)
theorem cr_sortA (hu : X.A.units + 65 < cLine) : CallR X (.builtin "sorted") (rSortA X.K) := by
  intro pins s σ H vs us Q I r h
  obtain ⟨a, bs, rfl, hs, hd, hal, hk, hdp, q⟩ := h
  obtain ⟨u, rfl, ru⟩ := vals1 r
  cases ru
  have fin : ∀ its : List Value, Vals (bs.map (·.1)) its → bs.length ≤ sizeLine → ∀ out : List Value, out.length = bs.length → PySem.W.EachIs (fun u b => RelV b.1 u) out (bs.mergeSort (PySem.W.dataLe false (·.2))) →
      EP X pins σ Q (.ref (s.heap.objs.size + 1)) { s with heap := sortedAll s.heap its out.toArray } := fun its rv hz out hl he => by
    obtain ⟨c, hc⟩ := sortedAll_at s.heap its out.toArray
    refine ⟨.ref _, upd H (s.heap.objs.size + 1) (.lst ((bs.mergeSort (PySem.W.dataLe false (·.2))).map (·.1))), I.laid (t' := s.toks) (fun _ _ => sortedAll_old) (Nat.le_succ _) ⟨?_, out, c, vals_each he, hc⟩, rfl, q _ (I.hok.fresh (Nat.le_succ _))⟩
    rw [List.length_map, List.length_mergeSort]
    exact hz
  have hu' : ∀ b, b ∈ bs → X.A.units + 2 + b.2.depth < cLine := fun b hb => by
    have := hdp b hb
    omega
  rcases hs with hs | hs
  · obtain ⟨its, rv, pl, hz⟩ := I.list hs
    rw [List.length_map] at hz
    have e1 : PySem.W.EachIs (fun u b => RelV b.1 u) its bs := each_of rv fun b _ u r => r
    have e2 : PySem.W.EachIs (fun (v : Value) (b : V × PyData) => ∃ as, Reads s.heap v b.2 as) its bs := each_of rv fun b hb u r => Dp.reads I b.2 b.1 u (hd b hb) r
    exact PySem.W.sorted_data (enc := fun b : V × PyData => b.2) pl.isList e1 e2 hal hk hz hu' fun out hl he => fin its rv hz out hl he
  · obtain ⟨its, rv, pl, hz⟩ := I.tuple hs
    rw [List.length_map] at hz
    have e1 : PySem.W.EachIs (fun u b => RelV b.1 u) its bs := each_of rv fun b _ u r => r
    have e2 : PySem.W.EachIs (fun (v : Value) (b : V × PyData) => ∃ as, Reads s.heap v b.2 as) its bs := each_of rv fun b hb u r => Dp.reads I b.2 b.1 u (hd b hb) r
    exact sorted_dataT (enc := fun b : V × PyData => b.2) pl e1 e2 hal hk hz hu' fun out hl he => fin its rv hz out hl he
end
end Iv

set_option maxRecDepth 100000
namespace Iv
open PySem PySem.Spec PyProof.Rows L2
section
variable {X : Cx} {T : Tb} {W : WX}
theorem rel_zip {K : PySem.W.Frag} {H : Hp} {ρ : List Addr} : ∀ {ds : List D} {vs : List V}, RelDs K T H ρ ds vs → ∃ ts : List (D × V), ts.map (·.1) = ds ∧ ts.map (·.2) = vs ∧ ∀ t ∈ ts, RelD K T H ρ t.1 t.2
  | [], vs, r => by unfold RelDs at r; subst r; exact ⟨[], rfl, rfl, fun t h => nomatch h⟩
  | d :: ds, vs, r => by
    unfold RelDs at r
    obtain ⟨v, w, rfl, r1, r2⟩ := r
    obtain ⟨ts, e1, e2, h⟩ := rel_zip r2
    refine ⟨(d, v) :: ts, by rw [List.map_cons, e1], by rw [List.map_cons, e2], fun t ht => ?_⟩
    rcases List.mem_cons.mp ht with e | ht
    · rw [e]; exact r1
    · exact h t ht
theorem zip_rel {K : PySem.W.Frag} {H : Hp} {ρ : List Addr} : ∀ {ts : List (D × V)}, (∀ t ∈ ts, RelD K T H ρ t.1 t.2) → RelDs K T H ρ (ts.map (·.1)) (ts.map (·.2))
  | [], _ => by show RelDs K T H ρ [] []; unfold RelDs; rfl
  | t :: ts, h => by
    show RelDs K T H ρ (t.1 :: ts.map (·.1)) (t.2 :: ts.map (·.2))
    unfold RelDs
    exact ⟨_, _, rfl, h t List.mem_cons_self, zip_rel fun t' ht => h t' (List.mem_cons_of_mem _ ht)⟩
theorem le_total {α : Type} (k : α → PyData) : PySem.W.TotalLe (PySem.W.dataLe false k) := PySem.W.sortLe_total _ _ _
theorem snd_srt {m : Bool} {H : Hp} {ρ : List Addr} {h : Hs} {ys : List D} {vs : List V} {Q : VK} {Wx : Value → Option Addr → Hp → Prop} (hw : RelH X.K T H ρ h) (rs : RelDs X.K T H ρ ys vs) (p : PostV X.K T (RelD X.K T) H ρ (srt m ys h) Q Wx) :
    ∃ bs : List (V × PyData), bs.map (·.1) = vs ∧ (∀ b ∈ bs, Dp X.K H b.1 b.2) ∧ PySem.W.AllAlike (bs.map (·.2)) ∧ PySem.W.Sortable (bs.map (·.2)) ∧ (∀ b ∈ bs, b.2.depth ≤ 60) ∧
      ∀ q, H q = none → Q (.ref q) (upd H q (.lst ((bs.mergeSort (PySem.W.dataLe false (·.2))).map (·.1)))) := by
  unfold srt at p
  split at p
  · rename_i c
    simp only [Bool.and_eq_true] at c
    obtain ⟨⟨⟨c1, c2⟩, c3⟩, c4⟩ := c
    obtain ⟨ts, e1, e2, ht⟩ := rel_zip rs
    subst e1 e2
    have some_ : ∀ t ∈ ts, toPy t.1 = some (enc t.1) := fun t h => by
      have := List.all_eq_true.mp c1 t.1 (List.mem_map.mpr ⟨t, h, rfl⟩)
      unfold enc
      cases e : toPy t.1 with
      | none => rw [e] at this; cases this
      | some p => rfl
    refine ⟨ts.map fun t => (t.2, enc t.1), by rw [List.map_map]; rfl, fun b hb => ?_, ?_, ?_, fun b hb => ?_, ?_⟩
    · obtain ⟨t, h, rfl⟩ := List.mem_map.mp hb
      exact dp_of (some_ t h) (ht t h)
    · intro d hd d' hd'
      rw [List.map_map] at hd hd'
      obtain ⟨t, h, rfl⟩ := List.mem_map.mp hd
      obtain ⟨t', h', rfl⟩ := List.mem_map.mp hd'
      exact List.all_eq_true.mp (List.all_eq_true.mp c3 t.1 (List.mem_map.mpr ⟨t, h, rfl⟩)) t'.1 (List.mem_map.mpr ⟨t', h', rfl⟩)
    · unfold sortable at c2
      rw [Bool.or_eq_true] at c2
      rcases c2 with c2 | c2
      · left
        intro d hd
        rw [List.map_map] at hd
        obtain ⟨t, h, rfl⟩ := List.mem_map.mp hd
        have q := List.all_eq_true.mp c2 t.1 (List.mem_map.mpr ⟨t, h, rfl⟩)
        rw [some_ t h] at q
        show ∃ x r, enc t.1 = _
        split at q
        · rename_i a b e; exact ⟨a, b, Option.some.inj e⟩
        · cases q
      · right
        intro d hd
        rw [List.map_map] at hd
        obtain ⟨t, h, rfl⟩ := List.mem_map.mp hd
        have q := List.all_eq_true.mp c2 t.1 (List.mem_map.mpr ⟨t, h, rfl⟩)
        rw [some_ t h] at q
        show enc t.1 ≠ _ ∧ ∀ xs, enc t.1 ≠ _
        split at q
        · rename_i e; rw [Option.some.inj e]; exact ⟨fun z => (nomatch z), fun _ z => (nomatch z)⟩
        · rename_i e; rw [Option.some.inj e]; exact ⟨fun z => (nomatch z), fun _ z => (nomatch z)⟩
        · rename_i e; rw [Option.some.inj e]; exact ⟨fun z => (nomatch z), fun _ z => (nomatch z)⟩
        · rename_i e; rw [Option.some.inj e]; exact ⟨fun z => (nomatch z), fun _ z => (nomatch z)⟩
        · cases q
    · obtain ⟨t, h, rfl⟩ := List.mem_map.mp hb
      exact of_decide_eq_true (List.all_eq_true.mp c4 t.1 (List.mem_map.mpr ⟨t, h, rfl⟩))
    · have m1 : (ts.mergeSort fun a b => PySem.W.dataLe false enc a.1 b.1).map (·.1) = isort (PySem.W.dataLe false enc) (ts.map (·.1)) := by
        rw [isort_eq (le_total enc)]
        exact PySem.W.sort_maps (fun t : D × V => t.1) fun a _ b _ => rfl
      have m2 : (((ts.map fun t => (t.2, enc t.1)).mergeSort (PySem.W.dataLe false (·.2))).map (·.1)) = (ts.mergeSort fun a b => PySem.W.dataLe false enc a.1 b.1).map (·.2) := by
        rw [← PySem.W.sort_maps (r := fun a b => PySem.W.dataLe false enc a.1 b.1) (s := PySem.W.dataLe false fun b : V × PyData => b.2) (fun t : D × V => (t.2, enc t.1)) fun a _ b _ => rfl, List.map_map]
        rfl
      have rr : RelDs X.K T H ρ (isort (PySem.W.dataLe false enc) (ts.map (·.1))) (((ts.map fun t => (t.2, enc t.1)).mergeSort (PySem.W.dataLe false (·.2))).map (·.1)) := by
        rw [m2, ← m1]
        exact zip_rel fun t h => ht t (List.mem_mergeSort.mp h)
      exact (put_lst (X := X) hw rr p).2
  · exact p.elim
theorem snd_sorted {m : Bool} : BiSound X T (b1 (sortedB m)) (rSortA X.K) := one_arg' fun H ρ h d v Q Wx hw r p => by
  unfold sortedB at p
  split at p
  · rename_i ys l
    obtain ⟨a, vs, rfl, s, rs⟩ := look_lst hw l r
    obtain ⟨bs, e, h1, h2, h3, h4, h5⟩ := snd_srt hw rs p
    exact ⟨a, bs, rfl, .inl (by rw [e]; exact .of s), h1, h2, h3, h4, h5⟩
  · rename_i ys l
    obtain ⟨a, vs, rfl, s, rs⟩ := look_tup l r
    obtain ⟨bs, e, h1, h2, h3, h4, h5⟩ := snd_srt hw rs p
    exact ⟨a, bs, rfl, .inr (by rw [e]; exact s), h1, h2, h3, h4, h5⟩
  · exact p.elim
/-! the call of a built-in function -/
def biName : Bi → Str
  | .len => "len" | .abs => "abs" | .int => "int" | .list => "list" | .tuple => "tuple" | .all => "all" | .any => "any" | .sum => "sum" | .sorted => "sorted"
  | .min2 => "min" | .max2 => "max" | .maxL => "max" | .minL => "min" | .range1 => "range" | .range2 => "range"
def mBi (m : Bool) (b : Bi) (ms : Ms) : M := fun env h => (ms env h).bind (biF m b)
theorem den_callB {id : String} {f : List D → Hs → R D} {r : List V → Hp → VK → Prop} {x : Str} {e : Expr} {es : List Expr} {p pos : Pos} {ms : Ms} (hc : CallR X (.builtin id) r) (hs : BiSound X T f r) (hg : Gl X x) (hm : X.mg x = none) (hv : bootBuiltins x = some (.builtin id)) (ha : PA X (e :: es) (tIs X.K T W ms))
    (hn : x ≠ "__name__") (hdb : (x == ("__debug__" : Str)) = false) (he : starEach (e :: es) X.env = (false, eval e X.env) :: starEach es X.env) (hpl : (backTo pos (starEach es X.env)).any (·.1) = false) : PE X (.Call (.Name x p) (e :: es) [] pos) (tI X.K T W fun env h => (ms env h).bind f) := by
  refine PE.imp (pe_callB hc hg hm hv ha hn hdb he hpl) fun σ H Q ⟨ρ, env, h, hw, he, p⟩ => ?_
  exact bindI hw he p fun H1 ρ1 ds h1 vs x1 w1 e1 r1 p1 => hs H1 ρ1 h1 ds vs Q _ w1 r1 p1
theorem den_callTy {id : String} {f : List D → Hs → R D} {r : List V → Hp → VK → Prop} {x : Str} {e : Expr} {es : List Expr} {p pos : Pos} {ms : Ms} (hc : CallR X (.type id) r) (hs : BiSound X T f r) (hg : Gl X x) (hm : X.mg x = none) (hv : bootBuiltins x = some (.type id)) (ha : PA X (e :: es) (tIs X.K T W ms))
    (hn : x ≠ "__name__") (hdb : (x == ("__debug__" : Str)) = false) (he : starEach (e :: es) X.env = (false, eval e X.env) :: starEach es X.env) (hpl : (backTo pos (starEach es X.env)).any (·.1) = false) : PE X (.Call (.Name x p) (e :: es) [] pos) (tI X.K T W fun env h => (ms env h).bind f) := by
  refine PE.imp (pe_callTy hc hg hm hv ha hn hdb he hpl) fun σ H Q ⟨ρ, env, h, hw, he, p⟩ => ?_
  exact bindI hw he p fun H1 ρ1 ds h1 vs x1 w1 e1 r1 p1 => hs H1 ρ1 h1 ds vs Q _ w1 r1 p1
theorem bad_call {f : Value} {r : List V → Hp → VK → Prop} (h : ∀ xs H Q, ¬ r xs H Q) : CallR X f r := fun _ _ _ _ _ _ _ _ _ q => (h _ _ _ q).elim
theorem den_bi (hu : X.A.units + 65 < cLine) (hcalm : X.calm = true) {m : Bool} {b : Bi} {e : Expr} {es : List Expr} {p pos : Pos} {ms : Ms} (hg : Gl X (biName b)) (hm : X.mg (biName b) = none) (ha : PA X (e :: es) (tIs X.K T W ms))
    (he : starEach (e :: es) X.env = (false, eval e X.env) :: starEach es X.env) (hpl : (backTo pos (starEach es X.env)).any (·.1) = false) : PE X (.Call (.Name (biName b) p) (e :: es) [] pos) (tI X.K T W (mBi m b ms)) := by
  have none_ : ∀ f : List D → Hs → R D, (∀ xs h, f xs h = .bad) → BiSound X T f fun _ _ _ => False := fun f hf H ρ h xs vs Q Wx _ _ p => by rw [hf] at p; exact p
  cases b with
  | len => exact den_callB call_lenA snd_len hg hm boot_len ha (by decide) (by decide) he hpl
  | abs => exact den_callB call_abs snd_abs hg hm boot_abs ha (by decide) (by decide) he hpl
  | int => exact den_callTy call_int1 snd_int hg hm PyProof.Rows.boot_int ha (by decide) (by decide) he hpl
  | list => exact den_callTy call_list_of snd_list hg hm PyProof.Rows.boot_list ha (by decide) (by decide) he hpl
  | tuple => exact den_callTy call_tuple_of snd_tuple hg hm PyProof.Rows.boot_tuple ha (by decide) (by decide) he hpl
  | all => exact den_callB (cr_all hcalm) snd_all hg hm boot_all ha (by decide) (by decide) he hpl
  | any => exact den_callB (cr_any hcalm) snd_any hg hm boot_any ha (by decide) (by decide) he hpl
  | sum => exact den_callB (cr_sum hcalm) snd_sum hg hm boot_sum ha (by decide) (by decide) he hpl
  | sorted => exact den_callB (cr_sortA hu) snd_sorted hg hm boot_sorted ha (by decide) (by decide) he hpl
  | min2 => exact den_callB (call_min2 hcalm) (two_arg fun H i j Q q => ⟨i, j, rfl, q⟩) hg hm boot_min ha (by decide) (by decide) he hpl
  | max2 => exact den_callB (call_max2 hcalm) (two_arg fun H i j Q q => ⟨i, j, rfl, q⟩) hg hm boot_max ha (by decide) (by decide) he hpl
  | maxL => exact den_callB (bad_call (r := fun _ _ _ => False) fun _ _ _ h => h) (none_ _ fun _ _ => rfl) hg hm boot_max ha (by decide) (by decide) he hpl
  | minL => exact den_callB (bad_call (r := fun _ _ _ => False) fun _ _ _ h => h) (none_ _ fun _ _ => rfl) hg hm boot_min ha (by decide) (by decide) he hpl
  | range1 => exact den_callTy (bad_call (r := fun _ _ _ => False) fun _ _ _ h => h) (none_ _ fun _ _ => rfl) hg hm boot_range ha (by decide) (by decide) he hpl
  | range2 => exact den_callTy (bad_call (r := fun _ _ _ => False) fun _ _ _ h => h) (none_ _ fun _ _ => rfl) hg hm boot_range ha (by decide) (by decide) he hpl
end
end Iv

set_option maxRecDepth 100000
namespace Iv
open PySem PySem.Spec PyProof.Rows L2
abbrev Fm := List D → Hs → R D
/-- what a def promises, by its program -/
def spI (K : PySem.W.Frag) (T : Tb) (φ : Fm) (n : Nat) : Sp := fun vs H Q E => vs.length = n ∧ ∃ ρ ds h, RelH K T H ρ h ∧ RelDs K T H ρ ds vs ∧ PostV K T (RelD K T) H ρ (φ ds h) Q E
def pick {α : Type} (d : α) (perm : List Nat) (xs : List α) : List α := perm.map fun i => xs.getD i d
/-- how a call of n positional arguments and the keywords ks binds -/
def BindG (fd : FuncData) (ps : List Str) (n : Nat) (ks : List Str) (perm : List Nat) : Prop :=
  (∀ i ∈ perm, i < n + ks.length) ∧ ∀ us ws : List Value, us.length = n → ws.length = ks.length → bindArgs fd ⟨us, ks.zip ws⟩ = pure (ps.zip (pick .none perm (us ++ ws)))
theorem RelV.pick {perm : List Nat} {vs : List V} {us : List Value} (r : Vals vs us) (h : ∀ i ∈ perm, i < vs.length) : Vals (pick .non perm vs) (pick .none perm us) := by
  unfold Iv.pick
  induction perm with
  | nil => exact .nil
  | cons i p ih =>
    refine .cons ?_ (ih fun j hj => h j (List.mem_cons_of_mem _ hj))
    have hi := h i List.mem_cons_self
    obtain ⟨u, hu, ru⟩ := r.get (List.getElem?_eq_getElem hi)
    show RelV (vs.getD i .non) (us.getD i .none)
    rw [List.getD_eq_getElem?_getD, List.getD_eq_getElem?_getD, hu, List.getElem?_eq_getElem hi]
    exact ru
theorem RelDs.pick {K : PySem.W.Frag} {T : Tb} {H : Hp} {ρ : List Addr} {perm : List Nat} {ds : List D} {vs : List V} (r : RelDs K T H ρ ds vs) (h : ∀ i ∈ perm, i < vs.length) : RelDs K T H ρ (pick .non perm ds) (pick .non perm vs) := by
  unfold Iv.pick
  induction perm with
  | nil => show RelDs K T H ρ [] []; unfold RelDs; rfl
  | cons i p ih =>
    show RelDs K T H ρ (_ :: _) (_ :: _)
    unfold RelDs
    refine ⟨_, _, rfl, ?_, ih fun j hj => h j (List.mem_cons_of_mem _ hj)⟩
    have hi := h i List.mem_cons_self
    obtain ⟨v, hv, rv⟩ := RelDs.get (j := i) r (List.getElem?_eq_getElem (by rw [r.len]; exact hi))
    show RelD K T H ρ (ds.getD i .non) (vs.getD i .non)
    rw [List.getD_eq_getElem?_getD, List.getD_eq_getElem?_getD, hv, List.getElem?_eq_getElem (by rw [r.len]; exact hi)]
    exact rv
section
variable {X : Cx} {T : Tb} {W : WX}
theorem PK.imp {kws : List Keyword} {t t' : TA} (h : PK X kws t) (i : ∀ σ H Q, t' σ H Q → t σ H Q) : PK X kws t' := ⟨fun pos pins s σ H Q I q => h.run pos pins s σ H Q I (i σ H Q q)⟩
theorem denk_nil : PK X [] (tIs X.K T W mNil) := PK.imp pk_nil fun σ H Q ⟨ρ, env, h, hw, _, p⟩ => now p hw (by unfold RelDs; rfl)
theorem denk_cons {nm : Option Str} {e : Expr} {kpos : Pos} {kws : List Keyword} {m : M} {ms : Ms} (ha : PE X e (tI X.K T W m)) (hr : PK X kws (tIs X.K T W ms)) : PK X (⟨nm, e, kpos⟩ :: kws) (tIs X.K T W (mCons m ms)) := by
  refine PK.imp (pk_cons ha hr) fun σ H Q ⟨ρ, env, h, hw, he, p⟩ => ?_
  refine bindI hw he p fun H1 ρ1 d h1 v x1 w1 e1 r1 p1 => ?_
  refine bindI w1 e1 p1 fun H2 ρ2 ds h2 vs x2 w2 e2 r2 p2 => ?_
  exact now p2 w2 (by unfold RelDs; exact ⟨v, vs, rfl, r1.mono x2, r2⟩)
/-- the callee runs -/
theorem run_G {k n : Nat} {f : Addr} {fd : FuncData} {ps ks : List Str} {perm : List Nat} {sp : Sp} {E : XK} {pins : List (Addr × Obj)} {σ : Sg} {H : Hp} {s : Shared} {Q : VK} {us ws : List Value} {vs zs : List V} (F : FnOk X.prog X.w X.K X.mg X.base (L2.CX X.prog X.w) k f fd ps sp) (hr : Room k X.A)
    (hb : BindG fd ps n ks perm) (hx : PassesAt (L2.CX X.prog X.w) X σ E) (I : Inv X pins σ H s) (r : Vals vs us) (rz : Vals zs ws) (l1 : vs.length = n) (l2 : zs.length = ks.length) (h : sp (pick .non perm (vs ++ zs)) H Q E) :
    wpAny (model X.prog X.w) X.A (call (.ref f) us (ks.zip ws)) (EP X pins σ Q) X.xe s := by
  have r2 : Vals (pick .non perm (vs ++ zs)) (pick .none perm (us ++ ws)) := RelV.pick (r.append rz) fun i hi => by rw [List.length_append, l1, l2]; exact hb.1 i hi
  refine wpAny_call (codeAny_mono (F.run X.A X.stack s H ⟨us, ks.zip ws⟩ (pick .none perm (us ++ ws)) (pick .non perm (vs ++ zs)) Q E hr I.env0 (.of_eq (hb.2 us ws (r.length.symm.trans l1) (rz.length.symm.trans l2))) r2 h) fun r s' hq => ?_)
  cases r with
  | error e => exact hx pins H s e s' I hq
  | ok fl =>
    cases fl with
    | ret u => exact I.after hq
    | next => exact False.elim hq
    | brk => exact False.elim hq
    | cont => exact False.elim hq
def tCallG (n m : Nat) (perm : List Nat) (sp : Sp) (E : Sg → XK) (t tk : TA) : TE := fun σ H Q => t σ H fun vs H1 => tk σ H1 fun zs H2 => vs.length = n ∧ zs.length = m ∧ sp (pick .non perm (vs ++ zs)) H2 Q (E σ)
theorem pe_callG {k n : Nat} {f : Addr} {fd : FuncData} {ps ks : List Str} {perm : List Nat} {sp : Sp} {E : Sg → XK} {x : Str} {p pos : Pos} {e : Expr} {r : List Expr} {kws : List Keyword} {t tk : TA} (F : FnOk X.prog X.w X.K X.mg X.base (L2.CX X.prog X.w) k f fd ps sp) (hr : Room k X.A) (hg : Gl X x) (hm : X.mg x = some (.ref f)) (hk : PySem.W.keepIn X.K (.ref f) = true)
    (hb : BindG fd ps n ks perm) (hx : ∀ σ, PassesAt (L2.CX X.prog X.w) X σ (E σ)) (ha : PA X (e :: r) t) (hkw : PK X kws tk) (hall : (backToKw pos (keywordEach kws X.env)).all (·.1.isSome) = true) (hks : (backToKw pos (keywordEach kws X.env)).filterMap (·.1) = ks)
    (hdb : (x == ("__debug__" : Str)) = false) (he : starEach (e :: r) X.env = (false, eval e X.env) :: starEach r X.env)
    (hpl : ((backTo pos (starEach (e :: r) X.env)).any (·.1) || (backToKw pos (keywordEach kws X.env)).any (·.1.isNone)) = false) :
    PE X (.Call (.Name x p) (e :: r) kws pos) (tCallG n ks.length perm sp E t tk) := by
  refine ⟨fun pins s σ H Q I h => ?_⟩
  refine wpAny_Call_Name_kw (ld_glob I hg hm ?_ hdb)
  refine PySem.W.callWith_KW (h₀ := X.base) I.ok.mod.kin hk hall (thn (ha.run pos pins s σ H _ I h) fun us s1 ⟨vs, H1, I1, r, q⟩ => ?_) hpl he
  refine thn (hkw.run pos pins s1 σ H1 _ I1 q) fun ws s2 ⟨zs, H2, I2, rz, l1, l2, q2⟩ => ⟨I2.kIn, ?_⟩
  rw [hks]
  exact run_G F hr hb (hx σ) I2 r rz l1 l2 q2
theorem pe_callG0 {k : Nat} {f : Addr} {fd : FuncData} {ps ks : List Str} {perm : List Nat} {sp : Sp} {E : Sg → XK} {x : Str} {p pos : Pos} {kws : List Keyword} {tk : TA} (F : FnOk X.prog X.w X.K X.mg X.base (L2.CX X.prog X.w) k f fd ps sp) (hr : Room k X.A) (hg : Gl X x) (hm : X.mg x = some (.ref f)) (hk : PySem.W.keepIn X.K (.ref f) = true)
    (hb : BindG fd ps 0 ks perm) (hx : ∀ σ, PassesAt (L2.CX X.prog X.w) X σ (E σ)) (hkw : PK X kws tk) (hall : (backToKw pos (keywordEach kws X.env)).all (·.1.isSome) = true) (hks : (backToKw pos (keywordEach kws X.env)).filterMap (·.1) = ks)
    (hdb : (x == ("__debug__" : Str)) = false)
    (hpl : ((backTo pos (starEach [] X.env)).any (·.1) || (backToKw pos (keywordEach kws X.env)).any (·.1.isNone)) = false) :
    PE X (.Call (.Name x p) [] kws pos) (fun σ H Q => tk σ H fun zs H2 => zs.length = ks.length ∧ sp (pick .non perm zs) H2 Q (E σ)) := by
  refine ⟨fun pins s σ H Q I h => ?_⟩
  refine wpAny_Call_Name_kw (ld_glob I hg hm ?_ hdb)
  refine PySem.W.callWith_KW0 (h₀ := X.base) I.ok.mod.kin hk hall ?_ hpl
  refine thn (hkw.run pos pins s σ H _ I h) fun ws s2 ⟨zs, H2, I2, rz, l2, q2⟩ => ⟨I2.kIn, ?_⟩
  rw [hks]
  exact run_G (us := []) (vs := []) F hr hb (hx σ) I2 .nil rz rfl l2 q2
end
end Iv

set_option maxRecDepth 100000
namespace Iv
open PySem PySem.Spec PyProof.Rows L2
/-! what nobody reaches any more is forgotten -/
mutual
def ltD (n : Nat) : D → Bool
  | .tup xs => ltDs n xs
  | .lst xs => ltDs n xs
  | .scr xs => ltDs n xs
  | .dct _ vs => ltDs n vs
  | .dcu _ vs => ltDs n vs
  | .ref k => decide (k < n)
  | .non => true
  | .bl _ => true
  | .int _ => true
  | .str _ => true
  | .ty _ => true
  | .own _ => true
  | .exc _ => true
  | .fn _ => true
  | .clo _ => false
def ltDs (n : Nat) : List D → Bool
  | [] => true
  | x :: xs => ltD n x && ltDs n xs
end
def ltO (n : Nat) : Ob → Bool
  | .lst xs => ltDs n xs
  | .dic _ vs => ltDs n vs
  | .dit _ vs => ltDs n vs
  | .ins _ _ vs => ltDs n vs
def iceL (g : D → Option D) : List D → Option (List D)
  | [] => some []
  | x :: xs => match g x, iceL g xs with
    | some y, some ys => some (y :: ys)
    | _, _ => none
def ice (h : Hs) (n : Nat) : Nat → D → Option D
  | 0 => fun d => if ltD n d then some d else none
  | f + 1 => fun d => if ltD n d then some d else match d with
    | .tup xs => (iceL (ice h n f) xs).map .tup
    | .lst xs => (iceL (ice h n f) xs).map .lst
    | .scr xs => (iceL (ice h n f) xs).map .scr
    | .dct ks vs => (iceL (ice h n f) vs).map (.dct ks)
    | .dcu ks vs => (iceL (ice h n f) vs).map (.dcu ks)
    | .ref k => match h[k]? with
      | some (.lst xs) => (iceL (ice h n f) xs).map .lst
      | some (.dic ks vs) => (iceL (ice h n f) vs).map (.dct ks)
      | some (.dit ks vs) => (iceL (ice h n f) vs).map (.dcu ks)
      | _ => none
    | _ => none
/-- m: the result may be changed by who gets it -/
def gcR (m : Bool) (n : Nat) (r : R D) : R D :=
  match r with
  | .ok d h => if (h.take n).all (ltO n) then (if ltD n d then .ok d (h.take n) else if m then .ok d h else match ice h n 9 d with
      | some d' => .ok d' (h.take n)
      | none => .ok d h) else .ok d h
  | .ex c h => if (h.take n).all (ltO n) then .ex c (h.take n) else .ex c h
  | .bad => .bad
section
variable {K : PySem.W.Frag} {T : Tb} {H H' : Hp} {ρ r : List Addr} {h : Hs}
mutual
theorem RelD.trim {d : D} : ∀ {v : V}, ltD ρ.length d = true → RelD K T H (ρ ++ r) d v → RelD K T H ρ d v := by
  intro v hl q
  match d with
  | .non => unfold RelD at q ⊢; exact q
  | .bl b => unfold RelD at q ⊢; exact q
  | .int i => unfold RelD at q ⊢; exact q
  | .str y => unfold RelD at q ⊢; exact q
  | .tup ds =>
    unfold ltD at hl
    unfold RelD at q ⊢
    obtain ⟨a, vs, e, s, q⟩ := q
    exact ⟨a, vs, e, s, RelDs.trim hl q⟩
  | .lst ds =>
    unfold ltD at hl
    unfold RelD at q ⊢
    obtain ⟨a, vs, e, s, n, q⟩ := q
    exact ⟨a, vs, e, s, fun z => n (List.mem_append_left _ z), RelDs.trim hl q⟩
  | .scr ds =>
    unfold ltD at hl
    unfold RelD at q ⊢
    obtain ⟨a, vs, e, s, q⟩ := q
    exact ⟨a, vs, e, s, RelDs.trim hl q⟩
  | .dct ks ds =>
    unfold ltD at hl
    unfold RelD at q ⊢
    obtain ⟨a, vs, e, s, n, k, q⟩ := q
    exact ⟨a, vs, e, s, fun z => n (List.mem_append_left _ z), k, RelDs.trim hl q⟩
  | .dcu ks ds =>
    unfold ltD at hl
    unfold RelD at q ⊢
    obtain ⟨a, vs, e, s, n, k, q⟩ := q
    exact ⟨a, vs, e, s, fun z => n (List.mem_append_left _ z), k, RelDs.trim hl q⟩
  | .ref k =>
    unfold ltD at hl
    unfold RelD at q ⊢
    obtain ⟨a, e, q⟩ := q
    exact ⟨a, e, by rw [List.getElem?_append_left (of_decide_eq_true hl)] at q; exact q⟩
  | .ty n => unfold RelD at q ⊢; exact q
  | .own n => unfold RelD at q ⊢; exact q
  | .exc n => unfold RelD at q ⊢; exact q
  | .fn n => unfold RelD at q ⊢; exact q
  | .clo j => unfold ltD at hl; cases hl
theorem RelDs.trim {ds : List D} : ∀ {vs : List V}, ltDs ρ.length ds = true → RelDs K T H (ρ ++ r) ds vs → RelDs K T H ρ ds vs := by
  intro vs hl q
  match ds with
  | [] => unfold RelDs at q ⊢; exact q
  | d :: ds =>
    unfold ltDs at hl
    rw [Bool.and_eq_true] at hl
    unfold RelDs at q ⊢
    obtain ⟨v, s, e, q1, q2⟩ := q
    exact ⟨v, s, e, RelD.trim hl.1 q1, RelDs.trim hl.2 q2⟩
end
theorem RelOb.cut {a : Addr} {ob : Ob} (hl : ltO ρ.length ob = true) (q : RelOb K T H (ρ ++ r) a ob) : RelOb K T H ρ a ob := by
  cases ob with
  | lst ds => obtain ⟨vs, e, q⟩ := q; exact ⟨vs, e, RelDs.trim hl q⟩
  | dic ks ds => obtain ⟨kvs, e, z, q⟩ := q; exact ⟨kvs, e, z, RelDs.trim hl q⟩
  | dit ks ds => obtain ⟨kvs, e, z, q⟩ := q; exact ⟨kvs, e, z, RelDs.trim hl q⟩
  | ins c ns ds => obtain ⟨dx, fs, e, z, q⟩ := q; exact ⟨dx, fs, e, z, RelDs.trim hl q⟩
theorem RelH.cut (R : RelH K T H (ρ ++ r) h) (hl : (h.take ρ.length).all (ltO ρ.length) = true) : RelH K T H ρ (h.take ρ.length) := by
  have hz := R.len
  rw [List.length_append] at hz
  refine ⟨by rw [List.length_take]; omega, (List.nodup_append.mp R.nd).1, fun n ob a e1 e2 => ?_, R.tab⟩
  have hn : n < ρ.length := (List.getElem?_eq_some_iff.mp e2).1
  have e1' := e1
  rw [List.getElem?_take_of_lt hn] at e1
  have q := R.at_ n ob a e1 (by rw [List.getElem?_append_left hn]; exact e2)
  exact RelOb.cut (List.all_eq_true.mp hl ob (List.mem_of_getElem? e1')) q
theorem iceL_rel {g : D → Option D} (hg : ∀ d d' v, g d = some d' → RelD K T H (ρ ++ r) d v → RelD K T H ρ d' v) : ∀ {ds ds' : List D} {vs : List V}, iceL g ds = some ds' → RelDs K T H (ρ ++ r) ds vs → RelDs K T H ρ ds' vs := by
  intro ds
  induction ds with
  | nil => intro ds' vs hl q; cases hl; unfold RelDs at q ⊢; exact q
  | cons d ds ih =>
    intro ds' vs hl q
    unfold iceL at hl
    cases e1 : g d with
    | none => simp only [e1] at hl; cases hl
    | some y =>
      cases e2 : iceL g ds with
      | none => simp only [e1, e2] at hl; cases hl
      | some ys =>
        simp only [e1, e2] at hl
        cases hl
        unfold RelDs at q ⊢
        obtain ⟨v, s, e, q1, q2⟩ := q
        exact ⟨v, s, e, hg _ _ _ e1 q1, ih e2 q2⟩
theorem map_some {α β : Type} {o : Option α} {f : α → β} {y : β} (e : o.map f = some y) : ∃ x, o = some x ∧ f x = y := by
  cases o with
  | none => cases e
  | some x => cases e; exact ⟨x, rfl, rfl⟩
theorem RelD.ice (R : RelH K T H (ρ ++ r) h) : ∀ {f : Nat} {d d' : D} {v : V}, Iv.ice h ρ.length f d = some d' → RelD K T H (ρ ++ r) d v → RelD K T H ρ d' v := by
  intro f
  induction f with
  | zero =>
    intro d d' v hl q
    unfold Iv.ice at hl
    split at hl
    · rename_i hd; cases hl; exact q.trim hd
    · cases hl
  | succ f ih =>
    intro d d' v hl q
    unfold Iv.ice at hl
    split at hl
    · rename_i hd; cases hl; exact q.trim hd
    · rename_i hd
      have ihL : ∀ {ds ds' : List D} {vs : List V}, iceL (Iv.ice h ρ.length f) ds = some ds' → RelDs K T H (ρ ++ r) ds vs → RelDs K T H ρ ds' vs := fun e q => iceL_rel (fun d d' v e q => ih e q) e q
      split at hl
      · obtain ⟨ds', e, rfl⟩ := map_some hl
        unfold RelD at q ⊢
        obtain ⟨a, vs, e1, s, q⟩ := q
        exact ⟨a, vs, e1, s, ihL e q⟩
      · obtain ⟨ds', e, rfl⟩ := map_some hl
        unfold RelD at q ⊢
        obtain ⟨a, vs, e1, s, n, q⟩ := q
        exact ⟨a, vs, e1, s, fun z => n (List.mem_append_left _ z), ihL e q⟩
      · obtain ⟨ds', e, rfl⟩ := map_some hl
        unfold RelD at q ⊢
        obtain ⟨a, vs, e1, s, q⟩ := q
        exact ⟨a, vs, e1, s, ihL e q⟩
      · obtain ⟨ds', e, rfl⟩ := map_some hl
        unfold RelD at q ⊢
        obtain ⟨a, vs, e1, s, n, k, q⟩ := q
        exact ⟨a, vs, e1, s, fun z => n (List.mem_append_left _ z), k, ihL e q⟩
      · obtain ⟨ds', e, rfl⟩ := map_some hl
        unfold RelD at q ⊢
        obtain ⟨a, vs, e1, s, n, k, q⟩ := q
        exact ⟨a, vs, e1, s, fun z => n (List.mem_append_left _ z), k, ihL e q⟩
      · rename_i k
        have hk : ¬ k < ρ.length := fun z => hd (by unfold ltD; exact decide_eq_true z)
        unfold RelD at q
        obtain ⟨a, rfl, q⟩ := q
        have hkr : r[k - ρ.length]? = some a := by rw [List.getElem?_append_right (Nat.le_of_not_lt hk)] at q; exact q
        have na : a ∉ ρ := fun z => (List.nodup_append.mp R.nd).2.2 a z a (List.mem_of_getElem? hkr) rfl
        split at hl
        · rename_i xs eh
          obtain ⟨ds', e, rfl⟩ := map_some hl
          obtain ⟨vs, e2, q2⟩ := R.at_ k _ a eh q
          unfold RelD
          exact ⟨a, vs, rfl, e2, na, ihL e q2⟩
        · rename_i ks xs eh
          obtain ⟨ds', e, rfl⟩ := map_some hl
          obtain ⟨kvs, e2, z, q2⟩ := R.at_ k _ a eh q
          unfold RelD
          exact ⟨a, kvs, rfl, .inl e2, na, z, ihL e q2⟩
        · rename_i ks xs eh
          obtain ⟨ds', e, rfl⟩ := map_some hl
          obtain ⟨kvs, e2, z, q2⟩ := R.at_ k _ a eh q
          unfold RelD
          exact ⟨a, kvs, rfl, e2, na, z, ihL e q2⟩
        · cases hl
      · cases hl
theorem Ext.cut (x : Ext H ρ H' (ρ ++ r)) : Ext H ρ H' ρ := ⟨⟨[], by simp⟩, fun a u e f n => ⟨(x.stay a u e f n).1, n⟩, fun a u e n => ⟨(x.dict a u e n).1, n⟩, x.tup, x.obj, x.frz⟩
theorem PostV.gc {m : Bool} {res : R D} {Q : V → Hp → Prop} {Wx : Value → Option Addr → Hp → Prop} {n : Nat} (hn : ρ.length = n) (p : PostV K T (RelD K T) H ρ (gcR m n res) Q Wx) : PostV K T (RelD K T) H ρ res Q Wx := by
  subst hn
  cases res with
  | bad => exact p
  | ex c h' =>
    unfold gcR at p
    dsimp only at p
    split at p
    · rename_i hl
      intro H' ρ' x R
      obtain ⟨r, rfl⟩ := x.pre
      exact p H' ρ x.cut (R.cut hl)
    · exact p
  | ok d h' =>
    unfold gcR at p
    dsimp only at p
    split at p
    · rename_i hl
      split at p
      · rename_i hd
        intro H' ρ' v x R q
        obtain ⟨r, rfl⟩ := x.pre
        exact p H' ρ v x.cut (R.cut hl) (q.trim hd)
      · split at p
        · exact p
        · split at p
          · rename_i d' e
            intro H' ρ' v x R q
            obtain ⟨r, rfl⟩ := x.pre
            exact p H' ρ v x.cut (R.cut hl) (RelD.ice R e q)
          · exact p
    · exact p
end
/-! calls of defs -/
def mCall (φ : Fm) (m : Bool) (perm : List Nat) (ms mk : Ms) : M := fun env h => (ms env h).bind fun ds h1 => (mk env h1).bind fun es h2 => gcR m h2.length (φ (pick .non perm (ds ++ es)) h2)
section
variable {X : Cx} {T : Tb} {W : WX}
theorem den_call {φ : Fm} {m : Bool} {k n : Nat} {f : Addr} {fd : FuncData} {ps ks : List Str} {perm : List Nat} {x : Str} {p pos : Pos} {e : Expr} {r : List Expr} {kws : List Keyword} {ms mk : Ms} (tk : Takes X W) (F : FnOk X.prog X.w X.K X.mg X.base (L2.CX X.prog X.w) k f fd ps (spI X.K T φ perm.length)) (hr : Room k X.A) (hg : Gl X x) (hm : X.mg x = some (.ref f)) (hk : PySem.W.keepIn X.K (.ref f) = true)
    (hb : BindG fd ps n ks perm) (ha : PA X (e :: r) (tIs X.K T W ms)) (hkw : PK X kws (tIs X.K T W mk)) (hall : (backToKw pos (keywordEach kws X.env)).all (·.1.isSome) = true) (hks : (backToKw pos (keywordEach kws X.env)).filterMap (·.1) = ks)
    (hdb : (x == ("__debug__" : Str)) = false) (he : starEach (e :: r) X.env = (false, eval e X.env) :: starEach r X.env)
    (hpl : ((backTo pos (starEach (e :: r) X.env)).any (·.1) || (backToKw pos (keywordEach kws X.env)).any (·.1.isNone)) = false)
    (hl1 : ∀ env h ds h1, ms env h = .ok ds h1 → ds.length = n) (hl2 : ∀ env h ds h1, mk env h = .ok ds h1 → ds.length = ks.length) :
    PE X (.Call (.Name x p) (e :: r) kws pos) (tI X.K T W (mCall φ m perm ms mk)) := by
  refine PE.imp (pe_callG F hr hg hm hk hb (passAt tk) ha hkw hall hks hdb he hpl) fun σ H Q ⟨ρ, env, h, hw, he, p⟩ => ?_
  unfold mCall at p
  refine ⟨ρ, env, h, hw, he, ?_⟩
  cases e1 : ms env h with
  | bad => rw [e1] at p; exact p
  | ex c h1 => rw [e1] at p; exact p
  | ok ds h1 =>
    rw [e1] at p
    intro H1 ρ1 vs x1 w1 r1
    refine ⟨ρ1, env, h1, w1, he.mono x1, ?_⟩
    have p1 := PostV.mono x1 p
    dsimp only [R.bind] at p1
    cases e2 : mk env h1 with
    | bad => rw [e2] at p1; exact p1
    | ex c h2 => rw [e2] at p1; exact p1
    | ok es h2 =>
      rw [e2] at p1
      intro H2 ρ2 zs x2 w2 r2
      have p2 := PostV.gc w2.len (PostV.mono x2 p1)
      have ra : RelDs X.K T H2 ρ2 (ds ++ es) (vs ++ zs) := (r1.mono x2).app r2
      have l1 := hl1 env h ds h1 e1
      have l2 := hl2 env h1 es h2 e2
      refine ⟨by rw [← RelDs.len r1]; exact l1, by rw [← RelDs.len r2]; exact l2, by unfold pick; rw [List.length_map], ρ2, _, h2, w2, RelDs.pick ra (fun i hi => ?_), p2⟩
      rw [← RelDs.len ra, List.length_append, l1, l2]
      exact hb.1 i hi
end
end Iv

set_option maxRecDepth 100000
namespace Iv
open PySem PySem.Spec PyProof.Rows L2
abbrev MS := Env → Hs → RS
def PostS (K : PySem.W.Frag) (T : Tb) (H : Hp) (ρ : List Addr) (r : RS) (D : Ends) (W : WX) : Prop :=
  match r with
  | .nx e h => ∀ H' ρ' σ', Ext H ρ H' ρ' → RelH K T H' ρ' h → RelEnv K T H' ρ' e σ' → D.nx σ' H'
  | .bk e h => ∀ H' ρ' σ', Ext H ρ H' ρ' → RelH K T H' ρ' h → RelEnv K T H' ρ' e σ' → D.bk σ' H'
  | .ct e h => ∀ H' ρ' σ', Ext H ρ H' ρ' → RelH K T H' ρ' h → RelEnv K T H' ρ' e σ' → D.ct σ' H'
  | .rt d h => ∀ H' ρ' v, Ext H ρ H' ρ' → RelH K T H' ρ' h → RelD K T H' ρ' d v → D.rt v H'
  | .ex c e h => ∀ H' ρ' σ', Ext H ρ H' ρ' → RelH K T H' ρ' h → RelEnv K T H' ρ' e σ' → W (.ref (T.cls c)) none σ' H'
  | .bad => False
theorem PostS.mono {K : PySem.W.Frag} {T : Tb} {H H' : Hp} {ρ ρ' : List Addr} {r : RS} {D : Ends} {W : WX} (x : Ext H ρ H' ρ') (h : PostS K T H ρ r D W) : PostS K T H' ρ' r D W := by
  cases r with
  | nx e h' => exact fun H2 ρ2 v x2 => h H2 ρ2 v (x.trans x2)
  | bk e h' => exact fun H2 ρ2 v x2 => h H2 ρ2 v (x.trans x2)
  | ct e h' => exact fun H2 ρ2 v x2 => h H2 ρ2 v (x.trans x2)
  | rt e h' => exact fun H2 ρ2 v x2 => h H2 ρ2 v (x.trans x2)
  | ex c e h' => exact fun H2 ρ2 v x2 => h H2 ρ2 v (x.trans x2)
  | bad => exact h
abbrev tIS (K : PySem.W.Frag) (T : Tb) (W : WX) (m : MS) : TS := fun D σ H => ∃ ρ env h, RelH K T H ρ h ∧ RelEnv K T H ρ env σ ∧ PostS K T H ρ (m env h) D W
theorem PS.imp {X : Cx} {e : Stmt} {t t' : TS} (h : PS X e t) (i : ∀ D σ H, t' D σ H → t D σ H) : PS X e t' := ⟨fun pins s σ H D I q => h.run pins s σ H D I (i D σ H q)⟩
theorem PSs.imp {X : Cx} {e : List Stmt} {t t' : TS} (h : PSs X e t) (i : ∀ D σ H, t' D σ H → t D σ H) : PSs X e t' := ⟨fun pins s σ H D I q => h.run pins s σ H D I (i D σ H q)⟩
theorem RelEnv.put {K : PySem.W.Frag} {T : Tb} {H : Hp} {ρ : List Addr} {e : Env} {σ : Sg} {i : Nat} {d : D} {v : V} (r : RelEnv K T H ρ e σ) (q : RelD K T H ρ d v) : RelEnv K T H ρ (e.set i (some d)) (σ.set i (some v)) := by
  refine ⟨by rw [List.length_set, List.length_set]; exact r.1, fun j c hj => ?_⟩
  by_cases hij : i = j
  · subst hij
    have hlt : i < e.length := by
      have := (List.getElem?_eq_some_iff.mp hj).1
      rwa [List.length_set] at this
    rw [List.getElem?_set_self hlt] at hj
    cases hj
    exact ⟨v, by rw [List.getElem?_set_self (by rw [← r.1]; exact hlt)], q⟩
  · rw [List.getElem?_set_ne hij] at hj
    obtain ⟨w, e1, e2⟩ := r.2 j c hj
    exact ⟨w, by rw [List.getElem?_set_ne hij]; exact e1, e2⟩
section
variable {X : Cx} {T : Tb} {W : WX}
theorem nowS {K : PySem.W.Frag} {H : Hp} {ρ : List Addr} {h : Hs} {e : Env} {σ : Sg} {D : Ends} (p : PostS K T H ρ (.nx e h) D W) (r : RelH K T H ρ h) (re : RelEnv K T H ρ e σ) : D.nx σ H := p H ρ σ (Ext.refl H ρ) r re
theorem bindS {K : PySem.W.Frag} {γ δ : Type} {σ : Sg} {H : Hp} {ρ : List Addr} {h : Hs} {env : Env} {Rel1 : Hp → List Addr → γ → δ → Prop} {ma : Env → Hs → R γ} {k : γ → Hs → RS} {D : Ends} (hw : RelH K T H ρ h) (he : RelEnv K T H ρ env σ)
    (p : PostS K T H ρ ((ma env h).seq env k) D W) {Q1 : δ → Hp → Prop} (q : ∀ H1 ρ1 x h1 v, Ext H ρ H1 ρ1 → RelH K T H1 ρ1 h1 → RelEnv K T H1 ρ1 env σ → Rel1 H1 ρ1 x v → PostS K T H1 ρ1 (k x h1) D W → Q1 v H1) :
    tG K T W Rel1 ma σ H Q1 := by
  refine ⟨ρ, env, h, hw, he, ?_⟩
  cases e : ma env h with
  | ok x h1 =>
    rw [e] at p
    exact fun H1 ρ1 v x1 r1 d1 => q H1 ρ1 x h1 v x1 r1 (he.mono x1) d1 (PostS.mono x1 p)
  | ex c h1 =>
    rw [e] at p
    exact fun H1 ρ1 x1 r1 => p H1 ρ1 σ x1 r1 (he.mono x1)
  | bad =>
    rw [e] at p
    exact p.elim
/-! blocks -/
def sNil : MS := fun env h => .nx env h
def RS.then_ (r : RS) (k : MS) : RS := match r with
  | .nx e h => k e h
  | r => r
def sCons (s ss : MS) : MS := fun env h => (s env h).then_ ss
theorem den_snil : PSs X [] (tIS X.K T W sNil) := PSs.imp pss_nil fun D σ H ⟨ρ, env, h, hw, he, p⟩ => nowS p hw he
theorem then_post {K : PySem.W.Frag} {H : Hp} {ρ : List Addr} {r : RS} {k : MS} {D : Ends} (p : PostS K T H ρ (r.then_ k) D W) : PostS K T H ρ r { D with nx := tIS K T W k D } W := by
  cases r with
  | nx e h => exact fun H' ρ' σ' x w re => ⟨ρ', e, h, w, re, PostS.mono x p⟩
  | bk e h' => exact p
  | ct e h' => exact p
  | rt e h' => exact p
  | ex c e h' => exact p
  | bad => exact p
theorem den_scons {st : Stmt} {rest : List Stmt} {s ss : MS} (h1 : PS X st (tIS X.K T W s)) (h2 : PSs X rest (tIS X.K T W ss)) : PSs X (st :: rest) (tIS X.K T W (sCons s ss)) := by
  refine PSs.imp (pss_cons h1 h2) fun D σ H ⟨ρ, env, h, hw, he, p⟩ => ?_
  exact ⟨ρ, env, h, hw, he, then_post p⟩
theorem den_pass {pos : Pos} : PS X (.Pass pos) (tIS X.K T W sNil) := PS.imp ps_pass fun D σ H ⟨ρ, env, h, hw, he, p⟩ => nowS p hw he
theorem den_doc {x j pos pos'} : PS X (.Expr (.Constant (.str x) j pos) pos') (tIS X.K T W sNil) := PS.imp ps_doc fun D σ H ⟨ρ, env, h, hw, he, p⟩ => nowS p hw he
def sBrk : MS := fun env h => .bk env h
def sCnt : MS := fun env h => .ct env h
theorem den_brk {pos : Pos} : PS X (.Break pos) (tIS X.K T W sBrk) := PS.imp ps_break fun D σ H ⟨ρ, env, h, hw, he, p⟩ => p H ρ σ (Ext.refl H ρ) hw he
theorem den_cnt {pos : Pos} : PS X (.Continue pos) (tIS X.K T W sCnt) := PS.imp ps_continue fun D σ H ⟨ρ, env, h, hw, he, p⟩ => p H ρ σ (Ext.refl H ρ) hw he
def sDrop (m : M) : MS := fun env h => (m env h).seq env fun _ h1 => .nx env h1
theorem den_drop {e : Expr} {m : M} {pos : Pos} (h : PE X e (tI X.K T W m)) (hs : swapsWith e none pos.line X.env = pure false) : PS X (.Expr e pos) (tIS X.K T W (sDrop m)) := by
  refine PS.imp (ps_expr h hs) fun D σ H ⟨ρ, env, h, hw, he, p⟩ => ?_
  exact bindS hw he p fun H1 ρ1 d h1 v x1 w1 e1 r1 p1 => nowS p1 w1 e1
def sRet (m : M) : MS := fun env h => (m env h).seq env fun d h1 => .rt d h1
theorem den_ret {e : Expr} {m : M} {pos : Pos} (h : PE X e (tI X.K T W m)) : PS X (.Return (some e) pos) (tIS X.K T W (sRet m)) := by
  refine PS.imp (ps_ret h) fun D σ H ⟨ρ, env, h, hw, he, p⟩ => ?_
  exact bindS hw he p fun H1 ρ1 d h1 v x1 w1 e1 r1 p1 => p1 H1 ρ1 v (Ext.refl _ _) w1 r1
def sRetN : MS := fun _ h => .rt .non h
theorem den_retN {pos : Pos} : PS X (.Return none pos) (tIS X.K T W sRetN) := by
  refine PS.imp ps_retN fun D σ H ⟨ρ, env, h, hw, he, p⟩ => ?_
  exact p H ρ .non (Ext.refl _ _) hw (by unfold RelD; rfl)
def sSet (i : Nat) (m : M) : MS := fun env h => (m env h).seq env fun d h1 => .nx (env.set i (some d)) h1
theorem den_set {i : Nat} {x : Str} {e : Expr} {m : M} {pos pos' : Pos} (hN : X.N.Nodup) (hi : X.N[i]? = some x) (hx : Loc X.env.scope x) (hf : X.fn x = true ∨ X.env.scope.names.lookup x = some .local) (h : PE X e (tI X.K T W m)) (hs : swapsWith e (some (.Name x pos')) pos.line X.env = pure false) :
    PS X (.Assign [.Name x pos'] e pos) (tIS X.K T W (sSet i m)) := by
  refine PS.imp (ps_set hN hi hx h hs hf) fun D σ H ⟨ρ, env, h, hw, he, p⟩ => ?_
  exact bindS hw he p fun H1 ρ1 d h1 v x1 w1 e1 r1 p1 => nowS p1 w1 (e1.put r1)
def sIf (c : M) (a b : MS) : MS := fun env h => (mT c env h).seq env fun d h1 => match d with
  | .bl true => a env h1
  | .bl false => b env h1
  | _ => .bad
theorem den_if {c : Expr} {a b : List Stmt} {m : M} {sa sb : MS} {pos : Pos} (hc : PT X c (tIT X.K T W (mT m))) (ha : PSs X a (tIS X.K T W sa)) (hb : PSs X b (tIS X.K T W sb)) : PS X (.If c a b pos) (tIS X.K T W (sIf m sa sb)) := by
  refine PS.imp (ps_if hc ha hb) fun D σ H ⟨ρ, env, h, hw, he, p⟩ => ?_
  refine bindS (Rel1 := RelB) hw he p fun H1 ρ1 d h1 v x1 w1 e1 r1 p1 => ?_
  unfold RelB at r1
  subst r1
  cases v with
  | true => rw [if_pos rfl]; exact ⟨ρ1, env, h1, w1, e1, p1⟩
  | false => rw [if_neg (by decide)]; exact ⟨ρ1, env, h1, w1, e1, p1⟩
/-- a, b = x, y -/
def sPar (is : List Nat) (ms : Ms) : MS := fun env h => (ms env h).seq env fun ds h1 => if ds.length = is.length then .nx ((is.zip ds).foldl (fun e p => e.set p.1 (some p.2)) env) h1 else .bad
theorem den_par {i j : Nat} {x y : Str} {a b : Expr} {ms : Ms} {px py pt pos : Pos} {kt k2 pt2} (hc : X.calm = true) (hN : X.N.Nodup) (hi : X.N[i]? = some x) (hj : X.N[j]? = some y) (hij : i ≠ j)
    (hx : X.env.scope.names.lookup x = some .local) (hy : X.env.scope.names.lookup y = some .local) (ha : PA X [a, b] (tIs X.K T W ms))
    (hw : swappedStores [.Tuple [.Name x px, .Name y py] kt pt] (.Tuple [a, b] k2 pt2) X.env = pure (some [x, y]))
    (hs : swapsWithSole [.Tuple [.Name x px, .Name y py] kt pt] (.Tuple [a, b] k2 pt2) pos.line X.env = pure false) :
    PS X (.Assign [.Tuple [.Name x px, .Name y py] kt pt] (.Tuple [a, b] k2 pt2) pos) (tIS X.K T W (sPar [i, j] ms)) := by
  refine PS.imp (ps_par hc hN hi hj hij hx hy ha hw hs) fun D σ H ⟨ρ, env, h, hw, he, p⟩ => ?_
  refine bindS hw he p fun H1 ρ1 ds h1 vs x1 w1 e1 r1 p1 => ?_
  split at p1
  · rename_i hl
    match ds, hl with
    | [d1, d2], _ =>
      unfold RelDs at r1
      obtain ⟨v, r, rfl, q1, r1⟩ := r1
      unfold RelDs at r1
      obtain ⟨w, r, rfl, q2, r1⟩ := r1
      unfold RelDs at r1
      subst r1
      exact ⟨v, w, rfl, nowS p1 w1 ((e1.put q1).put q2)⟩
  · exact p1.elim
/-- name op= e -/
def augD (o : Operator) (x y : D) : Option D := match o, x, y with
  | .Add, .int a, .int b => some (.int (a + b))
  | .Sub, .int a, .int b => some (.int (a - b))
  | _, _, _ => none
def sAug (i : Nat) (o : Operator) (m : M) : MS := fun env h => match env[i]? with
  | some (some x) => (m env h).seq env fun y h1 => match augD o x y with
    | some z => .nx (env.set i (some z)) h1
    | none => .bad
  | _ => .bad
theorem den_aug {i : Nat} {x : Str} {e : Expr} {m : M} {o : Operator} {pos pos' : Pos} (hN : X.N.Nodup) (hi : X.N[i]? = some x) (hx : Loc X.env.scope x) (hf : X.fn x = true ∨ X.env.scope.names.lookup x = some .local) (h : PE X e (tI X.K T W m)) :
    PS X (.AugAssign (.Name x pos') o e pos) (tIS X.K T W (sAug i o m)) := by
  have main : ∀ {ti : TIp}, PIp X o ti → (∀ (a b c : D) (u v : V) (H : Hp) (ρ : List Addr) (Q : VK), augD o a b = some c → RelD X.K T H ρ a u → RelD X.K T H ρ b v → (∀ w, RelD X.K T H ρ c w → Q w H) → ti u v H Q) → PS X (.AugAssign (.Name x pos') o e pos) (tIS X.K T W (sAug i o m)) := fun {ti} hp hs => by
    refine PS.imp (ps_aug hN hi hx h hp hf) fun D σ H ⟨ρ, env, h, hw, he, p⟩ => ?_
    unfold sAug at p
    split at p
    · rename_i d ed
      obtain ⟨v, ev, rv⟩ := he.2 i d ed
      refine ⟨v, ev, bindS hw he p fun H1 ρ1 y h1 u x1 w1 e1 r1 p1 => ?_⟩
      split at p1
      · rename_i z ez
        exact hs d y z v u H1 ρ1 _ ez (rv.mono x1) r1 fun w rw' => nowS p1 w1 (e1.put rw')
      · exact p1.elim
    · exact p.elim
  have none_ : (∀ a b, augD o a b = none) → PS X (.AugAssign (.Name x pos') o e pos) (tIS X.K T W (sAug i o m)) := fun hz => by
    refine main (ti := fun _ _ _ _ => False) (fun _ _ _ _ _ _ _ _ _ _ _ _ q => q.elim) fun a b c u v H ρ Q e => ?_
    rw [hz] at e; cases e
  have intF : ∀ (f : Int → Int → Int), PIp X o (ipI f) → (∀ a b c, augD o a b = some c → ∃ i j, a = .int i ∧ b = .int j ∧ c = .int (f i j)) → PS X (.AugAssign (.Name x pos') o e pos) (tIS X.K T W (sAug i o m)) := fun f hp hz => by
    refine main hp fun a b c u v H ρ Q e ra rb q => ?_
    obtain ⟨i, j, rfl, rfl, rfl⟩ := hz a b c e
    exact ⟨i, j, relInt ra, relInt rb, q _ (by unfold RelD; rfl)⟩
  cases o with
  | Add =>
    refine intF _ ip_add fun a b c e => ?_
    unfold augD at e
    split at e
    · cases e; exact ⟨_, _, rfl, rfl, rfl⟩
    · rename_i z; cases z
    · cases e
  | Sub =>
    refine intF _ ip_sub fun a b c e => ?_
    unfold augD at e
    split at e
    · rename_i z; cases z
    · cases e; exact ⟨_, _, rfl, rfl, rfl⟩
    · cases e
  | _ => exact none_ fun a b => rfl

/-! sources -/
inductive Src where
  | fix (xs : List D) | live (n : Nat)
structure SrcAt (K : PySem.W.Frag) (T : Tb) (J : It) (xs : List D) (P : Hp → List Addr → Prop) : Prop where
  keep : ∀ H ρ H' ρ', P H ρ → Ext H ρ H' ρ' → P H' ρ'
  go : ∀ H ρ h i x, P H ρ → RelH K T H ρ h → xs[i]? = some x → J.go i H ∧ ∀ v H', J.yld i H v H' → Ext H ρ H' ρ ∧ RelH K T H' ρ h ∧ RelD K T H' ρ x v
  stop : ∀ H ρ i, P H ρ → xs.length ≤ i → J.stop i H
def SrcRel (K : PySem.W.Frag) (T : Tb) (H : Hp) (ρ : List Addr) (s : Src) (J : It) : Prop :=
  match s with
  | .fix xs => ∃ P, P H ρ ∧ SrcAt K T J xs P
  | .live n => ∃ a, ρ[n]? = some a ∧ J = Itl K a
abbrev MI := Env → Hs → R Src
theorem PI.imp {tg iter : Expr} {t t' : TI} (h : PI X tg iter t) (i : ∀ σ H R, t' σ H R → t σ H R) : PI X tg iter t' := ⟨fun pins s σ H R I q => h.run pins s σ H R I (i σ H R q)⟩
/-! targets -/
abbrev MTg := D → Env → Option Env
def TgS (K : PySem.W.Frag) (T : Tb) (mt : MTg) (g : TG) : Prop := ∀ (H : Hp) (ρ : List Addr) (h : Hs) (env env' : Env) (σ : Sg) (d : D) (v : V) (Q : Sg → Hp → Prop), RelH K T H ρ h → RelEnv K T H ρ env σ → RelD K T H ρ d v → mt d env = some env' → (∀ σ', RelEnv K T H ρ env' σ' → Q σ' H) → g v σ H Q
def TgSs (K : PySem.W.Frag) (T : Tb) (mt : List D → Env → Option Env) (g : TGs) : Prop := ∀ (H : Hp) (ρ : List Addr) (h : Hs) (env env' : Env) (σ : Sg) (ds : List D) (vs : List V) (Q : Sg → Hp → Prop), RelH K T H ρ h → RelEnv K T H ρ env σ → RelDs K T H ρ ds vs → mt ds env = some env' → (∀ σ', RelEnv K T H ρ env' σ' → Q σ' H) → g vs σ H Q
def PTg (X : Cx) (T : Tb) (tg : Expr) (mt : MTg) (g : TG) : Prop := PG X tg g ∧ TgS X.K T mt g
def PTgs (X : Cx) (T : Tb) (tgs : List Expr) (mt : List D → Env → Option Env) (g : TGs) : Prop := PGs X tgs g ∧ TgSs X.K T mt g
def gNm (i : Nat) : MTg := fun d env => some (env.set i (some d))
def gTp (n : Nat) (mt : List D → Env → Option Env) : MTg := fun d env => match d with
  | .tup xs => if xs.length = n then mt xs env else none
  | _ => none
def gNo : List D → Env → Option Env := fun ds env => match ds with
  | [] => some env
  | _ => none
def gCs (a : MTg) (b : List D → Env → Option Env) : List D → Env → Option Env := fun ds env => match ds with
  | d :: ds => (a d env).bind (b ds)
  | [] => none
theorem den_gnm {i : Nat} {x : Str} {pos : Pos} (hN : X.N.Nodup) (hi : X.N[i]? = some x) (hx : Loc X.env.scope x) (hf : X.fn x = true ∨ X.env.scope.names.lookup x = some .local) : PTg X T (.Name x pos) (gNm i) (gName i) :=
  ⟨pg_name hN hi hx hf, fun H ρ h env env' σ d v Q hw he r e q => by cases e; exact q _ (he.put r)⟩
theorem den_gno : PTgs X T [] gNo gNil := ⟨pgs_nil, fun H ρ h env env' σ ds vs Q hw he r e q => by
  cases ds with
  | nil => cases e; unfold RelDs at r; exact ⟨r, q _ he⟩
  | cons d ds => cases e⟩
theorem den_gcs {e : Expr} {es : List Expr} {a : MTg} {b : List D → Env → Option Env} {g : TG} {g2 : TGs} (h1 : PTg X T e a g) (h2 : PTgs X T es b g2) (hs : (assignEach (e :: es) X.env).map (·.2) = assign e X.env :: (assignEach es X.env).map (·.2)) : PTgs X T (e :: es) (gCs a b) (gCons g g2) := by
  obtain ⟨h1, s1⟩ := h1
  obtain ⟨h2, s2⟩ := h2
  refine ⟨pgs_cons h1 h2 hs, fun H ρ h env env' σ ds vs Q hw he r e q => ?_⟩
  cases ds with
  | nil => cases e
  | cons d ds =>
    unfold RelDs at r
    obtain ⟨v, vr, rfl, r1, r2⟩ := r
    refine ⟨v, vr, rfl, ?_⟩
    have e : (a d env).bind (b ds) = some env' := e
    cases e1 : a d env with
    | none => rw [e1] at e; cases e
    | some env1 =>
      rw [e1] at e
      exact s1 H ρ h env env1 σ d v _ hw he r1 e1 fun σ1 he1 => s2 H ρ h env1 env' σ1 ds vr Q hw he1 r2 e q
theorem den_gtp {es : List Expr} {k : Nat} {n : Nat} {pos : Pos} {mt : List D → Env → Option Env} {g : TGs} (hc : X.calm = true) (h : PTgs X T es mt g) (hn : (assignEach es X.env).length = n) (hst : (assignEach es X.env).findIdx? (·.1) = none) : PTg X T (.Tuple es k pos) (gTp n mt) (gTup X.K n g) := by
  obtain ⟨h, s⟩ := h
  refine ⟨pg_tup hc h hn hst, fun H ρ h env env' σ d v Q hw he r e q => ?_⟩
  unfold gTp at e
  split at e
  · rename_i xs
    split at e
    · rename_i hl
      unfold RelD at r
      obtain ⟨a, vs, rfl, sq, r⟩ := r
      exact ⟨a, vs, rfl, sq, by rw [← RelDs.len r]; exact hl, s H ρ h env env' σ xs vs Q hw he r e q⟩
    · cases e
  · cases e

/-! for -/
def RS.loop (r : RS) (k : MS) : RS := match r with
  | .nx e h => k e h
  | .ct e h => k e h
  | .bk e h => .nx e h
  | .rt d h => .rt d h
  | .ex c e h => .ex c e h
  | .bad => .bad
def forL (mt : MTg) (b : MS) : List D → MS
  | [] => fun e h => .nx e h
  | x :: xs => fun e h => match mt x e with
    | some e1 => (b e1 h).loop (forL mt b xs)
    | none => .bad
def itemAt (h : Hs) (n i : Nat) : Option (Option D) := match h[n]? with
  | some (.lst xs) => some xs[i]?
  | _ => none
def forR (mt : MTg) (b : MS) (n : Nat) : Nat → Nat → MS
  | 0, _ => fun _ _ => .bad
  | m + 1, i => fun e h => match itemAt h n i with
    | none => .bad
    | some none => .nx e h
    | some (some x) => match mt x e with
      | some e1 => (b e1 h).loop (forR mt b n m (i + 1))
      | none => .bad
def sFor (mi : MI) (mt : MTg) (b : MS) : MS := fun env h => (mi env h).seq env fun s h1 => match s with
  | .fix xs => forL mt b xs env h1
  | .live n => forR mt b n most 0 env h1
theorem loop_post {K : PySem.W.Frag} {H : Hp} {ρ : List Addr} {r : RS} {k : MS} {D : Ends} {N : Sg → Hp → Prop} (p : PostS K T H ρ (r.loop k) D W) (hN : ∀ H' ρ' σ' e h, Ext H ρ H' ρ' → RelH K T H' ρ' h → RelEnv K T H' ρ' e σ' → PostS K T H' ρ' (k e h) D W → N σ' H') :
    PostS K T H ρ r { D with nx := N, ct := N, bk := D.nx } W := by
  cases r with
  | nx e h => exact fun H' ρ' σ' x w re => hN H' ρ' σ' e h x w re (PostS.mono x p)
  | ct e h => exact fun H' ρ' σ' x w re => hN H' ρ' σ' e h x w re (PostS.mono x p)
  | bk e h => exact p
  | rt d h => exact p
  | ex c e h => exact p
  | bad => exact p
theorem item_rel {K : PySem.W.Frag} {H : Hp} {ρ : List Addr} {h : Hs} {n : Nat} {a : Addr} {i : Nat} {o : Option D} (hw : RelH K T H ρ h) (ha : ρ[n]? = some a) (e : itemAt h n i = some o) :
    ∃ xs vs, h[n]? = some (.lst xs) ∧ xs[i]? = o ∧ H a = some (.lst vs) ∧ RelDs K T H ρ xs vs := by
  unfold itemAt at e
  split at e
  · rename_i xs en
    cases e
    obtain ⟨vs, e1, r⟩ := hw.at_ n _ a en ha
    exact ⟨xs, vs, en, rfl, e1, r⟩
  · cases e
theorem den_for {tg iter : Expr} {body : List Stmt} {mi : MI} {mt : MTg} {g : TG} {b : MS} {pos : Pos} (hp : PassesOwn (model X.prog X.w) X.A X.env X.xe) (hc : X.calm = true) (hi : PI X tg iter (tG X.K T W (SrcRel X.K T) mi)) (hg : PTg X T tg mt g) (hb : PSs X body (tIS X.K T W b))
    (hs : ∀ x, foldedSetIterable iter X.env x = pure x) : PS X (.For tg iter body [] pos) (tIS X.K T W (sFor mi mt b)) := by
  obtain ⟨hg, sg⟩ := hg
  refine PS.imp (ps_for hp hc hi hg hb hs) fun D σ H ⟨ρ, env, h, hw, he, p⟩ => ?_
  refine bindS hw he p fun H1 ρ1 s h1 J x1 w1 e1 r1 p1 => ?_
  cases s with
  | fix xs =>
    obtain ⟨P, hP, S⟩ := r1
    refine ⟨fun i m σ H => ∃ ρ e h, RelH X.K T H ρ h ∧ RelEnv X.K T H ρ e σ ∧ P H ρ ∧ i ≤ xs.length ∧ m = xs.length - i ∧ PostS X.K T H ρ (forL mt b (xs.drop i) e h) D W, ⟨_, ρ1, env, h1, w1, e1, hP, Nat.zero_le _, rfl, p1⟩, ?_⟩
    rintro i m σ H ⟨ρ, e, h, hw, he, hP, hle, rfl, p⟩
    by_cases hlt : i < xs.length
    · right
      have hx : xs[i]? = some xs[i] := List.getElem?_eq_getElem hlt
      obtain ⟨g1, g2⟩ := S.go H ρ h i _ hP hw hx
      refine ⟨g1, fun σ' H' => ∃ ρ e h, RelH X.K T H' ρ h ∧ RelEnv X.K T H' ρ e σ' ∧ P H' ρ ∧ PostS X.K T H' ρ (forL mt b (xs.drop (i + 1)) e h) D W, fun σ' H' ⟨ρ', e', h', w', re', P', p'⟩ => ⟨_, by omega, ρ', e', h', w', re', P', hlt, rfl, p'⟩, fun v H' y => ?_⟩
      obtain ⟨xe, w', rx⟩ := g2 v H' y
      rw [List.drop_eq_getElem_cons hlt] at p
      unfold forL at p
      cases et : mt xs[i] e with
      | none => simp only [et] at p; exact p.elim
      | some e' =>
        simp only [et] at p
        refine sg H' ρ h e e' σ _ v _ w' (he.mono xe) rx et fun σ' he' => ?_
        exact ⟨ρ, e', h, w', he', loop_post (PostS.mono xe p) fun H2 ρ2 σ2 e2 h2 x2 w2 re2 p2 => ⟨ρ2, e2, h2, w2, re2, S.keep _ _ _ _ hP (xe.trans x2), p2⟩⟩
    · left
      have hi' : i = xs.length := Nat.le_antisymm hle (Nat.le_of_not_lt hlt)
      refine ⟨S.stop H ρ i hP (Nat.le_of_not_lt hlt), ?_⟩
      rw [hi', List.drop_length] at p
      exact nowS p hw he
  | live n =>
    obtain ⟨a, ha, rfl⟩ := r1
    refine ⟨fun i m σ H => ∃ ρ e h, RelH X.K T H ρ h ∧ RelEnv X.K T H ρ e σ ∧ ρ[n]? = some a ∧ PostS X.K T H ρ (forR mt b n m i e h) D W, ⟨_, ρ1, env, h1, w1, e1, ha, p1⟩, ?_⟩
    rintro i m σ H ⟨ρ, e, h, hw, he, ha, p⟩
    cases m with
    | zero => exact p.elim
    | succ m =>
      unfold forR at p
      cases eo : itemAt h n i with
      | none => simp only [eo] at p; exact p.elim
      | some o =>
        obtain ⟨xs, vs, en, ex, eH, rs⟩ := item_rel hw ha eo
        cases o with
        | none =>
          simp only [eo] at p
          exact .inl ⟨⟨vs, .inl (.inl eH), by rw [← RelDs.len rs]; exact List.getElem?_eq_none_iff.mp ex⟩, nowS p hw he⟩
        | some x =>
          simp only [eo] at p
          obtain ⟨v, ev, rv⟩ := RelDs.get rs ex
          refine .inr ⟨⟨vs, v, .inl (.inl eH), ev⟩, fun σ' H' => ∃ ρ e h, RelH X.K T H' ρ h ∧ RelEnv X.K T H' ρ e σ' ∧ ρ[n]? = some a ∧ PostS X.K T H' ρ (forR mt b n m (i + 1) e h) D W, fun σ' H' q => ⟨m, Nat.lt_succ_self m, q⟩, fun u H' y => ?_⟩
          obtain ⟨rfl, y⟩ := y
          have eu := y vs (.inl (.inl eH))
          rw [ev] at eu
          cases eu
          cases et : mt x e with
          | none => simp only [et] at p; exact p.elim
          | some e' =>
            simp only [et] at p
            refine sg H' ρ h e e' σ _ v _ hw he rv et fun σ' he' => ?_
            exact ⟨ρ, e', h, hw, he', loop_post p fun H2 ρ2 σ2 e2 h2 x2 w2 re2 p2 => ⟨ρ2, e2, h2, w2, re2, x2.get ha, p2⟩⟩
/-! while -/
def whileM (c : M) (b : MS) : Nat → MS
  | 0 => fun _ _ => .bad
  | n + 1 => fun e h => (mT c e h).seq e fun d h1 => match d with
    | .bl true => (b e h1).loop (whileM c b n)
    | .bl false => .nx e h1
    | _ => .bad
theorem den_while {c : Expr} {body : List Stmt} {m : M} {b : MS} {n : Nat} {pos : Pos} (hp : PassesOwn (model X.prog X.w) X.A X.env X.xe) (hc : PT X c (tIT X.K T W (mT m))) (hb : PSs X body (tIS X.K T W b)) : PS X (.While c body [] pos) (tIS X.K T W (whileM m b n)) := by
  refine PS.imp (ps_while hp hc hb) fun D σ H ⟨ρ, env, h, hw, he, p⟩ => ?_
  refine ⟨fun n σ H => tIS X.K T W (whileM m b n) D σ H, ⟨n, ρ, env, h, hw, he, p⟩, ?_⟩
  rintro n σ H ⟨ρ, env, h, hw, he, p⟩
  cases n with
  | zero => exact p.elim
  | succ n =>
    unfold whileM at p
    refine bindS (Rel1 := RelB) hw he p fun H1 ρ1 d h1 v x1 w1 e1 r1 p1 => ?_
    unfold RelB at r1
    subst r1
    cases v with
    | true =>
      rw [if_pos rfl]
      refine ⟨fun σ' H' => tIS X.K T W (whileM m b n) D σ' H', fun σ' H' q => ⟨n, Nat.lt_succ_self n, q⟩, ρ1, env, h1, w1, e1, loop_post p1 fun H2 ρ2 σ2 e2 h2 x2 w2 re2 p2 => ⟨ρ2, e2, h2, w2, re2, p2⟩⟩
    | false =>
      rw [if_neg (by decide)]
      exact nowS p1 w1 e1
end
end Iv

set_option maxRecDepth 100000
namespace Iv
open PySem PySem.Spec PyProof.Rows L2
def wipeE (env : Env) : List Nat → Env
  | [] => env
  | v :: vs => (wipeE env vs).set v none
/-- one turn: the tests, the element -/
def step (mt : MTg) (mc : M) (me : M) (env : Env) (x : D) (h : Hs) : R (Option D) := match mt x env with
  | none => .bad
  | some e => match gcR false h.length (mc e h) with
    | .ok (.bl true) h1 => (gcR false h1.length (me e h1)).bind fun y h2 => .ok (some y) h2
    | .ok (.bl false) h1 => .ok none h1
    | _ => .bad
def push (n : Nat) (o : Option D) (h : Hs) : Option Hs := match o with
  | none => some h
  | some y => match h[n]? with
    | some (.lst acc) => if acc.length < most then some (h.set n (.lst (acc ++ [y]))) else none
    | _ => none
/-- a turn of a list comprehension -/
def turnL (n : Nat) (f : D → Hs → R (Option D)) (x : D) (h : Hs) : Option Hs := match f x h with
  | .ok o h1 => push n o h1
  | _ => none
def compL (F : D → Hs → Option Hs) : List D → Hs → Option Hs
  | [], h => some h
  | x :: xs, h => (F x h).bind (compL F xs)
def compR (F : D → Hs → Option Hs) (k : Nat) : Nat → Nat → Hs → Option Hs
  | 0, _, _ => none
  | m + 1, i, h => match itemAt h k i with
    | none => none
    | some none => some h
    | some (some x) => (F x h).bind (compR F k m (i + 1))
def fin (m : Bool) (n : Nat) (o : Option Hs) : R D := match o with
  | some h => gcR m n (.ok (.ref n) h)
  | none => .bad
def runC (F : D → Hs → Option Hs) (s : Src) (h : Hs) : Option Hs := match s with
  | .fix xs => compL F xs h
  | .live k => compR F k most 0 h
def mComp (m : Bool) (mi : MI) (mt : MTg) (mc me : M) (own : List Nat) : M := fun env h => (mi env h).bind fun s h1 => fin m h1.length (runC (turnL h1.length (step mt mc me (wipeE env own))) s (h1 ++ [.lst []]))
/-- the outer turn of two clauses -/
def turn2 (n : Nat) (mt : MTg) (mc : M) (mi1 : MI) (mt1 : MTg) (mc1 me : M) (vs1 : List Nat) (env : Env) (x : D) (h : Hs) : Option Hs := match mt x env with
  | none => none
  | some e => match gcR false h.length (mc e h) with
    | .ok (.bl true) h1 => match mi1 e h1 with
      | .ok s h2 => runC (turnL n (step mt1 mc1 me (wipeE e vs1))) s h2
      | _ => none
    | .ok (.bl false) h1 => some h1
    | _ => none
def mComp2 (m : Bool) (mi : MI) (mt : MTg) (mc : M) (mi1 : MI) (mt1 : MTg) (mc1 me : M) (own vs1 : List Nat) : M := fun env h => (mi env h).bind fun s h1 => fin m h1.length (runC (turn2 h1.length mt mc mi1 mt1 mc1 me vs1 (wipeE env own)) s (h1 ++ [.lst []]))
def mYesT : M := fun _ h => .ok (.bl true) h
section
variable {X : Cx} {T : Tb} {W : WX}
theorem wipe_get {σ : Sg} {v : Nat} {vs : List Nat} : wipe σ (v :: vs) = (wipe σ vs).set v none := rfl
theorem RelEnv.wipe {K : PySem.W.Frag} {H : Hp} {ρ : List Addr} {e0 : Env} {σ : Sg} (r : RelEnv K T H ρ e0 σ) : ∀ vs : List Nat, RelEnv K T H ρ (wipeE e0 vs) (L2.wipe σ vs)
  | [] => r
  | v :: vs => by
    have q := RelEnv.wipe r vs
    rw [wipe_get]
    unfold wipeE
    refine ⟨by rw [List.length_set, List.length_set]; exact q.1, fun i d e => ?_⟩
    by_cases hi : v = i
    · subst hi
      have hlt : v < (wipeE e0 vs).length := by
        have := (List.getElem?_eq_some_iff.mp e).1
        rwa [List.length_set] at this
      rw [List.getElem?_set_self hlt] at e
      cases e
    · rw [List.getElem?_set_ne hi] at e
      obtain ⟨w, e1, e2⟩ := q.2 i d e
      exact ⟨w, by rw [List.getElem?_set_ne hi]; exact e1, e2⟩
/-- a target that stores among own -/
def Keeps (g : TG) (own : List Nat) : Prop := ∀ v σ H (Q : Sg → Hp → Prop), g v σ H Q → g v σ H fun σ' H' => (L2.wipe σ' own = L2.wipe σ own) ∧ Q σ' H'
def KeepsS (g : TGs) (own : List Nat) : Prop := ∀ vs σ H (Q : Sg → Hp → Prop), g vs σ H Q → g vs σ H fun σ' H' => (L2.wipe σ' own = L2.wipe σ own) ∧ Q σ' H'
theorem wipe_set {σ : Sg} {i : Nat} {v : Option V} : ∀ {own : List Nat}, i ∈ own → L2.wipe (σ.set i v) own = L2.wipe σ own
  | [], h => by cases h
  | w :: vs, h => by
    have comm : ∀ {vs : List Nat} {τ : Sg}, L2.wipe (τ.set i v) vs = (L2.wipe τ vs).set i v ∨ L2.wipe (τ.set i v) vs = L2.wipe τ vs := by
      intro vs
      induction vs with
      | nil => intro τ; exact .inl rfl
      | cons u us ih =>
        intro τ
        rw [wipe_get, wipe_get]
        rcases ih (τ := τ) with e | e
        · rw [e]
          by_cases hu : i = u
          · subst hu; right; rw [List.set_set]
          · left; rw [List.set_comm _ _ hu]
        · right; rw [e]
    rw [wipe_get, wipe_get]
    rcases List.mem_cons.mp h with e | h
    · subst e
      rcases comm (vs := vs) (τ := σ) with e | e
      · rw [e, List.set_set]
      · rw [e]
    · rw [wipe_set h]
theorem keeps_nm {i : Nat} {own : List Nat} (h : i ∈ own) : Keeps (gName i) own := fun v σ H Q q => ⟨wipe_set h, q⟩
theorem keeps_no {own : List Nat} : KeepsS gNil own := fun vs σ H Q q => ⟨q.1, rfl, q.2⟩
theorem keeps_cs {g : TG} {g2 : TGs} {own : List Nat} (m1 : ∀ v σ H (Q Q' : Sg → Hp → Prop), (∀ σ H, Q σ H → Q' σ H) → g v σ H Q → g v σ H Q') (h1 : Keeps g own) (h2 : KeepsS g2 own) (m2 : ∀ vs σ H (Q Q' : Sg → Hp → Prop), (∀ σ H, Q σ H → Q' σ H) → g2 vs σ H Q → g2 vs σ H Q') : KeepsS (gCons g g2) own := fun vs σ H Q ⟨v, r, e, q⟩ => by
  refine ⟨v, r, e, m1 _ _ _ _ _ (fun σ1 H1 ⟨e1, q1⟩ => ?_) (h1 v σ H _ q)⟩
  exact m2 _ _ _ _ _ (fun σ2 H2 ⟨e2, q2⟩ => ⟨e2.trans e1, q2⟩) (h2 r σ1 H1 _ q1)
theorem keeps_tp {K : PySem.W.Frag} {n : Nat} {g : TGs} {own : List Nat} (h : KeepsS g own) : Keeps (gTup K n g) own := fun v σ H Q ⟨a, xs, e, s, l, q⟩ => ⟨a, xs, e, s, l, h xs σ H Q q⟩
def MonoG (g : TG) : Prop := ∀ v σ H (Q Q' : Sg → Hp → Prop), (∀ σ H, Q σ H → Q' σ H) → g v σ H Q → g v σ H Q'
def MonoGs (g : TGs) : Prop := ∀ v σ H (Q Q' : Sg → Hp → Prop), (∀ σ H, Q σ H → Q' σ H) → g v σ H Q → g v σ H Q'
theorem mono_nm {i : Nat} : MonoG (gName i) := fun _ σ H _ _ m q => m _ _ q
theorem mono_no : MonoGs gNil := fun _ σ H _ _ m q => ⟨q.1, m _ _ q.2⟩
theorem mono_cs {g : TG} {g2 : TGs} (m1 : MonoG g) (m2 : MonoGs g2) : MonoGs (gCons g g2) := fun _ σ H _ _ m ⟨v, r, e, q⟩ => ⟨v, r, e, m1 _ _ _ _ _ (fun _ _ q1 => m2 _ _ _ _ _ m q1) q⟩
theorem mono_tp {K : PySem.W.Frag} {n : Nat} {g : TGs} (m1 : MonoGs g) : MonoG (gTup K n g) := fun _ σ H _ _ m ⟨a, xs, e, s, l, q⟩ => ⟨a, xs, e, s, l, m1 _ _ _ _ _ m q⟩
abbrev W0 : WX := fun _ _ _ _ => False
theorem den_yesT {K : PySem.W.Frag} : PTs X [] (tIT K T W0 mYesT) := ⟨fun pins s σ H Q I ⟨ρ, env, h, hw, he, p⟩ => pts_nil.run pins s σ H Q I (p H ρ true (Ext.refl H ρ) hw rfl)⟩
theorem den_oneT {K : PySem.W.Frag} {c : Expr} {m : M} (h : PT X c (tIT K T W0 m)) : PTs X [c] (tIT K T W0 m) := pts_one h
theorem gc_ok {m : Bool} {n : Nat} {r : R D} {d : D} {h : Hs} (e : gcR m n r = .ok d h) : ∃ d' h', r = .ok d' h' := by
  cases r with
  | ok d' h' => exact ⟨d', h', rfl⟩
  | ex c h' => unfold gcR at e; dsimp only at e; split at e <;> cases e
  | bad => cases e
/-- to the end of a turn -/
theorem step_post {K : PySem.W.Frag} {H : Hp} {ρ : List Addr} {h : Hs} {env : Env} {σ : Sg} {mt : MTg} {mc me : M} {e : Env} {x : D} {Nx : Option D → Hp → Prop} {NV : V → Hp → Prop} (hw : RelH K T H ρ h) (he : RelEnv K T H ρ e σ) (et : mt x env = some e)
    {o : Option D} {h2 : Hs} (eo : step mt mc me env x h = .ok o h2)
    (hN : ∀ H2 ρ2, Ext H ρ H2 ρ2 → RelH K T H2 ρ2 h2 → o = none → Nx none H2) (hV : ∀ H2 ρ2 y v, Ext H ρ H2 ρ2 → RelH K T H2 ρ2 h2 → o = some y → RelD K T H2 ρ2 y v → NV v H2) :
    tIT K T W0 mc σ H fun b H3 => if b = true then tI K T W0 me σ H3 NV else Nx none H3 := by
  unfold step at eo
  simp only [et] at eo
  refine ⟨ρ, e, h, hw, he, ?_⟩
  have p : PostV K T (RelD K T) H ρ (mc e h) (fun v H1 => ∃ b, v = .bl b ∧ (if b = true then tI K T W0 me σ H1 NV else Nx none H1)) (fun _ _ _ => False) := by
    refine PostV.gc (m := false) (n := h.length) hw.len ?_
    cases eg : gcR false h.length (mc e h) with
    | bad => simp only [eg] at eo; cases eo
    | ex c h1 => simp only [eg] at eo; cases eo
    | ok d h1 =>
      intro H1 ρ1 v x1 w1 r1
      cases d with
      | bl b =>
        cases b with
        | true =>
          simp only [eg] at eo
          refine ⟨true, by unfold RelD at r1; exact r1, ?_⟩
          rw [if_pos rfl]
          refine ⟨ρ1, e, h1, w1, he.mono x1, PostV.gc (m := false) (n := h1.length) w1.len ?_⟩
          cases ee : gcR false h1.length (me e h1) with
          | bad => rw [ee] at eo; cases eo
          | ex c h2 => rw [ee] at eo; cases eo
          | ok y h3 =>
            rw [ee] at eo
            cases eo
            exact fun H2 ρ2 v x2 w2 r2 => hV H2 ρ2 y v (x1.trans x2) w2 rfl r2
        | false =>
          simp only [eg] at eo
          cases eo
          exact ⟨false, by unfold RelD at r1; exact r1, by rw [if_neg (by decide)]; exact hN H1 ρ1 x1 w1 rfl⟩
      | _ => simp only [eg] at eo; cases eo
  -- the test's own reading
  cases em : mc e h with
  | bad => rw [em] at p; exact p
  | ex c h1 => rw [em] at p; exact fun H1 ρ1 x1 w1 => p H1 ρ1 x1 w1
  | ok d h1 =>
    rw [em] at p
    intro H1 ρ1 b x1 w1 r1
    unfold RelB at r1
    subst r1
    obtain ⟨b', eb, q⟩ := p H1 ρ1 (.bl b) x1 w1 (by unfold RelD; rfl)
    cases eb
    exact q
theorem push_none {n : Nat} {h : Hs} : push n none h = some h := rfl
theorem push_some {n : Nat} {y : D} {h h' : Hs} (e : push n (some y) h = some h') : ∃ acc, h[n]? = some (.lst acc) ∧ acc.length < most ∧ h' = h.set n (.lst (acc ++ [y])) := by
  unfold push at e
  dsimp only at e
  split at e
  · rename_i acc ea
    split at e
    · rename_i hl
      cases e
      exact ⟨acc, ea, hl, rfl⟩
    · cases e
  · cases e
theorem bind_some {α β : Type} {o : Option α} {f : α → Option β} {y : β} (e : o.bind f = some y) : ∃ x, o = some x ∧ f x = some y := by
  cases o with
  | none => cases e
  | some x => exact ⟨x, rfl, e⟩
theorem wipe_wipe (τ : Sg) (vs : List Nat) : L2.wipe (L2.wipe τ vs) vs = L2.wipe τ vs := by
  have sub : ∀ (us : List Nat) (τ : Sg), (∀ u ∈ us, u ∈ vs) → L2.wipe (L2.wipe τ us) vs = L2.wipe τ vs := by
    intro us
    induction us with
    | nil => intro τ _; rfl
    | cons u us ih => intro τ hu; rw [wipe_get, wipe_set (hu u List.mem_cons_self)]; exact ih τ fun w hw => hu w (List.mem_cons_of_mem _ hw)
  exact sub vs τ fun _ z => z
/-- a loop, by its turns -/
theorem loop_any {K : PySem.W.Frag} {H1 : Hp} {ρ1 : List Addr} {h1 hEnd : Hs} {s : Src} {J : It} {dA : Addr} {n : Nat} {F : D → Hs → Option Hs} {B : V → Hp → (Hp → Prop) → Prop} {Fin : Hp → Prop}
    (hB : ∀ (H : Hp) (ρ : List Addr) (h : Hs) (x : D) (v : V) (h3 : Hs) (Nx : Hp → Prop), Ext H1 ρ1 H ρ → RelH K T H ρ h → ρ[n]? = some dA → RelD K T H ρ x v → F x h = some h3 → (∀ H' ρ', Ext H1 ρ1 H' ρ' → Ext H ρ H' ρ' → RelH K T H' ρ' h3 → ρ'[n]? = some dA → Nx H') → B v H Nx)
    (hs : SrcRel K T H1 ρ1 s J) (hw : RelH K T H1 ρ1 h1) (hD : ρ1[n]? = some dA) (hr : runC F s h1 = some hEnd) (hE : ∀ H ρ, Ext H1 ρ1 H ρ → RelH K T H ρ hEnd → ρ[n]? = some dA → Fin H) :
    ∃ W : Nat → Nat → Hp → Prop, (∃ m, W 0 m H1) ∧ ∀ i m H, W i m H → (J.stop i H ∧ Fin H) ∨ (J.go i H ∧ ∃ Nx : Hp → Prop, (∀ H', Nx H' → ∃ m', m' < m ∧ W (i + 1) m' H') ∧ ∀ x H', J.yld i H x H' → B x H' Nx) := by
  cases s with
  | fix xs =>
    obtain ⟨P, hP, S⟩ := hs
    refine ⟨fun i m' H => ∃ ρ h, Ext H1 ρ1 H ρ ∧ RelH K T H ρ h ∧ P H ρ ∧ ρ[n]? = some dA ∧ i ≤ xs.length ∧ m' = xs.length - i ∧ compL F (xs.drop i) h = some hEnd, ⟨_, ρ1, h1, Ext.refl _ _, hw, hP, hD, Nat.zero_le _, rfl, hr⟩, ?_⟩
    rintro i m' H ⟨ρ, h, xr, hw, hP, hD, hle, rfl, p⟩
    by_cases hlt : i < xs.length
    · right
      have hx : xs[i]? = some xs[i] := List.getElem?_eq_getElem hlt
      obtain ⟨g1, g2⟩ := S.go H ρ h i _ hP hw hx
      refine ⟨g1, fun H' => ∃ ρ h, Ext H1 ρ1 H' ρ ∧ RelH K T H' ρ h ∧ P H' ρ ∧ ρ[n]? = some dA ∧ compL F (xs.drop (i + 1)) h = some hEnd, fun H' ⟨ρ', h', a1, a2, a3, a4, a5⟩ => ⟨_, by omega, ρ', h', a1, a2, a3, a4, hlt, rfl, a5⟩, fun v H' y => ?_⟩
      obtain ⟨xe, w', rx⟩ := g2 v H' y
      rw [List.drop_eq_getElem_cons hlt] at p
      obtain ⟨h3, ef, p⟩ := bind_some p
      exact hB H' ρ h _ v h3 _ (xr.trans xe) w' hD rx ef fun H2 ρ2 xx x2 w2 hD2 => ⟨ρ2, h3, xx, w2, S.keep _ _ _ _ hP (xe.trans x2), hD2, p⟩
    · left
      have hi' : i = xs.length := Nat.le_antisymm hle (Nat.le_of_not_lt hlt)
      refine ⟨S.stop H ρ i hP (Nat.le_of_not_lt hlt), ?_⟩
      rw [hi', List.drop_length] at p
      cases p
      exact hE H ρ xr hw hD
  | live k =>
    obtain ⟨a, ha, rfl⟩ := hs
    refine ⟨fun i m' H => ∃ ρ h, Ext H1 ρ1 H ρ ∧ RelH K T H ρ h ∧ ρ[k]? = some a ∧ ρ[n]? = some dA ∧ compR F k m' i h = some hEnd, ⟨most, ρ1, h1, Ext.refl _ _, hw, ha, hD, hr⟩, ?_⟩
    rintro i m' H ⟨ρ, h, xr, hw, ha, hD, p⟩
    cases m' with
    | zero => cases p
    | succ m' =>
      unfold compR at p
      cases eo : itemAt h k i with
      | none => simp only [eo] at p; cases p
      | some o =>
        obtain ⟨xs, vs, en, ex, eH, rs⟩ := item_rel hw ha eo
        cases o with
        | none =>
          simp only [eo] at p
          cases p
          exact .inl ⟨⟨vs, .inl (.inl eH), by rw [← RelDs.len rs]; exact List.getElem?_eq_none_iff.mp ex⟩, hE H ρ xr hw hD⟩
        | some x =>
          simp only [eo] at p
          obtain ⟨v, ev, rv⟩ := RelDs.get rs ex
          refine .inr ⟨⟨vs, v, .inl (.inl eH), ev⟩, fun H' => ∃ ρ h, Ext H1 ρ1 H' ρ ∧ RelH K T H' ρ h ∧ ρ[k]? = some a ∧ ρ[n]? = some dA ∧ compR F k m' (i + 1) h = some hEnd, fun H' q => ⟨m', Nat.lt_succ_self m', q⟩, fun u H' y => ?_⟩
          obtain ⟨rfl, y⟩ := y
          have eu := y vs (.inl (.inl eH))
          rw [ev] at eu
          cases eu
          obtain ⟨h3, ef, p⟩ := bind_some p
          exact hB H' ρ h _ v h3 _ xr hw hD rv ef fun H2 ρ2 xx x2 w2 hD2 => ⟨ρ2, h3, xx, w2, x2.get ha, hD2, p⟩
/-- one turn of a list comprehension -/
theorem turn_lc {K : PySem.W.Frag} {H : Hp} {ρ : List Addr} {h h3 : Hs} {x : D} {v : V} {env : Env} {σ : Sg} {own : List Nat} {mt : MTg} {g : TG} {mc me : M} {n : Nat} {dA : Addr} {Nx : Hp → Prop} (sg : TgS K T mt g) (hk : Keeps g own) (hmo : MonoG g)
    (re : RelEnv K T H ρ env (L2.wipe σ own)) (hw : RelH K T H ρ h) (hD : ρ[n]? = some dA) (rx : RelD K T H ρ x v) (ef : turnL n (step mt mc me env) x h = some h3) (hn : ∀ H' ρ', Ext H ρ H' ρ' → RelH K T H' ρ' h3 → ρ'[n]? = some dA → Nx H') :
    g v (L2.wipe σ own) H fun σ2 H2 => L2.wipe σ2 own = L2.wipe σ own ∧ tIT K T W0 mc σ2 H2 fun b H3 =>
      if b = true then tI K T W0 me σ2 H3 fun y H4 => ∃ acc, H4 dA = some (.lst acc) ∧ acc.length < sizeLine ∧ Nx (upd H4 dA (.lst (acc ++ [y]))) else Nx H3 := by
  unfold turnL at ef
  cases es : step mt mc me env x h with
  | bad => simp only [es] at ef; cases ef
  | ex c h2 => simp only [es] at ef; cases ef
  | ok o h2 =>
    simp only [es] at ef
    cases et : mt x env with
    | none => unfold step at es; simp only [et] at es; cases es
    | some e' =>
      have base : g v (L2.wipe σ own) H fun σ2 H2 => H2 = H ∧ RelEnv K T H ρ e' σ2 := sg H ρ h _ e' _ x v _ hw re rx et fun σ' re => ⟨rfl, re⟩
      refine hmo _ _ _ _ _ (fun σ2 H2 ⟨ew, eH, re⟩ => ⟨?_, ?_⟩) (hk _ _ _ _ base)
      · rw [ew, wipe_wipe]
      · subst eH
        refine step_post (Nx := fun _ => Nx) hw re et es (fun H2' ρ2 x2 w2 eo => ?_) fun H2' ρ2 y u x2 w2 eo ry => ?_
        · subst eo
          cases ef
          exact hn H2' ρ2 x2 w2 (x2.get hD)
        · subst eo
          obtain ⟨acc, ea, hl, rfl⟩ := push_some ef
          obtain ⟨vs, eD, rs⟩ := w2.at_ _ _ dA ea (x2.get hD)
          have xp : Ext H2' ρ2 (upd H2' dA (.lst (vs ++ [u]))) ρ2 := Ext.put w2 (List.mem_of_getElem? (x2.get hD))
          refine ⟨vs, eD, by rw [← RelDs.len rs]; exact Nat.lt_of_lt_of_le hl (by unfold most; rw [sizeLine_eq]; decide), hn _ ρ2 (x2.trans xp) (w2.put (x2.get hD) ⟨vs ++ [u], upd_same, ?_⟩) (x2.get hD)⟩
          exact (rs.mono xp).app (by unfold RelDs; exact ⟨u, [], rfl, ry.mono xp, by unfold RelDs; rfl⟩)
theorem fin_post {K : PySem.W.Frag} {H : Hp} {ρ : List Addr} {m : Bool} {n : Nat} {o : Option Hs} {Q : V → Hp → Prop} {Wx : Value → Option Addr → Hp → Prop} (p : PostV K T (RelD K T) H ρ (fin m n o) Q Wx) : ∃ hE, o = some hE ∧ PostV K T (RelD K T) H ρ (gcR m n (.ok (.ref n) hE)) Q Wx := by
  cases o with
  | none => exact p.elim
  | some hE => exact ⟨hE, rfl, p⟩
theorem read_comp {K : PySem.W.Frag} {m : Bool} {own : List Nat} {mi : MI} {mt : MTg} {g : TG} {mc me : M} {σ : Sg} {H : Hp} {Q : VK} (sg : TgS K T mt g) (hk : Keeps g own) (hmo : MonoG g) (q : tI K T W (mComp m mi mt mc me own) σ H Q) :
    tLc (tG K T W (SrcRel K T) mi) g (tIT K T W0 mc) (tI K T W0 me) own σ H Q := by
  obtain ⟨ρ, env, h, hw, he, p⟩ := q
  unfold mComp at p
  refine bindI hw he p fun H1 ρ1 s h1 J x1 w1 e1 r1 p1 dA hD => ?_
  obtain ⟨hE, er, p1⟩ := fin_post p1
  have w2 : RelH K T (upd H1 dA (.lst [])) (ρ1 ++ [dA]) (h1 ++ [.lst []]) := w1.alloc hD ⟨[], upd_same, by unfold RelDs; rfl⟩
  have xa : Ext H1 ρ1 (upd H1 dA (.lst [])) (ρ1 ++ [dA]) := Ext.alloc hD
  have hDn : (ρ1 ++ [dA])[h1.length]? = some dA := by rw [← w1.len, List.getElem?_append_right (Nat.le_refl _), Nat.sub_self]; rfl
  refine loop_any (B := fun x H' Nx => g x (L2.wipe σ own) H' fun σ2 H2 => L2.wipe σ2 own = L2.wipe σ own ∧ tIT K T W0 mc σ2 H2 fun b H3 => if b = true then tI K T W0 me σ2 H3 fun y H4 => ∃ acc, H4 dA = some (.lst acc) ∧ acc.length < sizeLine ∧ Nx (upd H4 dA (.lst (acc ++ [y]))) else Nx H3)
    (fun H ρ h x v h3 Nx xr hw hD rx ef hn => turn_lc sg hk hmo ((e1.wipe own).mono (xa.trans xr)) hw hD rx ef fun H' ρ' x' w' d' => hn H' ρ' (xr.trans x') x' w' d') (?_ : SrcRel K T (upd H1 dA (.lst [])) (ρ1 ++ [dA]) s J) w2 hDn er fun H ρ xr hw hD => ?_
  · cases s with
    | fix xs => obtain ⟨P, hP, S⟩ := r1; exact ⟨P, S.keep _ _ _ _ hP xa, S⟩
    | live k => obtain ⟨a, ha, e⟩ := r1; exact ⟨a, xa.get ha, e⟩
  · exact PostV.gc (n := h1.length) w1.len (res := .ok (.ref h1.length) hE) p1 H ρ (.ref dA) (xa.trans xr) hw (by unfold RelD; exact ⟨dA, rfl, hD⟩)
abbrev InBlk (X : Cx) (scope : Scope) (P : Cx → Prop) : Prop := ∀ (s : Shared) (H : Hp) (C : Addr) (cl : List (Str × Addr)) (fp : List Addr), P (X.blk s H scope (compEnvC scope cl C X.env) fp)
theorem den_comp {m : Bool} {elt tg iter : Expr} {ifs : List Expr} {scope : Scope} {own : List (Str × Nat)} {vs : List Nat} {pos : Pos} {mi : MI} {mt : MTg} {g : TG} {mc me : M} (hc : X.calm = true) (hN : X.N.Nodup) (hi : PI X tg iter (tG X.K T W (SrcRel X.K T) mi)) (ok : BlkOk X.N X.env.scope scope own) (hvs : own.map (·.2) = vs)
    (hg : InBlk X scope fun Y => PTg Y T tg mt g) (hk : Keeps g vs) (hmo : MonoG g) (ht : InBlk X scope fun Y => PTs Y ifs (tIT X.K T W0 mc)) (he : InBlk X scope fun Y => PE Y elt (tI X.K T W0 me)) (hs : ∀ x, foldedSetIterable iter X.env x = pure x) :
    PE X (.ListComp elt [⟨tg, iter, ifs, 0⟩] scope pos) (tI X.K T W (mComp m mi mt mc me vs)) :=
  by subst hvs; exact PE.imp (pe_lc hc hN hi ok (fun s H C cl fp => (hg s H C cl fp).1) ht he hs) fun σ H Q q => read_comp (hg X.s_0 H 0 [] []).2 hk hmo q
theorem den_setComp {i : Nat} {y : Str} {py : Pos} {m : Bool} {elt tg iter : Expr} {ifs : List Expr} {scope : Scope} {own : List (Str × Nat)} {vs : List Nat} {pos spos : Pos} {mi : MI} {mt : MTg} {g : TG} {mc me : M} (hc : X.calm = true) (hN : X.N.Nodup) (hy : X.N[i]? = some y) (hyl : X.env.scope.names.lookup y = some .local)
    (hsw : swapsWith (.ListComp elt [⟨tg, iter, ifs, 0⟩] scope pos) (some (.Name y py)) spos.line X.env = pure true) (hi : PI X tg iter (tG X.K T W (SrcRel X.K T) mi)) (ok : BlkOk X.N X.env.scope scope own) (hvs : own.map (·.2) = vs)
    (hg : InBlk X scope fun Y => PTg Y T tg mt g) (hk : Keeps g vs) (hmo : MonoG g) (ht : InBlk X scope fun Y => PTs Y ifs (tIT X.K T W0 mc)) (he : InBlk X scope fun Y => PE Y elt (tI X.K T W0 me)) (hs : ∀ x, foldedSetIterable iter X.env x = pure x) :
    PS X (.Assign [.Name y py] (.ListComp elt [⟨tg, iter, ifs, 0⟩] scope pos) spos) (tIS X.K T W (sSet i (mComp m mi mt mc me vs))) :=
  by subst hvs; exact PS.imp (ps_setLc hc hN hy hyl hsw hi ok (fun s H C cl fp => (hg s H C cl fp).1) ht he hs) fun D σ H ⟨ρ, env, h, hw, he, p⟩ => read_comp (hg X.s_0 H 0 [] []).2 hk hmo (bindS hw he p fun H1 ρ1 d h1 v x1 w1 e1 r1 p1 => nowS p1 w1 (e1.put r1))
/-- two clauses -/
theorem read_comp2 {K : PySem.W.Frag} {m : Bool} {own vs1 : List Nat} {mi mi1 : MI} {mt mt1 : MTg} {g g1 : TG} {mc mc1 me : M} {σ : Sg} {H : Hp} {Q : VK} (sg : TgS K T mt g) (hk : Keeps g own) (hmo : MonoG g) (sg1 : TgS K T mt1 g1) (hk1 : Keeps g1 vs1) (hmo1 : MonoG g1) (q : tI K T W (mComp2 m mi mt mc mi1 mt1 mc1 me own vs1) σ H Q) :
    tLc2 (tG K T W (SrcRel K T) mi) g (tIT K T W0 mc) (tG K T W0 (SrcRel K T) mi1) g1 (tIT K T W0 mc1) (tI K T W0 me) own vs1 σ H Q := by
  obtain ⟨ρ, env, h, hw, he, p⟩ := q
  unfold mComp2 at p
  refine bindI hw he p fun H1 ρ1 s h1 J x1 w1 e1 r1 p1 dA hD => ?_
  obtain ⟨hE, er, p1⟩ := fin_post p1
  have w2 : RelH K T (upd H1 dA (.lst [])) (ρ1 ++ [dA]) (h1 ++ [.lst []]) := w1.alloc hD ⟨[], upd_same, by unfold RelDs; rfl⟩
  have xa : Ext H1 ρ1 (upd H1 dA (.lst [])) (ρ1 ++ [dA]) := Ext.alloc hD
  have hDn : (ρ1 ++ [dA])[h1.length]? = some dA := by rw [← w1.len, List.getElem?_append_right (Nat.le_refl _), Nat.sub_self]; rfl
  refine loop_any (B := fun x H' Nx => g x (L2.wipe σ own) H' fun σ2 H2 => L2.wipe σ2 own = L2.wipe σ own ∧ tIT K T W0 mc σ2 H2 fun b H3 =>
      if b = true then tG K T W0 (SrcRel K T) mi1 σ2 H3 fun J1 H4 => ∃ W1 : Nat → Nat → Hp → Prop, (∃ m, W1 0 m H4) ∧ ∀ j k H, W1 j k H →
        (J1.stop j H ∧ Nx H) ∨ (J1.go j H ∧ ∃ Nx1 : Hp → Prop, (∀ H', Nx1 H' → ∃ k', k' < k ∧ W1 (j + 1) k' H') ∧ ∀ x H', J1.yld j H x H' → g1 x (L2.wipe σ2 vs1) H' fun σ3 H5 => L2.wipe σ3 vs1 = L2.wipe σ2 vs1 ∧ tIT K T W0 mc1 σ3 H5 fun b H6 =>
          if b = true then tI K T W0 me σ3 H6 fun y H7 => ∃ acc, H7 dA = some (.lst acc) ∧ acc.length < sizeLine ∧ Nx1 (upd H7 dA (.lst (acc ++ [y]))) else Nx1 H6)
      else Nx H3)
    (fun H ρ h x v h3 Nx xr hw hD rx ef hn => ?_) (?_ : SrcRel K T (upd H1 dA (.lst [])) (ρ1 ++ [dA]) s J) w2 hDn er fun H ρ xr hw hD => ?_
  · -- the outer turn
    unfold turn2 at ef
    cases et : mt x (wipeE env own) with
    | none => simp only [et] at ef; cases ef
    | some e' =>
      simp only [et] at ef
      have base : g v (L2.wipe σ own) H fun σ2 H2 => H2 = H ∧ RelEnv K T H ρ e' σ2 := sg H ρ h _ e' _ x v _ hw ((e1.wipe own).mono (xa.trans xr)) rx et fun σ' re => ⟨rfl, re⟩
      refine hmo _ _ _ _ _ (fun σ2 H2 ⟨ew, eH, re⟩ => ⟨by rw [ew, wipe_wipe], ?_⟩) (hk _ _ _ _ base)
      subst eH
      refine ⟨ρ, e', h, hw, re, ?_⟩
      -- the test's value
      suffices pp : PostV K T (RelD K T) H2 ρ (mc e' h) (fun w H3 => ∃ b, w = .bl b ∧ (if b = true then tG K T W0 (SrcRel K T) mi1 σ2 H3 fun J1 H4 => ∃ W1 : Nat → Nat → Hp → Prop, (∃ m, W1 0 m H4) ∧ ∀ j k H, W1 j k H →
        (J1.stop j H ∧ Nx H) ∨ (J1.go j H ∧ ∃ Nx1 : Hp → Prop, (∀ H', Nx1 H' → ∃ k', k' < k ∧ W1 (j + 1) k' H') ∧ ∀ x H', J1.yld j H x H' → g1 x (L2.wipe σ2 vs1) H' fun σ3 H5 => L2.wipe σ3 vs1 = L2.wipe σ2 vs1 ∧ tIT K T W0 mc1 σ3 H5 fun b H6 =>
          if b = true then tI K T W0 me σ3 H6 fun y H7 => ∃ acc, H7 dA = some (.lst acc) ∧ acc.length < sizeLine ∧ Nx1 (upd H7 dA (.lst (acc ++ [y]))) else Nx1 H6)
      else Nx H3)) (fun _ _ _ => False) by
        cases em : mc e' h with
        | bad => rw [em] at pp; exact pp
        | ex c h1 => rw [em] at pp; exact fun H1 ρ1 x1 w1 => pp H1 ρ1 x1 w1
        | ok d h1 =>
          rw [em] at pp
          intro H1 ρ1 b x1 w1 r1
          unfold RelB at r1
          subst r1
          obtain ⟨b', eb, q⟩ := pp H1 ρ1 (.bl b) x1 w1 (by unfold RelD; rfl)
          cases eb
          exact q
      refine PostV.gc (m := false) (n := h.length) hw.len ?_
      cases eg : gcR false h.length (mc e' h) with
      | bad => simp only [eg] at ef; cases ef
      | ex c h1 => simp only [eg] at ef; cases ef
      | ok d h1' =>
        intro H3 ρ3 w x3 w3 r3
        cases d with
        | bl b =>
          refine ⟨b, by unfold RelD at r3; exact r3, ?_⟩
          cases b with
          | false =>
            simp only [eg] at ef
            cases ef
            rw [if_neg (by decide)]
            exact hn H3 ρ3 (xr.trans x3) x3 w3 (x3.get hD)
          | true =>
            simp only [eg] at ef
            rw [if_pos rfl]
            refine ⟨ρ3, e', h1', w3, re.mono x3, ?_⟩
            cases e2 : mi1 e' h1' with
            | bad => simp only [e2] at ef; cases ef
            | ex c h2 => simp only [e2] at ef; cases ef
            | ok s1 h2 =>
              simp only [e2] at ef
              intro H4 ρ4 J1 x4 w4 r4
              refine loop_any (B := fun x H' Nx1 => g1 x (L2.wipe σ2 vs1) H' fun σ3 H5 => L2.wipe σ3 vs1 = L2.wipe σ2 vs1 ∧ tIT K T W0 mc1 σ3 H5 fun b H6 => if b = true then tI K T W0 me σ3 H6 fun y H7 => ∃ acc, H7 dA = some (.lst acc) ∧ acc.length < sizeLine ∧ Nx1 (upd H7 dA (.lst (acc ++ [y]))) else Nx1 H6)
                (fun H ρ h x v h3 Nx xr5 hw hD rx ef hn => turn_lc sg1 hk1 hmo1 ((re.wipe vs1).mono (x3.trans (x4.trans xr5))) hw hD rx ef fun H' ρ' x' w' d' => hn H' ρ' (xr5.trans x') x' w' d') r4 w4 ((x3.trans x4).get hD) ef fun H5 ρ5 xr5 hw5 hD5 => ?_
              exact hn H5 ρ5 (xr.trans (x3.trans (x4.trans xr5))) (x3.trans (x4.trans xr5)) hw5 hD5
        | _ => simp only [eg] at ef; cases ef
  · cases s with
    | fix xs => obtain ⟨P, hP, S⟩ := r1; exact ⟨P, S.keep _ _ _ _ hP xa, S⟩
    | live k => obtain ⟨a, ha, e⟩ := r1; exact ⟨a, xa.get ha, e⟩
  · exact PostV.gc (n := h1.length) w1.len (res := .ok (.ref h1.length) hE) p1 H ρ (.ref dA) (xa.trans xr) hw (by unfold RelD; exact ⟨dA, rfl, hD⟩)
theorem den_comp2 {m : Bool} {elt tg iter tg1 iter1 : Expr} {ifs ifs1 : List Expr} {scope : Scope} {own : List (Str × Nat)} {vs : List Nat} {vs1 : List Nat} {pos : Pos} {mi mi1 : MI} {mt mt1 : MTg} {g g1 : TG} {mc mc1 me : M} (hc : X.calm = true) (hN : X.N.Nodup) (hi : PI X tg iter (tG X.K T W (SrcRel X.K T) mi)) (ok : BlkOk X.N X.env.scope scope own) (hvs : own.map (·.2) = vs) (hv : ∀ i ∈ vs1, i ∈ vs)
    (hg : InBlk X scope fun Y => PTg Y T tg mt g) (hk : Keeps g vs) (hmo : MonoG g) (ht : InBlk X scope fun Y => PTs Y ifs (tIT X.K T W0 mc))
    (hi1 : InBlk X scope fun Y => PI Y tg1 iter1 (tG X.K T W0 (SrcRel X.K T) mi1)) (hg1 : InBlk X scope fun Y => PTg Y T tg1 mt1 g1) (hk1 : Keeps g1 vs1) (hmo1 : MonoG g1) (ht1 : InBlk X scope fun Y => PTs Y ifs1 (tIT X.K T W0 mc1))
    (he : InBlk X scope fun Y => PE Y elt (tI X.K T W0 me)) (hs : ∀ x, foldedSetIterable iter X.env x = pure x) (hs1 : ∀ env x, foldedSetIterable iter1 env x = pure x) :
    PE X (.ListComp elt [⟨tg, iter, ifs, 0⟩, ⟨tg1, iter1, ifs1, 0⟩] scope pos) (tI X.K T W (mComp2 m mi mt mc mi1 mt1 mc1 me vs vs1)) :=
  by subst hvs; exact PE.imp (pe_lc2 hc hN hi ok hv (fun s H C cl fp => (hg s H C cl fp).1) ht hi1 (fun s H C cl fp => (hg1 s H C cl fp).1) ht1 he hs hs1) fun σ H Q q => read_comp2 (hg X.s_0 H 0 [] []).2 hk hmo (hg1 X.s_0 H 0 [] []).2 hk1 hmo1 q
theorem den_setComp2 {i : Nat} {y : Str} {py : Pos} {m : Bool} {elt tg iter tg1 iter1 : Expr} {ifs ifs1 : List Expr} {scope : Scope} {own : List (Str × Nat)} {vs : List Nat} {vs1 : List Nat} {pos spos : Pos} {mi mi1 : MI} {mt mt1 : MTg} {g g1 : TG} {mc mc1 me : M} (hc : X.calm = true) (hN : X.N.Nodup) (hy : X.N[i]? = some y) (hyl : X.env.scope.names.lookup y = some .local)
    (hsw : swapsWith (.ListComp elt [⟨tg, iter, ifs, 0⟩, ⟨tg1, iter1, ifs1, 0⟩] scope pos) (some (.Name y py)) spos.line X.env = pure true) (hi : PI X tg iter (tG X.K T W (SrcRel X.K T) mi)) (ok : BlkOk X.N X.env.scope scope own) (hvs : own.map (·.2) = vs) (hv : ∀ i ∈ vs1, i ∈ vs)
    (hg : InBlk X scope fun Y => PTg Y T tg mt g) (hk : Keeps g vs) (hmo : MonoG g) (ht : InBlk X scope fun Y => PTs Y ifs (tIT X.K T W0 mc))
    (hi1 : InBlk X scope fun Y => PI Y tg1 iter1 (tG X.K T W0 (SrcRel X.K T) mi1)) (hg1 : InBlk X scope fun Y => PTg Y T tg1 mt1 g1) (hk1 : Keeps g1 vs1) (hmo1 : MonoG g1) (ht1 : InBlk X scope fun Y => PTs Y ifs1 (tIT X.K T W0 mc1))
    (he : InBlk X scope fun Y => PE Y elt (tI X.K T W0 me)) (hs : ∀ x, foldedSetIterable iter X.env x = pure x) (hs1 : ∀ env x, foldedSetIterable iter1 env x = pure x) :
    PS X (.Assign [.Name y py] (.ListComp elt [⟨tg, iter, ifs, 0⟩, ⟨tg1, iter1, ifs1, 0⟩] scope pos) spos) (tIS X.K T W (sSet i (mComp2 m mi mt mc mi1 mt1 mc1 me vs vs1))) :=
  by subst hvs; exact PS.imp (ps_setLc2 hc hN hy hyl hsw hi ok hv (fun s H C cl fp => (hg s H C cl fp).1) ht hi1 (fun s H C cl fp => (hg1 s H C cl fp).1) ht1 he hs hs1) fun D σ H ⟨ρ, env, h, hw, he, p⟩ => read_comp2 (hg X.s_0 H 0 [] []).2 hk hmo (hg1 X.s_0 H 0 [] []).2 hk1 hmo1 (bindS hw he p fun H1 ρ1 d h1 v x1 w1 e1 r1 p1 => nowS p1 w1 (e1.put r1))
end
end Iv

set_option maxRecDepth 100000
namespace Iv
open PySem PySem.Spec PyProof.Rows L2
section
variable {X : Cx} {T : Tb} {W : WX} {tg : Expr}
/-- what walks a list, a tuple, a dict's keys -/
def iSeqA (K : PySem.W.Frag) (tl : TE) : TI := fun σ H R => tl σ H fun x H1 => ∃ a, x = .ref a ∧ (((∃ xs, SqL K H1 a xs) ∧ R (Itl K a) H1) ∨ ((∃ xs, SqT K H1 a xs) ∧ R (Itt K a) H1) ∨
  ∃ kvs, (∃ o, H1 a = some (.frz o (.dK kvs)) ∧ R (Itk a o kvs) H1) ∨ (H1 a = some (.dK kvs) ∧ ∀ o, R (Itk a o kvs) (upd H1 a (.frz o (.dK kvs)))))
theorem pi_seqA {l : Expr} {tl : TE} (hl : PE X l tl) : PI X tg l (iSeqA X.K tl) where
  run := fun pins s σ H R I h => thn (hl.run pins s σ H _ I h) fun v s1 ⟨x, H1, I1, r1, a, ex, q⟩ => by
    subst ex
    obtain rfl : v = Value.ref a := r1
    have walked : ∀ {H2 : Hp} {o : Obj} {kvs : List (Key × V)}, Inv X pins σ H2 s1 → H2 a = some (.frz o (.dK kvs)) → R (Itk a o kvs) H2 → wpAny (model X.prog X.w) X.A (pyIter (.ref a)) (PIE X pins σ tg R) X.xe s1 := by
      intro H2 o kvs I2 hd q
      obtain ⟨n1, n2, n3, es, ep, _, n4, n5, _⟩ := I2.frzK hd
      exact iter_keys n1 n2 n3 n4 (pi_one (tk := s1.toks) I2 _ (turn_keys _ n4) ⟨_, Heap.get?_push_size _ rfl, rfl, by rw [n5] <;> rfl⟩ q)
    rcases q with ⟨⟨xs, hq⟩, q⟩ | ⟨⟨xs, hq⟩, q⟩ | ⟨kvs, ⟨o, hd, q⟩ | ⟨hd, q⟩⟩
    · obtain ⟨its, _, p, _⟩ := I1.list hq
      exact wpAny_pyIter_list p.isList (pi_one (tk := s1.toks) I1 _ (turn_list a _) ⟨_, Heap.get?_push_size _ rfl, rfl, rfl⟩ q)
    · obtain ⟨its, _, p, _⟩ := I1.tuple hq
      exact wpAny_pyIter_tuple (show s1.heap.IsTuple a its.toArray from p) (pi_one (tk := s1.toks) I1 _ (turn_tuple a _) ⟨_, Heap.get?_push_size _ rfl, rfl, rfl⟩ q)
    · exact walked I1 hd q
    · obtain ⟨o, I2⟩ := I1.lock hd trivial
      exact walked I2 upd_same (q o)
/-- a dict that nobody changes is locked for good -/
theorem Ext.lock {H : Hp} {ρ : List Addr} {a : Addr} {o : Obj} {kvs : List (Key × V)} (e : H a = some (.dK kvs)) : Ext H ρ (upd H a (.frz o (.dK kvs))) ρ := by
  have ne : ∀ b u, H b = some u → u ≠ .dK kvs → b ≠ a := fun b u q n z => by rw [z, e] at q; exact n (Option.some.inj q).symm
  refine ⟨⟨[], by simp⟩, fun b u q f n => ⟨?_, n⟩, fun b ks q n => ⟨?_, n⟩, fun b xs q => ?_, fun b φ q => ?_, fun b w u q => ?_⟩
  · rw [upd_ne (ne b u q fun z => by rw [z] at f; exact f)]; exact q
  · by_cases hb : b = a
    · subst hb
      rcases q with q | ⟨w, q⟩
      · rw [e] at q; cases q; exact .inr ⟨o, upd_same⟩
      · rw [e] at q; cases q
    · exact rd_upd hb q
  · refine rd_upd (fun z => ?_) q
    subst z
    rcases q with q | ⟨w, q⟩ <;> (rw [e] at q; cases q)
  · rw [upd_ne (ne b _ q fun z => nomatch z)]; exact q
  · rw [upd_ne (ne b _ q fun z => nomatch z)]; exact q
theorem RelH.lock {K : PySem.W.Frag} {H : Hp} {ρ : List Addr} {h : Hs} {a : Addr} {o : Obj} {kvs : List (Key × V)} (R : RelH K T H ρ h) (e : H a = some (.dK kvs)) (na : a ∉ ρ) : RelH K T (upd H a (.frz o (.dK kvs))) ρ h := by
  refine ⟨R.len, R.nd, fun n ob b e1 e2 => (R.at_ n ob b e1 e2).mono (Ext.lock e) ?_, tabs_put R.tab e trivial fun φ z => nomatch z⟩
  have hb : b ≠ a := fun z => na (by rw [← z]; exact List.mem_of_getElem? e2)
  exact upd_ne hb
def srcD (d : D) (h : Hs) : Option Src := match d with
  | .lst xs => some (.fix xs)
  | .tup xs => some (.fix xs)
  | .scr xs => some (.fix xs)
  | .dct ks _ => some (.fix (ks.map kD))
  | .ref n => match h[n]? with
    | some (.lst _) => some (.live n)
    | _ => none
  | _ => none
def mSrc (m : M) : MI := fun env h => (m env h).bind fun d h1 => match srcD d h1 with
  | some s => .ok s h1
  | none => .bad
theorem src_list {K : PySem.W.Frag} {d : D} {xs : List D} {a : Addr} (hd : ∀ H ρ, RelD K T H ρ d (.ref a) → ∃ vs, SqL K H a vs ∧ RelDs K T H ρ xs vs) : SrcAt K T (Itl K a) xs fun H ρ => RelD K T H ρ d (.ref a) where
  keep := fun H ρ H' ρ' r x => r.mono x
  go := fun H ρ h i x r hw hx => by
    obtain ⟨vs, sq, rs⟩ := hd H ρ r
    obtain ⟨v, ev, rv⟩ := RelDs.get rs hx
    exact ⟨⟨vs, v, sq, ev⟩, fun u H' y => by
      obtain ⟨rfl, y⟩ := y
      have e := y vs sq
      rw [ev] at e
      cases e
      exact ⟨Ext.refl _ _, hw, rv⟩⟩
  stop := fun H ρ i r hl => by
    obtain ⟨vs, sq, rs⟩ := hd H ρ r
    exact ⟨vs, sq, by rw [← RelDs.len rs]; exact hl⟩
theorem src_tup {K : PySem.W.Frag} {xs : List D} {a : Addr} : SrcAt K T (Itt K a) xs fun H ρ => RelD K T H ρ (.tup xs) (.ref a) where
  keep := fun H ρ H' ρ' r x => r.mono x
  go := fun H ρ h i x r hw hx => by
    unfold RelD at r
    obtain ⟨_, vs, e, sq, rs⟩ := r
    cases e
    obtain ⟨v, ev, rv⟩ := RelDs.get rs hx
    exact ⟨⟨vs, v, sq, ev⟩, fun u H' y => by
      obtain ⟨rfl, y⟩ := y
      have e := y vs sq
      rw [ev] at e
      cases e
      exact ⟨Ext.refl _ _, hw, rv⟩⟩
  stop := fun H ρ i r hl => by
    unfold RelD at r
    obtain ⟨_, vs, e, sq, rs⟩ := r
    cases e
    exact ⟨vs, sq, by rw [← RelDs.len rs]; exact hl⟩
theorem kD_rel {K : PySem.W.Frag} {H : Hp} {ρ : List Addr} (k : Key) : RelD K T H ρ (kD k) (kV k) := by
  cases k <;> (unfold kD RelD; rfl)
theorem src_keys {K : PySem.W.Frag} {a : Addr} {o : Obj} {kvs : List (Key × V)} : SrcAt K T (Itk a o kvs) ((kvs.map (·.1)).map kD) fun H ρ => H a = some (.frz o (.dK kvs)) where
  keep := fun H ρ H' ρ' r x => x.frz a o _ r
  go := fun H ρ h i x r hw hx => by
    rw [List.getElem?_map, List.getElem?_map] at hx
    cases e : kvs[i]? with
    | none => rw [e] at hx; cases hx
    | some p =>
      rw [e] at hx
      cases hx
      refine ⟨⟨r, (List.getElem?_eq_some_iff.mp e).1⟩, fun u H' y => ?_⟩
      obtain ⟨rfl, k, v, e2, rfl⟩ := y
      rw [e] at e2
      cases e2
      exact ⟨Ext.refl _ _, hw, kD_rel k⟩
  stop := fun H ρ i r hl => ⟨r, by rw [List.length_map, List.length_map] at hl; exact hl⟩
theorem den_src {e : Expr} {m : M} (h : PE X e (tI X.K T W m)) : PI X tg e (tG X.K T W (SrcRel X.K T) (mSrc m)) := by
  refine PI.imp (pi_seqA h) fun σ H R ⟨ρ, env, h, hw, he, p⟩ => ?_
  unfold mSrc at p
  refine bindI hw he p fun H1 ρ1 d h1 v x1 w1 e1 r1 p1 => ?_
  cases es : srcD d h1 with
  | none => simp only [es] at p1; exact p1.elim
  | some s =>
    simp only [es] at p1
    cases d with
    | lst xs =>
      cases es
      have r2 := r1
      unfold RelD at r2
      obtain ⟨a, vs, rfl, eH, na, rs⟩ := r2
      refine ⟨a, rfl, .inl ⟨⟨vs, .inl (.inl eH)⟩, now p1 w1 ⟨_, r1, src_list fun H ρ r => ?_⟩⟩⟩
      unfold RelD at r
      obtain ⟨_, vs, e, eH, _, rs⟩ := r
      cases e
      exact ⟨vs, .inl (.inl eH), rs⟩
    | scr xs =>
      cases es
      have r2 := r1
      unfold RelD at r2
      obtain ⟨a, vs, rfl, eH, rs⟩ := r2
      refine ⟨a, rfl, .inl ⟨⟨vs, eH.l⟩, now p1 w1 ⟨_, r1, src_list fun H ρ r => ?_⟩⟩⟩
      unfold RelD at r
      obtain ⟨_, vs, e, eH, rs⟩ := r
      cases e
      exact ⟨vs, eH.l, rs⟩
    | tup xs =>
      cases es
      have r2 := r1
      unfold RelD at r2
      obtain ⟨a, vs, rfl, sq, rs⟩ := r2
      exact ⟨a, rfl, .inr (.inl ⟨⟨vs, sq⟩, now p1 w1 ⟨_, r1, src_tup⟩⟩)⟩
    | dct ks xs =>
      cases es
      unfold RelD at r1
      obtain ⟨a, kvs, rfl, rd, na, ek, rs⟩ := r1
      subst ek
      refine ⟨a, rfl, .inr (.inr ⟨kvs, ?_⟩)⟩
      rcases rd with rd | ⟨o, rd⟩
      · exact .inr ⟨rd, fun o => p1 _ ρ1 _ (Ext.lock rd) (w1.lock rd na) ⟨_, upd_same, src_keys⟩⟩
      · exact .inl ⟨o, rd, now p1 w1 ⟨_, rd, src_keys⟩⟩
    | ref n =>
      unfold srcD at es
      dsimp only at es
      split at es
      · rename_i xs en
        cases es
        unfold RelD at r1
        obtain ⟨a, rfl, ha⟩ := r1
        obtain ⟨vs, eH, rs⟩ := w1.at_ n _ a en ha
        exact ⟨a, rfl, .inl ⟨⟨vs, .inl (.inl eH)⟩, now p1 w1 ⟨a, ha, rfl⟩⟩⟩
      · cases es
    | _ => cases es
/-! range -/
def mRng1 (ms : Ms) : MI := fun env h => (ms env h).bind fun ds h1 => match ds with
  | [.int j] => if rngOk j then .ok (.fix (rngD 0 j)) h1 else .bad
  | _ => .bad
def mRng2 (ms : Ms) : MI := fun env h => (ms env h).bind fun ds h1 => match ds with
  | [.int i, .int j] => if rngOk i && rngOk j then .ok (.fix (rngD i j)) h1 else .bad
  | _ => .bad
theorem rng_get {i j : Int} {k : Nat} {x : D} (e : (rngD i j)[k]? = some x) : k < (j - i).toNat ∧ x = .int (i + k) := by
  unfold rngD at e
  rw [List.getElem?_map] at e
  by_cases hk : k < (j - i).toNat
  · rw [List.getElem?_range hk] at e
    cases e
    exact ⟨hk, rfl⟩
  · rw [List.getElem?_eq_none (by rw [List.length_range]; exact Nat.le_of_not_lt hk)] at e
    cases e
theorem src_rng {K : PySem.W.Frag} {i j : Int} : SrcAt K T (Itr i (j - i).toNat) (rngD i j) fun _ _ => True where
  keep := fun _ _ _ _ _ _ => trivial
  go := fun H ρ h k x _ hw hx => by
    obtain ⟨hk, rfl⟩ := rng_get hx
    exact ⟨hk, fun u H' y => by
      obtain ⟨rfl, rfl⟩ := y
      exact ⟨Ext.refl _ _, hw, by unfold RelD; rfl⟩⟩
  stop := fun _ _ k _ hl => by
    unfold rngD at hl
    rw [List.length_map, List.length_range] at hl
    exact hl
theorem rngOk_iff {i : Int} (h : rngOk i = true) : -(2 ^ 62) ≤ i ∧ i < 2 ^ 62 := by
  unfold rngOk at h
  rw [Bool.and_eq_true] at h
  have h1 := of_decide_eq_true h.1
  have h2 := of_decide_eq_true h.2
  constructor <;> omega
theorem den_rng1 {a : Expr} {ms : Ms} {p pos : Pos} (hg : Gl X "range") (hm : X.mg "range" = none) (ha : PA X [a] (tIs X.K T W ms)) (hs : starEach [a] X.env = [(false, eval a X.env)]) : PI X tg (.Call (.Name "range" p) [a] [] pos) (tG X.K T W (SrcRel X.K T) (mRng1 ms)) := by
  refine PI.imp (pi_range1 hg hm ha hs) fun σ H R ⟨ρ, env, h, hw, he, p⟩ => ?_
  unfold mRng1 at p
  refine bindI hw he p fun H1 ρ1 ds h1 vs x1 w1 e1 r1 p1 => ?_
  have hl := RelDs.len r1
  split at p1
  · rename_i j
    unfold RelDs at r1
    obtain ⟨v, r, rfl, q1, r1⟩ := r1
    unfold RelDs at r1
    subst r1
    split at p1
    · rename_i hr
      obtain ⟨b1, b2⟩ := rngOk_iff hr
      rw [relInt q1]
      refine ⟨j, rfl, b1, b2, ?_⟩
      have q := now p1 w1 (v := Itr 0 (j - 0).toNat) ⟨_, trivial, src_rng⟩
      rw [Int.sub_zero] at q
      exact q
    · exact p1.elim
  · exact p1.elim
theorem den_rng2 {a b : Expr} {ms : Ms} {p pos : Pos} (hg : Gl X "range") (hm : X.mg "range" = none) (ha : PA X [a, b] (tIs X.K T W ms)) (hs : starEach [a, b] X.env = [(false, eval a X.env), (false, eval b X.env)]) (hs2 : starEach [b] X.env = [(false, eval b X.env)]) :
    PI X tg (.Call (.Name "range" p) [a, b] [] pos) (tG X.K T W (SrcRel X.K T) (mRng2 ms)) := by
  refine PI.imp (pi_range2 hg hm ha hs hs2) fun σ H R ⟨ρ, env, h, hw, he, p⟩ => ?_
  unfold mRng2 at p
  refine bindI hw he p fun H1 ρ1 ds h1 vs x1 w1 e1 r1 p1 => ?_
  split at p1
  · rename_i i j
    unfold RelDs at r1
    obtain ⟨v, r, rfl, q1, r1⟩ := r1
    unfold RelDs at r1
    obtain ⟨w, r, rfl, q2, r1⟩ := r1
    unfold RelDs at r1
    subst r1
    split at p1
    · rename_i hr
      rw [Bool.and_eq_true] at hr
      obtain ⟨b1, b2⟩ := rngOk_iff hr.1
      obtain ⟨b3, b4⟩ := rngOk_iff hr.2
      rw [relInt q1, relInt q2]
      exact ⟨i, j, rfl, ⟨b1, b2, b3, b4⟩, now p1 w1 (v := Itr i (j - i).toNat) ⟨_, trivial, src_rng⟩⟩
    · exact p1.elim
  · exact p1.elim
/-! reversed, zip -/
def seqD (d : D) : Option (Bool × List D) := match d with
  | .lst xs => some (false, xs)
  | .scr xs => some (false, xs)
  | .tup xs => some (true, xs)
  | _ => none
theorem seq_rel {K : PySem.W.Frag} {d : D} {b : Bool} {xs : List D} {H : Hp} {ρ : List Addr} {v : V} (e : seqD d = some (b, xs)) (r : RelD K T H ρ d v) : ∃ a vs, v = .ref a ∧ RelDs K T H ρ xs vs ∧ (if b = true then SqT K H a vs else SqL K H a vs) := by
  cases d with
  | lst ys => cases e; unfold RelD at r; obtain ⟨a, vs, rfl, eH, _, rs⟩ := r; exact ⟨a, vs, rfl, rs, .inl (.inl eH)⟩
  | scr ys => cases e; unfold RelD at r; obtain ⟨a, vs, rfl, eH, rs⟩ := r; exact ⟨a, vs, rfl, rs, eH.l⟩
  | tup ys => cases e; unfold RelD at r; obtain ⟨a, vs, rfl, sq, rs⟩ := r; exact ⟨a, vs, rfl, rs, sq⟩
  | _ => cases e
def mRevI (m : M) : MI := fun env h => (m env h).bind fun d h1 => match seqD d with
  | some (_, xs) => .ok (.fix xs.reverse) h1
  | none => .bad
theorem rev_get {α : Type} {xs : List α} {i : Nat} {x : α} (e : xs.reverse[i]? = some x) : i < xs.length ∧ xs[xs.length - 1 - i]? = some x := by
  have hl : i < xs.length := by
    have := (List.getElem?_eq_some_iff.mp e).1
    rwa [List.length_reverse] at this
  rw [List.getElem?_reverse hl] at e
  exact ⟨hl, e⟩
theorem src_revL {K : PySem.W.Frag} {d : D} {xs : List D} {a : Addr} (hd : seqD d = some (false, xs)) : SrcAt K T (Itv K a xs.length) xs.reverse fun H ρ => RelD K T H ρ d (.ref a) where
  keep := fun H ρ H' ρ' r x => r.mono x
  go := fun H ρ h i x r hw hx => by
    obtain ⟨_, vs, e, rs, sq⟩ := seq_rel hd r
    cases e
    obtain ⟨hl, hx⟩ := rev_get hx
    obtain ⟨v, ev, rv⟩ := RelDs.get rs hx
    exact ⟨⟨hl, vs, v, sq, ev⟩, fun u H' y => by
      obtain ⟨rfl, y⟩ := y
      have e := y vs sq
      rw [ev] at e
      cases e
      exact ⟨Ext.refl _ _, hw, rv⟩⟩
  stop := fun H ρ i r hl => by rw [List.length_reverse] at hl; exact hl
theorem src_revT {K : PySem.W.Frag} {d : D} {xs : List D} {a : Addr} (hd : seqD d = some (true, xs)) : SrcAt K T (RT.ItvT K a xs.length) xs.reverse fun H ρ => RelD K T H ρ d (.ref a) where
  keep := fun H ρ H' ρ' r x => r.mono x
  go := fun H ρ h i x r hw hx => by
    obtain ⟨_, vs, e, rs, sq⟩ := seq_rel hd r
    cases e
    obtain ⟨hl, hx⟩ := rev_get hx
    obtain ⟨v, ev, rv⟩ := RelDs.get rs hx
    exact ⟨⟨hl, vs, v, sq, ev⟩, fun u H' y => by
      obtain ⟨rfl, y⟩ := y
      have e := y vs sq
      rw [ev] at e
      cases e
      exact ⟨Ext.refl _ _, hw, rv⟩⟩
  stop := fun H ρ i r hl => by rw [List.length_reverse] at hl; exact hl
theorem den_revI {e : Expr} {m : M} {p pos : Pos} (hg : Gl X "reversed") (hm : X.mg "reversed" = none) (h : PE X e (tI X.K T W m)) (hs : starEach [e] X.env = (false, eval e X.env) :: starEach [] X.env) : PI X tg (.Call (.Name "reversed" p) [e] [] pos) (tG X.K T W (SrcRel X.K T) (mRevI m)) := by
  refine PI.imp (RT.pi_revA hg hm h hs) fun σ H R ⟨ρ, env, h, hw, he, p⟩ => ?_
  unfold mRevI at p
  refine bindI hw he p fun H1 ρ1 d h1 v x1 w1 e1 r1 p1 => ?_
  split at p1
  · rename_i b xs es
    obtain ⟨a, vs, rfl, rs, sq⟩ := seq_rel es r1
    cases b with
    | false => exact ⟨a, vs, rfl, .inl ⟨sq, by rw [← RelDs.len rs]; exact now p1 w1 ⟨_, r1, src_revL es⟩⟩⟩
    | true => exact ⟨a, vs, rfl, .inr ⟨sq, by rw [← RelDs.len rs]; exact now p1 w1 ⟨_, r1, src_revT es⟩⟩⟩
  · exact p1.elim
def mZip (ms : Ms) : MI := fun env h => (ms env h).bind fun ds h1 => match ds with
  | [x, y] => match seqD x, seqD y with
    | some (b, xs), some (c, ys) => if b = c then .ok (.fix (zipD xs ys)) h1 else .bad
    | _, _ => .bad
  | _ => .bad
theorem zip_get : ∀ (xs ys : List D) (i : Nat) (z : D), (zipD xs ys)[i]? = some z → ∃ x y, xs[i]? = some x ∧ ys[i]? = some y ∧ z = .tup [x, y] := by
  intro xs
  induction xs with
  | nil => intro ys i z e; simp [zipD] at e
  | cons x xs ih =>
    intro ys i z e
    cases ys with
    | nil => simp [zipD] at e
    | cons y ys =>
      unfold zipD at e
      cases i with
      | zero => cases e; exact ⟨x, y, rfl, rfl, rfl⟩
      | succ i =>
        rw [List.getElem?_cons_succ] at e
        obtain ⟨u, v, h1, h2, h3⟩ := ih ys i z e
        exact ⟨u, v, by rw [List.getElem?_cons_succ]; exact h1, by rw [List.getElem?_cons_succ]; exact h2, h3⟩
theorem zip_len : ∀ xs ys : List D, (zipD xs ys).length = min xs.length ys.length
  | [], _ => by simp [zipD]
  | _ :: _, [] => by simp [zipD]
  | x :: xs, y :: ys => by unfold zipD; simp only [List.length_cons]; rw [zip_len xs ys]; omega
theorem pair_new {K : PySem.W.Frag} {H : Hp} {ρ : List Addr} {h : Hs} {x y : D} {u v : V} {p : Addr} (hw : RelH K T H ρ h) (hp : H p = none) (r1 : RelD K T H ρ x u) (r2 : RelD K T H ρ y v) : Ext H ρ (upd H p (.tup [u, v])) ρ ∧ RelH K T (upd H p (.tup [u, v])) ρ h ∧ RelD K T (upd H p (.tup [u, v])) ρ (.tup [x, y]) (.ref p) := by
  have xn : Ext H ρ (upd H p (.tup [u, v])) ρ := Ext.new hp
  refine ⟨xn, hw.new hp, ?_⟩
  unfold RelD
  refine ⟨p, [u, v], rfl, .inl (.inl upd_same), ?_⟩
  unfold RelDs
  refine ⟨u, [v], rfl, r1.mono xn, ?_⟩
  unfold RelDs
  exact ⟨v, [], rfl, r2.mono xn, by unfold RelDs; rfl⟩
theorem src_zip {K : PySem.W.Frag} {J : It} {c : Bool} {x y : D} {xs ys : List D} {a b : Addr} (hx : seqD x = some (c, xs)) (hy : seqD y = some (c, ys)) (hJ : J = if c = true then RZ.ItzT K a b else Itz K a b) : SrcAt K T J (zipD xs ys) fun H ρ => RelD K T H ρ x (.ref a) ∧ RelD K T H ρ y (.ref b) where
  keep := fun H ρ H' ρ' r e => ⟨r.1.mono e, r.2.mono e⟩
  go := fun H ρ h i z r hw hz => by
    obtain ⟨_, us, e, ru, su⟩ := seq_rel hx r.1
    cases e
    obtain ⟨_, vs, e, rv, sv⟩ := seq_rel hy r.2
    cases e
    obtain ⟨d, d', g1, g2, rfl⟩ := zip_get _ _ _ _ hz
    obtain ⟨u, eu, qu⟩ := RelDs.get ru g1
    obtain ⟨v, ev, qv⟩ := RelDs.get rv g2
    subst hJ
    cases c with
    | true =>
      exact ⟨⟨us, vs, u, v, su, sv, eu, ev⟩, fun w H' q => by
        obtain ⟨p, u', v', rfl, np, rfl, f1, f2⟩ := q
        have e1 := f1 us su
        have e2 := f2 vs sv
        rw [eu] at e1
        rw [ev] at e2
        cases e1
        cases e2
        exact pair_new hw np qu qv⟩
    | false =>
      exact ⟨⟨us, vs, u, v, su, sv, eu, ev⟩, fun w H' q => by
        obtain ⟨p, u', v', rfl, np, rfl, f1, f2⟩ := q
        have e1 := f1 us su
        have e2 := f2 vs sv
        rw [eu] at e1
        rw [ev] at e2
        cases e1
        cases e2
        exact pair_new hw np qu qv⟩
  stop := fun H ρ i r hl => by
    obtain ⟨_, us, e, ru, su⟩ := seq_rel hx r.1
    cases e
    obtain ⟨_, vs, e, rv, sv⟩ := seq_rel hy r.2
    cases e
    rw [zip_len] at hl
    have l1 := RelDs.len ru
    have l2 := RelDs.len rv
    subst hJ
    cases c with
    | true => exact ⟨us, vs, su, sv, by omega⟩
    | false => exact ⟨us, vs, su, sv, by omega⟩
theorem den_zip {e e2 : Expr} {ms : Ms} {p pos tpos : Pos} {elts : List Expr} {kk : Nat} (hg : Gl X "zip") (hm : X.mg "zip" = none) (ha : PA X [e, e2] (tIs X.K T W ms)) (hs : starEach [e, e2] X.env = (false, eval e X.env) :: starEach [e2] X.env) (hpl : (backTo pos (starEach [e2] X.env)).any (·.1) = false) :
    PI X (.Tuple elts kk tpos) (.Call (.Name "zip" p) [e, e2] [] pos) (tG X.K T W (SrcRel X.K T) (mZip ms)) := by
  refine PI.imp (RZ.pi_zipA hg hm ha hs hpl) fun σ H R ⟨ρ, env, h, hw, he, p⟩ => ?_
  unfold mZip at p
  refine bindI hw he p fun H1 ρ1 ds h1 vs x1 w1 e1 r1 p1 => ?_
  split at p1
  · rename_i x y
    unfold RelDs at r1
    obtain ⟨v, r, rfl, q1, r1⟩ := r1
    unfold RelDs at r1
    obtain ⟨w, r, rfl, q2, r1⟩ := r1
    unfold RelDs at r1
    subst r1
    split at p1
    · rename_i b xs c ys ex ey
      split at p1
      · rename_i hbc
        subst hbc
        obtain ⟨a, us, rfl, ru, su⟩ := seq_rel ex q1
        obtain ⟨a2, vs, rfl, rv, sv⟩ := seq_rel ey q2
        refine ⟨a, a2, us, vs, rfl, ?_⟩
        cases b with
        | true => exact .inr ⟨su, sv, now p1 w1 ⟨_, ⟨q1, q2⟩, src_zip ex ey rfl⟩⟩
        | false => exact .inl ⟨su, sv, now p1 w1 ⟨_, ⟨q1, q2⟩, src_zip ex ey rfl⟩⟩
      · exact p1.elim
    · exact p1.elim
  · exact p1.elim
end
end Iv

set_option maxRecDepth 100000
namespace Iv
open PySem PySem.Spec PyProof.Rows L2
section
variable {X : Cx} {T : Tb} {W : WX}
/-! methods of a list that the program changes -/
inductive LM where
  | append | extend | pop | popAt | clear | rev
  deriving DecidableEq
def intAt (n : Nat) (i : Int) : Option Nat := ixN n i
def appendF (xs ds : List D) (_ : Hs) : Option (D × List D) := match ds with
  | [y] => if xs.length < most then some (.non, xs ++ [y]) else none
  | _ => none
def extendF (xs ds : List D) (h : Hs) : Option (D × List D) := match ds with
  | [d] => match look h d with
    | .lst ys => if xs.length + ys.length ≤ most then some (.non, xs ++ ys) else none
    | _ => none
  | _ => none
def popF (xs ds : List D) (_ : Hs) : Option (D × List D) := match ds with
  | [] => match xs[xs.length - 1]? with
    | some y => some (y, xs.dropLast)
    | none => none
  | _ => none
def popAtF (xs ds : List D) (_ : Hs) : Option (D × List D) := match ds with
  | [.int i] => match ixN xs.length i with
    | some k => match xs[k]? with
      | some y => if xs.length ≤ most then some (y, xs.eraseIdx k) else none
      | none => none
    | none => none
  | _ => none
def clearF (_ ds : List D) (_ : Hs) : Option (D × List D) := match ds with
  | [] => some (.non, [])
  | _ => none
def revF (xs ds : List D) (_ : Hs) : Option (D × List D) := match ds with
  | [] => some (.non, xs.reverse)
  | _ => none
def lmF : LM → List D → List D → Hs → Option (D × List D)
  | .append => appendF
  | .extend => extendF
  | .pop => popF
  | .popAt => popAtF
  | .clear => clearF
  | .rev => revF
def lmD (b : LM) (x : D) (ds : List D) (h : Hs) : R D := match x with
  | .ref n => match h[n]? with
    | some (.lst xs) => match lmF b xs ds h with
      | some (r, ys) => .ok r (h.set n (.lst ys))
      | none => .bad
    | _ => .bad
  | _ => .bad
def isL (x : D) (h : Hs) : Bool := match x with
  | .ref n => match h[n]? with
    | some (.lst _) => true
    | _ => false
  | _ => false
def mLM (b : LM) (mo : M) (ms : Ms) : M := fun env h => (mo env h).bind fun x h1 => if isL x h1 then (ms env h1).bind fun ds h2 => lmD b x ds h2 else .bad
def LmSound (X : Cx) (T : Tb) (b : LM) (r : V → List V → Hp → VK → Prop) : Prop := ∀ (H : Hp) (ρ : List Addr) (h : Hs) (n : Nat) (a : Addr) (xs ds ys : List D) (vs us : List V) (d : D) (Q : VK),
  RelH X.K T H ρ h → ρ[n]? = some a → h[n]? = some (.lst xs) → H a = some (.lst vs) → RelDs X.K T H ρ xs vs → RelDs X.K T H ρ ds us → lmF b xs ds h = some (d, ys) →
    (∀ w ws, RelD X.K T H ρ d w → RelDs X.K T H ρ ys ws → Q w (upd H a (.lst ws))) → r (.ref a) us H Q
theorem isL_rel {K : PySem.W.Frag} {H : Hp} {ρ : List Addr} {h : Hs} {x : D} {v : V} (hw : RelH K T H ρ h) (r : RelD K T H ρ x v) (e : isL x h = true) : tyV K "list" v H := by
  unfold isL at e
  split at e
  · split at e
    · rename_i xs en
      unfold RelD at r
      obtain ⟨a, rfl, ha⟩ := r
      obtain ⟨vs, eH, rs⟩ := hw.at_ _ _ a en ha
      exact .inl ⟨rfl, vs, .inl (.inl eH)⟩
    · cases e
  · cases e
theorem lm_post {b : LM} {r : V → List V → Hp → VK → Prop} (hs : LmSound X T b r) {H : Hp} {ρ : List Addr} {h : Hs} {x : D} {ds : List D} {v : V} {us : List V} {Q : VK} {Wx : Value → Option Addr → Hp → Prop} (hw : RelH X.K T H ρ h) (rx : RelD X.K T H ρ x v) (rs : RelDs X.K T H ρ ds us)
    (p : PostV X.K T (RelD X.K T) H ρ (lmD b x ds h) Q Wx) : r v us H Q := by
  unfold lmD at p
  split at p
  · rename_i n
    split at p
    · rename_i xs en
      split at p
      · rename_i d ys ef
        unfold RelD at rx
        obtain ⟨a, rfl, ha⟩ := rx
        obtain ⟨vs, eH, rv⟩ := hw.at_ _ _ a en ha
        refine hs H ρ h n a xs ds ys vs us d Q hw ha en eH rv rs ef fun w ws rw' rws => ?_
        have xp : Ext H ρ (upd H a (.lst ws)) ρ := Ext.put hw (List.mem_of_getElem? ha)
        exact p _ ρ w xp (hw.put ha ⟨ws, upd_same, rws.mono xp⟩) (rw'.mono xp)
      · exact p.elim
    · exact p.elim
  · exact p.elim
theorem RelDs.one {K : PySem.W.Frag} {H : Hp} {ρ : List Addr} {d : D} {us : List V} (r : RelDs K T H ρ [d] us) : ∃ v, us = [v] ∧ RelD K T H ρ d v := by
  unfold RelDs at r
  obtain ⟨v, s, rfl, q, r⟩ := r
  unfold RelDs at r
  subst r
  exact ⟨v, rfl, q⟩
theorem RelDs.nil' {K : PySem.W.Frag} {H : Hp} {ρ : List Addr} {us : List V} (r : RelDs K T H ρ [] us) : us = [] := by unfold RelDs at r; exact r
theorem RelDs.mk1 {K : PySem.W.Frag} {H : Hp} {ρ : List Addr} {d : D} {v : V} (q : RelD K T H ρ d v) : RelDs K T H ρ [d] [v] := by unfold RelDs; exact ⟨v, [], rfl, q, by unfold RelDs; rfl⟩
theorem RelDs.rev {K : PySem.W.Frag} {H : Hp} {ρ : List Addr} : ∀ {ds : List D} {vs : List V}, RelDs K T H ρ ds vs → RelDs K T H ρ ds.reverse vs.reverse := by
  intro ds
  induction ds with
  | nil => intro vs r; rw [r.nil']; unfold RelDs; rfl
  | cons d ds ih =>
    intro vs r
    unfold RelDs at r
    obtain ⟨v, s, rfl, q, r⟩ := r
    rw [List.reverse_cons, List.reverse_cons]
    exact (ih r).app (RelDs.mk1 q)
theorem RelDs.erase {K : PySem.W.Frag} {H : Hp} {ρ : List Addr} {ds : List D} {vs : List V} (k : Nat) (r : RelDs K T H ρ ds vs) : RelDs K T H ρ (ds.eraseIdx k) (vs.eraseIdx k) := by
  rw [List.eraseIdx_eq_take_drop_succ, List.eraseIdx_eq_take_drop_succ]
  exact (r.take k).app (r.drop (k + 1))
theorem most_le : most ≤ sizeLine := by unfold most; rw [sizeLine_eq]; decide
theorem ls_append : LmSound X T .append rAppend := fun H ρ h n a xs ds ys vs us d Q hw ha en eH rx rs e q => by
  replace e : appendF xs ds h = some (d, ys) := e
  unfold appendF at e
  split at e
  · split at e
    · rename_i hl
      cases e
      obtain ⟨u, rfl, ru⟩ := rs.one
      exact ⟨a, vs, u, rfl, rfl, eH, by rw [← RelDs.len rx]; exact Nat.lt_of_lt_of_le hl most_le, q .non _ (by unfold RelD; rfl) (rx.app (RelDs.mk1 ru))⟩
    · cases e
  · cases e
theorem ls_extend : LmSound X T .extend rExtend := fun H ρ h n a xs ds ys vs us d Q hw ha en eH rx rs e q => by
  replace e : extendF xs ds h = some (d, ys) := e
  unfold extendF at e
  split at e
  · split at e
    · rename_i zs el
      split at e
      · rename_i hl
        cases e
        obtain ⟨u, rfl, ru⟩ := rs.one
        obtain ⟨b, ws, rfl, eb, rb⟩ := look_lst hw el ru
        exact ⟨a, b, vs, ws, rfl, rfl, eH, eb, by rw [← RelDs.len rx, ← RelDs.len rb]; exact Nat.le_trans hl most_le, q .non _ (by unfold RelD; rfl) (rx.app rb)⟩
      · cases e
    · cases e
  · cases e
theorem RelDs.last {K : PySem.W.Frag} {H : Hp} {ρ : List Addr} {ds : List D} {vs : List V} (r : RelDs K T H ρ ds vs) : RelDs K T H ρ ds.dropLast vs.dropLast := by
  rw [List.dropLast_eq_take, List.dropLast_eq_take, ← RelDs.len r]
  exact r.take _
theorem ls_pop : LmSound X T .pop rPop := fun H ρ h n a xs ds ys vs us d Q hw ha en eH rx rs e q => by
  replace e : popF xs ds h = some (d, ys) := e
  unfold popF at e
  split at e
  · split at e
    · rename_i y ey
      cases e
      obtain ⟨v, ev, rv⟩ := RelDs.get rx ey
      exact ⟨a, vs, v, rfl, rs.nil', eH, by rw [← RelDs.len rx]; exact ev, q v _ rv rx.last⟩
    · cases e
  · cases e
theorem ixN_lt {n : Nat} {i : Int} {k : Nat} (h : ixN n i = some k) (hn : n ≤ most) : -(2 ^ 63) ≤ i ∧ i < 2 ^ 63 := by
  obtain ⟨_, _, h3, h4⟩ := ixN_seq h
  unfold most at hn
  constructor <;> omega
theorem ls_popAt : LmSound X T .popAt rPopAt := fun H ρ h n a xs ds ys vs us d Q hw ha en eH rx rs e q => by
  replace e : popAtF xs ds h = some (d, ys) := e
  unfold popAtF at e
  split at e
  · rename_i i
    split at e
    · rename_i k ek
      split at e
      · rename_i y ey
        split at e
        · rename_i hl
          cases e
          obtain ⟨u, rfl, ru⟩ := rs.one
          rw [relInt ru]
          obtain ⟨v, ev, rv⟩ := RelDs.get rx ey
          obtain ⟨b1, b2⟩ := ixN_lt ek hl
          exact ⟨a, vs, i, k, v, rfl, rfl, eH, b1, b2, by rw [← RelDs.len rx]; exact (ixN_seq ek).1, ev, q v _ rv (rx.erase k)⟩
        · cases e
      · cases e
    · cases e
  · cases e
theorem ls_clear : LmSound X T .clear rClear := fun H ρ h n a xs ds ys vs us d Q hw ha en eH rx rs e q => by
  replace e : clearF xs ds h = some (d, ys) := e
  unfold clearF at e
  split at e
  · cases e
    exact ⟨a, vs, rfl, rs.nil', eH, q .non _ (by unfold RelD; rfl) (by unfold RelDs; rfl)⟩
  · cases e
theorem ls_rev : LmSound X T .rev rReverse := fun H ρ h n a xs ds ys vs us d Q hw ha en eH rx rs e q => by
  replace e : revF xs ds h = some (d, ys) := e
  unfold revF at e
  split at e
  · cases e
    exact ⟨a, vs, rfl, rs.nil', eH, q .non _ (by unfold RelD; rfl) rx.rev⟩
  · cases e
def lmName : LM → Str
  | .append => "append"
  | .extend => "extend"
  | .pop => "pop"
  | .popAt => "pop"
  | .clear => "clear"
  | .rev => "reverse"
theorem den_lm0 {b : LM} (hb : b = .pop ∨ b = .clear ∨ b = .rev) {o : Expr} {mo : M} {apos cpos : Pos} (ho : PE X o (tI X.K T W mo)) (hbase : attributeBase o (lmName b) X.env (eval o X.env) = eval o X.env) (hline : (apos.endLine == cpos.line) = true) :
    PE X (.Call (.Attribute o (lmName b) apos) [] [] cpos) (tI X.K T W (mLM b mo mNil)) := by
  have go : ∀ {r : V → List V → Hp → VK → Prop} {id : String} (slot : PySem.Slot "list" (lmName b) id) (ty : typeOf (.builtin id) = pure (.type "method_descriptor")), MtR X id r → LmSound X T b r → PE X (.Call (.Attribute o (lmName b) apos) [] [] cpos) (tI X.K T W (mLM b mo mNil)) := by
    intro r id slot ty mt ls
    refine PE.imp (pe_bm0 PySem.F.plainAttrs_list slot ty mt ho hbase hline) fun σ H Q ⟨ρ, env, h, hw, he, p⟩ => ?_
    unfold mLM at p
    refine bindI hw he p fun H1 ρ1 x h1 v x1 w1 e1 r1 p1 => ?_
    split at p1
    · rename_i hl
      exact ⟨isL_rel w1 r1 hl, lm_post ls w1 r1 (by unfold RelDs; rfl) p1⟩
    · exact p1.elim
  rcases hb with rfl | rfl | rfl
  · exact go PySem.F.slot_list_pop PySem.F.type_list_pop mt_pop ls_pop
  · exact go PySem.F.slot_list_clear PySem.F.type_list_clear mt_clear ls_clear
  · exact go PySem.F.slot_list_reverse PySem.F.type_list_reverse mt_reverse ls_rev
theorem den_lm1 {b : LM} (hb : b = .append ∨ b = .extend ∨ b = .popAt) {o e : Expr} {mo : M} {ms : Ms} {apos cpos : Pos} (ho : PE X o (tI X.K T W mo)) (ha : PA X [e] (tIs X.K T W ms)) (hbase : attributeBase o (lmName b) X.env (eval o X.env) = eval o X.env)
    (hfew : ((backTo cpos (starEach [e] X.env)).all (fun x => !x.1) && (backToKw cpos (keywordEach [] X.env)).all (fun x => x.1.isSome) && decide (([e] : List Expr).length + ([] : List Keyword).length + (if ([] : List Keyword).isEmpty then 0 else 1) < 30)) = true)
    (hline : (apos.endLine == cpos.line) = true) (hs : starEach [e] X.env = (false, eval e X.env) :: starEach [] X.env) (hplain : (backTo cpos (starEach [] X.env)).any (·.1) = false) :
    PE X (.Call (.Attribute o (lmName b) apos) [e] [] cpos) (tI X.K T W (mLM b mo ms)) := by
  have go : ∀ {r : V → List V → Hp → VK → Prop} {id : String} (slot : PySem.Slot "list" (lmName b) id) (ty : typeOf (.builtin id) = pure (.type "method_descriptor")), MtR X id r → LmSound X T b r → PE X (.Call (.Attribute o (lmName b) apos) [e] [] cpos) (tI X.K T W (mLM b mo ms)) := by
    intro r id slot ty mt ls
    refine PE.imp (pe_bm PySem.F.plainAttrs_list slot ty mt ho ha hbase hfew hline hs hplain) fun σ H Q ⟨ρ, env, h, hw, he, p⟩ => ?_
    unfold mLM at p
    refine bindI hw he p fun H1 ρ1 x h1 v x1 w1 e1 r1 p1 => ?_
    split at p1
    · rename_i hl
      refine ⟨isL_rel w1 r1 hl, bindI w1 e1 p1 fun H2 ρ2 ds h2 us x2 w2 e2 r2 p2 => ?_⟩
      exact lm_post ls w2 (r1.mono x2) r2 p2
    · exact p1.elim
  rcases hb with rfl | rfl | rfl
  · exact go PySem.F.slot_list_append PySem.F.type_list_append mt_append ls_append
  · exact go PySem.F.slot_list_extend PySem.F.type_list_extend mt_extend ls_extend
  · exact go PySem.F.slot_list_pop PySem.F.type_list_pop mt_popAt ls_popAt
end
end Iv

set_option maxRecDepth 100000
namespace Iv
open PySem PySem.Spec PyProof.Rows L2
/-! dicts that are written -/
def replD {κ : Type} [DecidableEq κ] : List κ → List D → κ → D → List D
  | k :: ks, v :: vs, x, y => (if k = x then y else v) :: replD ks vs x y
  | _, vs, _, _ => vs
def putD {κ : Type} [DecidableEq κ] (ks : List κ) (vs : List D) (x : κ) (y : D) : List κ × List D := if (ks.any fun k => decide (k = x)) = true then (ks, replD ks vs x y) else (ks ++ [x], vs ++ [y])
section
variable {K : PySem.W.Frag} {T : Tb} {H : Hp} {ρ : List Addr}
theorem putD_rel {κ : Type} [DecidableEq κ] {kvs : List (κ × V)} {vs : List D} {x : κ} {y : D} {w : V} (r : RelDs K T H ρ vs (kvs.map (·.2))) (ry : RelD K T H ρ y w) :
    (L2.putK kvs x w).map (·.1) = (putD (kvs.map (·.1)) vs x y).1 ∧ RelDs K T H ρ (putD (kvs.map (·.1)) vs x y).2 ((L2.putK kvs x w).map (·.2)) := by
  unfold L2.putK putD
  rw [List.any_map]
  have ea : (kvs.any ((fun k => decide (k = x)) ∘ fun p : κ × V => p.1)) = (kvs.any fun kv => decide (kv.1 = x)) := rfl
  rw [ea]
  by_cases hc : (kvs.any fun kv => decide (kv.1 = x)) = true
  · rw [if_pos hc, if_pos hc]
    clear hc ea
    constructor
    · rw [List.map_map]
      apply List.map_congr_left
      intro p _
      show (if p.1 = x then (p.1, w) else p).1 = p.1
      split <;> rfl
    · show RelDs K T H ρ (replD (kvs.map (·.1)) vs x y) _
      induction kvs generalizing vs with
      | nil => exact r
      | cons p kvs ih =>
        cases vs with
        | nil =>
          unfold RelDs at r
          cases r
        | cons d vs =>
          rw [List.map_cons] at r
          unfold RelDs at r
          obtain ⟨v, s, e, q, r⟩ := r
          cases e
          rw [List.map_cons, List.map_cons, List.map_cons]
          unfold replD RelDs
          refine ⟨_, _, rfl, ?_, ih r⟩
          by_cases hp : p.1 = x
          · rw [if_pos hp, if_pos hp]; exact ry
          · rw [if_neg hp, if_neg hp]; exact q
  · rw [if_neg hc, if_neg hc, List.map_append, List.map_append]
    exact ⟨rfl, r.app (RelDs.mk1 ry)⟩
end
def storeD (o i v : D) (h : Hs) : Option Hs := match o with
  | .ref n => match h[n]? with
    | some (.lst xs) => match i with
      | .int k => match ixN xs.length k with
        | some j => some (h.set n (.lst (xs.set j v)))
        | none => none
      | _ => none
    | some (.dic ks vs) => match keyOf i with
      | some k => if ks.length < most then some (h.set n (.dic (putD ks vs k v).1 (putD ks vs k v).2)) else none
      | none => none
    | _ => none
  | _ => none
/-- o[i] = v -/
def sPut (mo mi mv : M) : MS := fun env h => (mv env h).seq env fun v h1 => (mo env h1).seq env fun o h2 => (mi env h2).seq env fun i h3 => match storeD o i v h3 with
  | some h4 => .nx env h4
  | none => .bad
section
variable {X : Cx} {T : Tb} {W : WX}
theorem PSet.or {r r' : TSet} (h : PSet X r) (h' : PSet X r') : PSet X (fun o i v H Q => r o i v H Q ∨ r' o i v H Q) := fun pins s σ H o i v ov iv u Q I ro ri rv q => q.elim (h pins s σ H o i v ov iv u Q I ro ri rv) (h' pins s σ H o i v ov iv u Q I ro ri rv)
theorem RelDs.set {K : PySem.W.Frag} {H : Hp} {ρ : List Addr} {d : D} {v : V} (q : RelD K T H ρ d v) : ∀ {ds : List D} {vs : List V} (j : Nat), RelDs K T H ρ ds vs → RelDs K T H ρ (ds.set j d) (vs.set j v) := by
  intro ds
  induction ds with
  | nil => intro vs j r; rw [r.nil']; unfold RelDs; rfl
  | cons e ds ih =>
    intro vs j r
    unfold RelDs at r
    obtain ⟨w, s, rfl, q1, r⟩ := r
    cases j with
    | zero => show RelDs K T H ρ (d :: ds) (v :: s); unfold RelDs; exact ⟨v, s, rfl, q, r⟩
    | succ j => show RelDs K T H ρ (e :: ds.set j d) (w :: s.set j v); unfold RelDs; exact ⟨w, _, rfl, q1, ih j r⟩
theorem store_post {H : Hp} {ρ : List Addr} {h h4 : Hs} {o i d : D} {a b v : V} {Q : Hp → Prop} (hw : RelH X.K T H ρ h) (ro : RelD X.K T H ρ o a) (ri : RelD X.K T H ρ i b) (rv : RelD X.K T H ρ d v) (e : storeD o i d h = some h4)
    (q : ∀ H', Ext H ρ H' ρ → RelH X.K T H' ρ h4 → Q H') : rSetL a b v H Q ∨ rSetD a b v H Q := by
  unfold storeD at e
  split at e
  · rename_i n
    unfold RelD at ro
    obtain ⟨p, rfl, hp⟩ := ro
    split at e
    · rename_i xs en
      obtain ⟨vs, eH, rs⟩ := hw.at_ _ _ p en hp
      split at e
      · rename_i k
        rw [relInt ri]
        split at e
        · rename_i j ej
          cases e
          refine .inl ⟨p, vs, k, j, rfl, rfl, eH, by rw [← RelDs.len rs]; exact ej, ?_⟩
          have xp : Ext H ρ (upd H p (.lst (vs.set j v))) ρ := Ext.put hw (List.mem_of_getElem? hp)
          exact q _ xp (hw.put hp ⟨_, upd_same, (RelDs.set rv j rs).mono xp⟩)
        · cases e
      · cases e
    · rename_i ks xs en
      obtain ⟨kvs, eH, ek, rs⟩ := hw.at_ _ _ p en hp
      split at e
      · rename_i k ek'
        split at e
        · rename_i hl
          cases e
          subst ek
          have hk := key_rel ek' ri
          rw [hk]
          obtain ⟨e1, r1⟩ := putD_rel (x := k) rs rv
          have xp : Ext H ρ (upd H p (.dK (L2.putK kvs k v))) ρ := Ext.put hw (List.mem_of_getElem? hp)
          refine .inr ⟨p, _, rfl, .inl ⟨kvs, k, eH, rfl, by rw [List.length_map] at hl; exact Nat.lt_of_lt_of_le hl most_le, rfl⟩, q _ xp (hw.put hp ⟨L2.putK kvs k v, upd_same, e1, r1.mono xp⟩)⟩
        · cases e
      · cases e
    · cases e
  · cases e
theorem den_put (hu : X.A.units + 1 < cLine) {o i value : Expr} {mo mi mv : M} {pos pos' : Pos} (hv : PE X value (tI X.K T W mv)) (ho : PE X o (tI X.K T W mo)) (hi : PE X i (tI X.K T W mi))
    (ha : ∀ v, assign (.Subscript o i pos') X.env v = (do
      let ov ← holding [v] (eval o X.env)
      let iv ← holding [v, ov] (eval i X.env)
      standAt pos'
      holding [v, ov, iv] (setItem ov iv v)
      release [v, ov, iv] []))
    (hs : swapsWithSole [.Subscript o i pos'] value pos.line X.env = pure false) (hw : swappedStores [.Subscript o i pos'] value X.env = pure none) (h1 : (assignEach [.Subscript o i pos'] X.env).map (·.2) = [assign (.Subscript o i pos') X.env]) :
    PS X (.Assign [.Subscript o i pos'] value pos) (tIS X.K T W (sPut mo mi mv)) := by
  refine PS.imp (ps_asg hv (pg_sub ho hi (PSet.or set_list (set_dict hu)) ha) hs hw h1) fun Dd σ H ⟨ρ, env, h, hw, he, p⟩ => ?_
  refine bindS hw he p fun H1 ρ1 dv h1 v x1 w1 e1 r1 p1 => ?_
  refine bindS w1 e1 p1 fun H2 ρ2 dO h2 vo x2 w2 e2 r2 p2 => ?_
  refine bindS w2 e2 p2 fun H3 ρ3 dI h3 vi x3 w3 e3 r3 p3 => ?_
  cases es : storeD dO dI dv h3 with
  | none => simp only [es] at p3; exact p3.elim
  | some h4 =>
    simp only [es] at p3
    exact store_post w3 (r2.mono x3) r3 (r1.mono (x2.trans x3)) es fun H' x' w' => p3 H' ρ3 σ x' w' (e3.mono x')
/-! dict displays -/
def mPairs : List (M × M) → Env → Hs → R (List (D × D))
  | [], _, h => .ok [] h
  | (k, v) :: ps, env, h => (k env h).bind fun x h1 => (v env h1).bind fun y h2 => (mPairs ps env h2).bind fun r h3 => .ok ((x, y) :: r) h3
def mergeD : List (D × D) → List Key → List D → Option (List Key × List D)
  | [], ks, vs => some (ks, vs)
  | (x, y) :: r, ks, vs => match keyOf x with
    | some k => mergeD r (putD ks vs k y).1 (putD ks vs k y).2
    | none => none
def finD (m : Bool) (n : Nat) (r : R (List (D × D))) : R D := match r with
  | .ok ps h => match h[n]? with
    | some (.dic [] []) => match mergeD ps [] [] with
      | some (ks, vs) => gcR m n (.ok (.ref n) (h.set n (.dic ks vs)))
      | none => .bad
    | _ => .bad
  | .ex c h => .ex c h
  | .bad => .bad
def mDict (m : Bool) (ps : List (M × M)) : M := fun env h => if ps.length ≤ 15 then finD m h.length (mPairs ps env (h ++ [.dic [] []])) else .bad
def RelPs (K : PySem.W.Frag) (T : Tb) (H : Hp) (ρ : List Addr) (ds : List (D × D)) (vs : List (V × V)) : Prop := RelDs K T H ρ (ds.map (·.1)) (vs.map (·.1)) ∧ RelDs K T H ρ (ds.map (·.2)) (vs.map (·.2)) ∧ ds.length = vs.length
theorem pairs_read {K : PySem.W.Frag} : ∀ {ps : List (M × M)} {σ : Sg} {H : Hp} {Q : List (V × V) → Hp → Prop}, tG K T W (RelPs K T) (mPairs ps) σ H Q → tPairs (ps.map fun p => (tI K T W p.1, tI K T W p.2)) σ H Q := by
  intro ps
  induction ps with
  | nil => intro σ H Q ⟨ρ, env, h, hw, he, p⟩; exact now p hw ⟨by unfold RelDs; rfl, by unfold RelDs; rfl, rfl⟩
  | cons q ps ih =>
    intro σ H Q ⟨ρ, env, h, hw, he, p⟩
    refine bindI hw he p fun H1 ρ1 x h1 v x1 w1 e1 r1 p1 => bindI w1 e1 p1 fun H2 ρ2 y h2 u x2 w2 e2 r2 p2 => ih (bindI w2 e2 p2 fun H3 ρ3 rs h3 vs x3 w3 e3 r3 p3 => ?_)
    obtain ⟨a1, a2, a3⟩ := r3
    refine now p3 w3 ⟨?_, ?_, by rw [List.length_cons, List.length_cons, a3]⟩
    · rw [List.map_cons, List.map_cons]; unfold RelDs; exact ⟨_, _, rfl, (r1.mono x2).mono x3, a1⟩
    · rw [List.map_cons, List.map_cons]; unfold RelDs; exact ⟨_, _, rfl, r2.mono x3, a2⟩
theorem merge_rel {K : PySem.W.Frag} {H : Hp} {ρ : List Addr} : ∀ {ps : List (D × D)} {vs : List (V × V)} {acc : List (Key × V)} {ks : List Key} {ds : List D} {ks' : List Key} {ds' : List D}, RelPs K T H ρ ps vs → acc.map (·.1) = ks → RelDs K T H ρ ds (acc.map (·.2)) → mergeD ps ks ds = some (ks', ds') →
    ∃ kvs : List (Key × V), vs = kvs.map (fun kv => (kV kv.1, kv.2)) ∧ (mergeK acc kvs).map (·.1) = ks' ∧ RelDs K T H ρ ds' ((mergeK acc kvs).map (·.2)) := by
  intro ps
  induction ps with
  | nil =>
    intro vs acc ks ds ks' ds' r e1 e2 e
    cases vs with
    | nil => cases e; exact ⟨[], rfl, e1, e2⟩
    | cons v vs => have := r.2.2; simp at this
  | cons p ps ih =>
    intro vs acc ks ds ks' ds' r e1 e2 e
    cases vs with
    | nil => have := r.2.2; simp at this
    | cons v vs =>
      obtain ⟨a1, a2, a3⟩ := r
      rw [List.map_cons, List.map_cons] at a1 a2
      unfold RelDs at a1 a2
      obtain ⟨_, _, z, b1, a1⟩ := a1
      cases z
      obtain ⟨_, _, z, b2, a2⟩ := a2
      cases z
      unfold mergeD at e
      split at e
      · rename_i k ek
        subst e1
        obtain ⟨g1, g2⟩ := putD_rel (x := k) e2 b2
        obtain ⟨kvs, f1, f2, f3⟩ := ih ⟨a1, a2, by rw [List.length_cons, List.length_cons] at a3; omega⟩ g1 g2 e
        refine ⟨(k, v.2) :: kvs, ?_, f2, f3⟩
        rw [List.map_cons, ← f1]
        have hk := key_rel ek b1
        show v :: vs = (kV k, v.2) :: vs
        rw [← hk]
      · cases e
theorem merge_len : ∀ {ps : List (D × D)} {ks ks' : List Key} {ds ds' : List D}, mergeD ps ks ds = some (ks', ds') → True := fun _ => trivial
theorem mPairs_len : ∀ {ps : List (M × M)} {env : Env} {h : Hs} {r : List (D × D)} {h' : Hs}, mPairs ps env h = .ok r h' → r.length = ps.length := by
  intro ps
  induction ps with
  | nil => intro env h r h' e; cases e; rfl
  | cons p ps ih =>
    intro env h r h' e
    unfold mPairs at e
    cases e1 : p.1 env h with
    | ok x h1 =>
      rw [e1] at e
      dsimp only [R.bind] at e
      cases e2 : p.2 env h1 with
      | ok y h2 =>
        rw [e2] at e
        dsimp only [R.bind] at e
        cases e3 : mPairs ps env h2 with
        | ok r2 h3 => rw [e3] at e; cases e; rw [List.length_cons, List.length_cons, ih e3]
        | ex c h3 => rw [e3] at e; cases e
        | bad => rw [e3] at e; cases e
      | ex c h2 => rw [e2] at e; cases e
      | bad => rw [e2] at e; cases e
    | ex c h1 => rw [e1] at e; cases e
    | bad => rw [e1] at e; cases e
theorem den_disp {m : Bool} {keys : List (Option Expr)} {values : List Expr} {pos : Pos} {ps : List (M × M)} (hp : PPs X pos keys values (ps.map fun p => (tI X.K T W p.1, tI X.K T W p.2))) (hall : keys.all (·.isSome) = true) (hl : keys.length = values.length) (h0 : keys ≠ []) (h15 : keys.length ≤ 15) :
    PE X (.Dict keys values pos) (tI X.K T W (mDict m ps)) := by
  refine PE.imp (pe_disp hp hall hl h0 h15) fun σ H Q ⟨ρ, env, h, hw, he, p⟩ dA hD => ?_
  unfold mDict at p
  split at p
  · rename_i hlen
    have w2 : RelH X.K T (upd H dA (.dK [])) (ρ ++ [dA]) (h ++ [.dic [] []]) := hw.alloc hD ⟨[], upd_same, rfl, by unfold RelDs; rfl⟩
    have xa : Ext H ρ (upd H dA (.dK [])) (ρ ++ [dA]) := Ext.alloc hD
    have hDn : (ρ ++ [dA])[h.length]? = some dA := by rw [← hw.len, List.getElem?_append_right (Nat.le_refl _), Nat.sub_self]; rfl
    refine pairs_read ⟨ρ ++ [dA], env, _, w2, he.mono xa, ?_⟩
    cases em : mPairs ps env (h ++ [.dic [] []]) with
    | bad => rw [em] at p; exact p.elim
    | ex c h1 =>
      rw [em] at p
      exact fun H1 ρ1 x1 w1 => p H1 ρ1 (xa.trans x1) w1
    | ok r h1 =>
      rw [em] at p
      unfold finD at p
      dsimp only at p
      intro H1 ρ1 vs x1 w1 r1
      split at p
      · rename_i en
        obtain ⟨kvs0, eH, ek, rs⟩ := w1.at_ _ _ dA en (x1.get hDn)
        have z0 : kvs0 = [] := by cases kvs0 with
          | nil => rfl
          | cons _ _ => cases ek
        subst z0
        split at p
        · rename_i ks ds emg
          obtain ⟨kvs, f1, f2, f3⟩ := merge_rel (acc := []) r1 rfl (by unfold RelDs; rfl) emg
          refine ⟨eH, kvs, f1, ?_, ?_⟩
          · have := mPairs_len em
            rw [r1.2.2, f1, List.length_map] at this
            omega
          · have xp : Ext H1 ρ1 (upd H1 dA (.dK (mergeK [] kvs))) ρ1 := Ext.put w1 (List.mem_of_getElem? (x1.get hDn))
            exact PostV.gc (n := h.length) hw.len (res := .ok (.ref h.length) (h1.set h.length (.dic ks ds))) p _ ρ1 (.ref dA) (xa.trans (x1.trans xp)) (w1.put (x1.get hDn) ⟨_, upd_same, f2, f3.mono xp⟩) (by unfold RelD; exact ⟨dA, rfl, x1.get hDn⟩)
        · exact p.elim
      · exact p.elim
  · exact p.elim
theorem den_dnew {m : Bool} {pos : Pos} : PE X (.Dict [] [] pos) (tI X.K T W (mDict m [])) := by
  refine PE.imp pe_dnewK fun σ H Q ⟨ρ, env, h, hw, he, p⟩ dA hD => ?_
  unfold mDict at p
  rw [if_pos (by decide)] at p
  have w2 : RelH X.K T (upd H dA (.dK [])) (ρ ++ [dA]) (h ++ [.dic [] []]) := hw.alloc hD ⟨[], upd_same, rfl, by unfold RelDs; rfl⟩
  have xa : Ext H ρ (upd H dA (.dK [])) (ρ ++ [dA]) := Ext.alloc hD
  have hDn : (ρ ++ [dA])[h.length]? = some dA := by rw [← hw.len, List.getElem?_append_right (Nat.le_refl _), Nat.sub_self]; rfl
  unfold finD mPairs at p
  dsimp only at p
  have en : (h ++ [Ob.dic [] []])[h.length]? = some (.dic [] []) := by rw [List.getElem?_append_right (Nat.le_refl _), Nat.sub_self]; rfl
  rw [en] at p
  dsimp only [mergeD] at p
  have es : (h ++ [Ob.dic [] []]).set h.length (.dic [] []) = h ++ [.dic [] []] := by
    rw [List.set_append_right _ _ (Nat.le_refl _), Nat.sub_self]
    rfl
  rw [es] at p
  exact PostV.gc (n := h.length) hw.len (res := .ok (.ref h.length) (h ++ [.dic [] []])) p _ _ (.ref dA) xa w2 (by unfold RelD; exact ⟨dA, rfl, hDn⟩)
theorem den_pnil {pos : Pos} : PPs X pos [] [] (([] : List (M × M)).map fun p => (tI X.K T W p.1, tI X.K T W p.2)) := pps_nil
theorem den_pcons {pos : Pos} {k v : Expr} {ks : List (Option Expr)} {vs : List Expr} {a b : M} {ps : List (M × M)} (h1 : PE X k (tI X.K T W a)) (h2 : PE X v (tI X.K T W b)) (h3 : PPs X pos ks vs (ps.map fun p => (tI X.K T W p.1, tI X.K T W p.2))) :
    PPs X pos (some k :: ks) (v :: vs) (((a, b) :: ps).map fun p => (tI X.K T W p.1, tI X.K T W p.2)) := pps_cons h1 h2 h3
end
end Iv

set_option maxRecDepth 100000
namespace Iv
open PySem PySem.Spec PyProof.Rows L2
section
variable {X : Cx} {T : Tb} {W : WX}
theorem val_read {K : PySem.W.Frag} {W : WX} {H : Hp} {ρ : List Addr} {h h1 : Hs} {e : Env} {σ : Sg} {me : M} {y : D} {b : Bool} {Q : VK} (hw : RelH K T H ρ h) (he : RelEnv K T H ρ e σ) (eg : gcR b h.length (me e h) = .ok y h1)
    (q : ∀ H1 ρ1 v, Ext H ρ H1 ρ1 → RelH K T H1 ρ1 h1 → RelD K T H1 ρ1 y v → Q v H1) : tI K T W me σ H Q := by
  refine ⟨ρ, e, h, hw, he, PostV.gc (m := b) (n := h.length) hw.len ?_⟩
  rw [eg]
  exact q
theorem test_read {K : PySem.W.Frag} {H : Hp} {ρ : List Addr} {h h1 : Hs} {e : Env} {σ : Sg} {mc : M} {b : Bool} {Q : Bool → Hp → Prop} (hw : RelH K T H ρ h) (he : RelEnv K T H ρ e σ) (eg : gcR false h.length (mc e h) = .ok (.bl b) h1)
    (q : ∀ H1 ρ1, Ext H ρ H1 ρ1 → RelH K T H1 ρ1 h1 → Q b H1) : tIT K T W0 mc σ H Q := by
  have pp := val_read (W := W0) (Q := fun v H1 => ∃ c, v = .bl c ∧ Q c H1) hw he eg fun H1 ρ1 v x1 w1 r1 => ⟨b, by unfold RelD at r1; exact r1, q H1 ρ1 x1 w1⟩
  have p : PostV K T (RelD K T) H ρ (mc e h) (fun v H1 => ∃ c, v = .bl c ∧ Q c H1) (fun _ _ _ => False) := by
    refine PostV.gc (m := false) (n := h.length) hw.len ?_
    rw [eg]
    exact fun H1 ρ1 v x1 w1 r1 => ⟨b, by unfold RelD at r1; exact r1, q H1 ρ1 x1 w1⟩
  refine ⟨ρ, e, h, hw, he, ?_⟩
  cases em : mc e h with
  | bad => rw [em] at p; exact p
  | ex c h2 => rw [em] at p; exact fun H1 ρ1 x1 w1 => p H1 ρ1 x1 w1
  | ok d h2 =>
    rw [em] at p
    intro H1 ρ1 c x1 w1 r1
    unfold RelB at r1
    subst r1
    obtain ⟨c', ec, q⟩ := p H1 ρ1 (.bl c) x1 w1 (by unfold RelD; rfl)
    cases ec
    exact q
/-! dict comprehensions -/
def turnD (n : Nat) (mt : MTg) (mc mk mv : M) (env : Env) (x : D) (h : Hs) : Option Hs := match mt x env with
  | none => none
  | some e => match gcR false h.length (mc e h) with
    | .ok (.bl true) h1 => match gcR false h1.length (mk e h1) with
      | .ok k h2 => match gcR false h2.length (mv e h2) with
        | .ok y h3 => match keyOf k, h3[n]? with
          | some kk, some (.dic ks vs) => if ks.length < most then some (h3.set n (.dic (putD ks vs kk y).1 (putD ks vs kk y).2)) else none
          | _, _ => none
        | _ => none
      | _ => none
    | .ok (.bl false) h1 => some h1
    | _ => none
def mDComp (m : Bool) (mi : MI) (mt : MTg) (mc mk mv : M) (own : List Nat) : M := fun env h => (mi env h).bind fun s h1 => fin m h1.length (runC (turnD h1.length mt mc mk mv (wipeE env own)) s (h1 ++ [.dic [] []]))
theorem read_dcomp {K : PySem.W.Frag} {m : Bool} {own : List Nat} {mi : MI} {mt : MTg} {g : TG} {mc mk mv : M} {σ : Sg} {H : Hp} {Q : VK} (sg : TgS K T mt g) (hk : Keeps g own) (hmo : MonoG g) (q : tI K T W (mDComp m mi mt mc mk mv own) σ H Q) :
    tDc (tG K T W (SrcRel K T) mi) g (tIT K T W0 mc) (tI K T W0 mk) (tI K T W0 mv) own σ H Q := by
  obtain ⟨ρ, env, h, hw, he, p⟩ := q
  unfold mDComp at p
  refine bindI hw he p fun H1 ρ1 s h1 J x1 w1 e1 r1 p1 dA hD => ?_
  obtain ⟨hE, er, p1⟩ := fin_post p1
  have w2 : RelH K T (upd H1 dA (.dK [])) (ρ1 ++ [dA]) (h1 ++ [.dic [] []]) := w1.alloc hD ⟨[], upd_same, rfl, by unfold RelDs; rfl⟩
  have xa : Ext H1 ρ1 (upd H1 dA (.dK [])) (ρ1 ++ [dA]) := Ext.alloc hD
  have hDn : (ρ1 ++ [dA])[h1.length]? = some dA := by rw [← w1.len, List.getElem?_append_right (Nat.le_refl _), Nat.sub_self]; rfl
  refine loop_any (B := fun x H' Nx => g x (L2.wipe σ own) H' fun σ2 H2 => L2.wipe σ2 own = L2.wipe σ own ∧ tIT K T W0 mc σ2 H2 fun b H3 =>
      if b = true then tI K T W0 mk σ2 H3 fun y H4 => tI K T W0 mv σ2 H4 fun z H5 => ∃ kvs k, y = kV k ∧ H5 dA = some (.dK kvs) ∧ kvs.length < sizeLine ∧ Nx (upd H5 dA (.dK (putK kvs k z))) else Nx H3)
    (fun H ρ h x v h3 Nx xr hw hD rx ef hn => ?_) (?_ : SrcRel K T (upd H1 dA (.dK [])) (ρ1 ++ [dA]) s J) w2 hDn er fun H ρ xr hw hD => ?_
  · unfold turnD at ef
    cases et : mt x (wipeE env own) with
    | none => simp only [et] at ef; cases ef
    | some e' =>
      simp only [et] at ef
      have base : g v (L2.wipe σ own) H fun σ2 H2 => H2 = H ∧ RelEnv K T H ρ e' σ2 := sg H ρ h _ e' _ x v _ hw ((e1.wipe own).mono (xa.trans xr)) rx et fun σ' re => ⟨rfl, re⟩
      refine hmo _ _ _ _ _ (fun σ2 H2 ⟨ew, eH, re⟩ => ⟨by rw [ew, wipe_wipe], ?_⟩) (hk _ _ _ _ base)
      subst eH
      cases eg : gcR false h.length (mc e' h) with
      | bad => simp only [eg] at ef; cases ef
      | ex c h2 => simp only [eg] at ef; cases ef
      | ok dt h2 =>
        cases dt with
        | bl b =>
          cases b with
          | false =>
            simp only [eg] at ef
            cases ef
            refine test_read hw re eg fun H3 ρ3 x3 w3 => ?_
            rw [if_neg (by decide)]
            exact hn H3 ρ3 (xr.trans x3) x3 w3 (x3.get hD)
          | true =>
            simp only [eg] at ef
            refine test_read hw re eg fun H3 ρ3 x3 w3 => ?_
            rw [if_pos rfl]
            cases ek : gcR false h2.length (mk e' h2) with
            | bad => simp only [ek] at ef; cases ef
            | ex c h2 => simp only [ek] at ef; cases ef
            | ok k h3' =>
              simp only [ek] at ef
              refine val_read w3 (re.mono x3) ek fun H4 ρ4 kv x4 w4 r4 => ?_
              cases ev : gcR false h3'.length (mv e' h3') with
              | bad => simp only [ev] at ef; cases ef
              | ex c h2 => simp only [ev] at ef; cases ef
              | ok y h4 =>
                simp only [ev] at ef
                refine val_read w4 ((re.mono x3).mono x4) ev fun H5 ρ5 yv x5 w5 r5 => ?_
                split at ef
                · rename_i kk ks vs ekk en
                  split at ef
                  · rename_i hl
                    cases ef
                    obtain ⟨kvs, eH, e2, rs⟩ := w5.at_ _ _ dA en (x5.get (x4.get (x3.get hD)))
                    subst e2
                    obtain ⟨g1, g2⟩ := putD_rel (x := kk) rs r5
                    have xp : Ext H5 ρ5 (upd H5 dA (.dK (putK kvs kk yv))) ρ5 := Ext.put w5 (List.mem_of_getElem? (x5.get (x4.get (x3.get hD))))
                    have xx := x3.trans (x4.trans (x5.trans xp))
                    exact ⟨kvs, kk, key_rel ekk r4, eH, by rw [List.length_map] at hl; exact Nat.lt_of_lt_of_le hl most_le, hn _ ρ5 (xr.trans xx) xx (w5.put (x5.get (x4.get (x3.get hD))) ⟨_, upd_same, g1, g2.mono xp⟩) (x5.get (x4.get (x3.get hD)))⟩
                  · cases ef
                · cases ef
        | _ => simp only [eg] at ef; cases ef
  · cases s with
    | fix xs => obtain ⟨P, hP, S⟩ := r1; exact ⟨P, S.keep _ _ _ _ hP xa, S⟩
    | live k => obtain ⟨a, ha, e⟩ := r1; exact ⟨a, xa.get ha, e⟩
  · exact PostV.gc (n := h1.length) w1.len (res := .ok (.ref h1.length) hE) p1 H ρ (.ref dA) (xa.trans xr) hw (by unfold RelD; exact ⟨dA, rfl, hD⟩)
theorem den_dcomp {m : Bool} {kx vx tg iter : Expr} {ifs : List Expr} {scope : Scope} {own : List (Str × Nat)} {vs : List Nat} {pos : Pos} {mi : MI} {mt : MTg} {g : TG} {mc mk mv : M} (hc : X.calm = true) (hN : X.N.Nodup) (hi : PI X tg iter (tG X.K T W (SrcRel X.K T) mi)) (ok : BlkOk X.N X.env.scope scope own) (hvs : own.map (·.2) = vs)
    (hg : InBlk X scope fun Y => PTg Y T tg mt g) (hk : Keeps g vs) (hmo : MonoG g) (ht : InBlk X scope fun Y => PTs Y ifs (tIT X.K T W0 mc)) (hkx : InBlk X scope fun Y => PE Y kx (tI X.K T W0 mk)) (hvx : InBlk X scope fun Y => PE Y vx (tI X.K T W0 mv)) (hs : ∀ x, foldedSetIterable iter X.env x = pure x) :
    PE X (.DictComp kx vx [⟨tg, iter, ifs, 0⟩] scope pos) (tI X.K T W (mDComp m mi mt mc mk mv vs)) :=
  by subst hvs; exact PE.imp (pe_dc hc hN hi ok (fun s H C cl fp => (hg s H C cl fp).1) ht hkx hvx hs) fun σ H Q q => read_dcomp (hg X.s_0 H 0 [] []).2 hk hmo q
/-! isinstance -/
inductive Ty where
  | bt (n : String) | ow (c : Nat)
  deriving DecidableEq
def known : List String := ["NoneType", "bool", "int", "str", "tuple", "list", "dict"]
def tyN (x : D) (h : Hs) : Option Ty := match x with
  | .non => some (.bt "NoneType")
  | .bl _ => some (.bt "bool")
  | .int _ => some (.bt "int")
  | .str _ => some (.bt "str")
  | .tup _ => some (.bt "tuple")
  | .lst _ => some (.bt "list")
  | .scr _ => none
  | .dct _ _ => some (.bt "dict")
  | .dcu _ _ => some (.bt "dict")
  | .ref n => match h[n]? with
    | some (.lst _) => some (.bt "list")
    | some (.dic _ _) => some (.bt "dict")
    | some (.dit _ _) => some (.bt "dict")
    | _ => none
  | .exc c => some (.ow c)
  | _ => none
def kBt (a b : String) : Option Bool := if known.contains a && known.contains b then some (a == b || (a == "bool" && b == "int")) else none
def clsD (d : D) : Option Ty := match d with
  | .ty n => some (.bt n)
  | .own c => some (.ow c)
  | _ => none
theorem kBt_ok {K : PySem.W.Frag} : ∀ {a b : String} {r : Bool}, kBt a b = some r → PySem.W.kitOne K (.type a) (.type b) = some r := by
  intro a b r e
  unfold kBt at e
  split at e
  · rename_i h
    rw [Bool.and_eq_true] at h
    have h1 : a ∈ known := List.contains_iff_mem.mp h.1
    have h2 : b ∈ known := List.contains_iff_mem.mp h.2
    refine kit_ty ?_
    have all : known.all (fun a => known.all fun b => decide (kitB a b = some (a == b || (a == "bool" && b == "int")))) = true := by decide +kernel
    rw [List.all_eq_true] at all
    have := all a h1
    rw [List.all_eq_true] at this
    have := of_decide_eq_true (this b h2)
    rw [this]
    exact e
  · cases e
end
end Iv

set_option maxRecDepth 100000
namespace Iv
open PySem PySem.Spec PyProof.Rows L2
/-! isinstance -/
/-- what isinstance asks of an own exception class -/
structure ExcK (K : PySem.W.Frag) (C : Addr) : Prop where
  cl : (PySem.W.clsIn K C).isSome = true
  ga : PySem.W.findIn K (.ref C) "__getattribute__" = some (some (.builtin "BaseException.__getattribute__"))
  gt : PySem.W.findIn K (.ref C) "__getattr__" = some none
  sub : PySem.W.subIn K (.ref C) (.type "BaseException") = some true
  ca : PySem.W.findIn K (.ref C) "__class__" = some (some (.builtin "object.__class__"))
  cn : PySem.W.specialIn K (.builtin "object.__class__") "__get__" = some (some (.builtin "getset_descriptor.__get__"))
  tk : PySem.W.takesIn K (.builtin "object.__class__") = some true
  mr : PySem.W.mroIn K C (.type "object") = some true
def rIsiE (K : PySem.W.Frag) : List V → Hp → VK → Prop := fun xs H Q => ∃ (a C : Addr) (c : V) (u : Value) (b : Bool), xs = [.ref a, c] ∧ ClsV c u ∧ H a = some (ExcO a C) ∧ ExcK K C ∧ PySem.W.kitOne K (.ref C) u = some b ∧ Q (.bl b) H
theorem call_isiE {X : Cx} : CallR X (.builtin "isinstance") (rIsiE X.K) := by
  intro pins s σ H xs us Q I r h
  obtain ⟨a, C, c, w, b, rfl, k, eH, F, e, q⟩ := h
  cases r with
  | cons r1 r =>
    cases r with
    | cons r2 r =>
      cases r
      rename_i u1 u2
      obtain rfl : u1 = Value.ref a := r1
      have e2 := k.eq r2
      subst e2
      obtain ⟨⟨oe, vs, g1, g2, gd, g3⟩, _, _⟩ := I.hok a _ eH
      have nc : PySem.W.notCls oe = true := by unfold PySem.W.notCls; rw [g3]
      have J : PySem.W.InstAt s.heap a oe C none := ⟨g1, g2, nc, by rw [gd]; trivial⟩
      exact PySem.W.kia_one (PySem.W.kitx_exc (od := none) F.cl F.ga F.gt F.sub F.ca F.cn F.tk F.mr) I.kIn J e (fun z => nomatch z) fun tk => ⟨.bl b, H, I.tok tk, rfl, q⟩
def kw (sub : Nat → Nat → Bool) : Ty → Ty → Option Bool
  | .bt a, .bt b => kBt a b
  | .bt a, .ow _ => if known.contains a then some false else none
  | .ow c, .ow c' => some (sub c c')
  | .ow _, .bt _ => none
structure KwOk (K : PySem.W.Frag) (T : Tb) (sub : Nat → Nat → Bool) : Prop where
  bo : ∀ a c, known.contains a = true → PySem.W.kitOne K (.type a) (.ref (T.cls c)) = some false
  oo : ∀ c c', PySem.W.kitOne K (.ref (T.cls c)) (.ref (T.cls c')) = some (sub c c')
  ex : ∀ c, ExcK K (T.cls c)
def tyVal (T : Tb) : Ty → Value
  | .bt n => .type n
  | .ow c => .ref (T.cls c)
theorem kw_ok {K : PySem.W.Frag} {T : Tb} {sub : Nat → Nat → Bool} (F : KwOk K T sub) {a b : Ty} {r : Bool} (e : kw sub a b = some r) : PySem.W.kitOne K (tyVal T a) (tyVal T b) = some r := by
  match a, b with
  | .bt a, .bt b => exact kBt_ok e
  | .bt a, .ow c =>
    have e : (if known.contains a then some false else none) = some r := e
    split at e
    · rename_i h; cases e; exact F.bo a c h
    · cases e
  | .ow a, .bt b => cases e
  | .ow a, .ow c => cases e; exact F.oo a c
def isiB (sub : Nat → Nat → Bool) (x c : D) (h : Hs) : Option Bool := match tyN x h with
  | none => none
  | some t => match clsD c with
    | some u => kw sub t u
    | none => none
def allT : List D → Option (List Ty)
  | [] => some []
  | c :: cs => match clsD c, allT cs with
    | some u, some us => some (u :: us)
    | _, _ => none
def anyT (sub : Nat → Nat → Bool) (t : Ty) : List Ty → Option Bool
  | [] => some false
  | u :: us => match kw sub t u with
    | some true => some true
    | some false => anyT sub t us
    | none => none
def isiAny (sub : Nat → Nat → Bool) (x : D) (h : Hs) (cs : List D) : Option Bool := match tyN x h with
  | none => none
  | some t => match allT cs with
    | none => none
    | some us => anyT sub t us
def isiF (sub : Nat → Nat → Bool) (xs : List D) (h : Hs) : R D := match xs with
  | [x, c] => match c with
    | .tup cs => match x with
      | .exc _ => .bad
      | _ => ans (isiAny sub x h cs) h
    | _ => ans (isiB sub x c h) h
  | _ => .bad
def rIsiTT (K : PySem.W.Frag) : List V → Hp → VK → Prop := fun xs H Q => ∃ (x : V) (tp : Addr) (cs : List V) (t : Value) (us : List Value) (b : Bool), xs = [x, .ref tp] ∧ SqT K H tp cs ∧ Paired ClsV cs us ∧ TyX K H x t ∧ PySem.W.kitAny K t us = some b ∧ Q (.bl b) H
theorem call_isiTT {X : Cx} : CallR X (.builtin "isinstance") (rIsiTT X.K) := by
  intro pins s σ H xs us Q I r h
  obtain ⟨x, tp, cs, t, ws, b, rfl, sq, k, ty, e, q⟩ := h
  cases r with
  | cons r1 r =>
    cases r with
    | cons r2 r =>
      cases r
      rename_i u1 u2
      obtain rfl : u2 = Value.ref tp := r2
      obtain ⟨P, Z, p, hx⟩ := kit_of I r1 ty
      obtain ⟨its, rv, tup, _⟩ := I.tuple sq
      have e3 := ClsV.all k rv
      subst e3
      obtain ⟨⟨oc, od, dt, sl⟩, h1, h2, n, h3⟩ := tup
      simp only at h2 h3
      subst h2 h3
      exact PySem.W.kia_tup Z I.kIn p h1 e hx fun tk => ⟨.bl b, H, I.tok tk, rfl, q⟩
def rIsiA (K : PySem.W.Frag) : List V → Hp → VK → Prop := fun xs H Q => (rIsi K xs H Q ∨ rIsiTT K xs H Q) ∨ rIsiE K xs H Q
theorem call_isiA {X : Cx} : CallR X (.builtin "isinstance") (rIsiA X.K) := (call_isi.or call_isiTT).or call_isiE
section
variable {X : Cx} {T : Tb} {W : WX}
theorem cls_rel {K : PySem.W.Frag} {H : Hp} {ρ : List Addr} {c : D} {t : Ty} {v : V} (e : clsD c = some t) (r : RelD K T H ρ c v) : ClsV v (tyVal T t) := by
  cases c with
  | ty n => cases e; unfold RelD at r; subst r; exact .ty n
  | own c => cases e; unfold RelD at r; subst r; exact .own _
  | _ => cases e
theorem ty_rel {K : PySem.W.Frag} {H : Hp} {ρ : List Addr} {h : Hs} {x : D} {t : Ty} {v : V} (hw : RelH K T H ρ h) (e : tyN x h = some t) (hx : ∀ c, x ≠ .exc c) (r : RelD K T H ρ x v) : TyX K H v (tyVal T t) := by
  cases x with
  | non => cases e; rw [relNon r]; exact .base .non
  | bl b => cases e; rw [relBl r]; exact .base (.bl b)
  | int i => cases e; rw [relInt r]; exact .base (.int i)
  | str i => cases e; rw [relStr r]; exact .base (.str i)
  | tup xs =>
    cases e
    unfold RelD at r
    obtain ⟨a, vs, rfl, sq, _⟩ := r
    rcases sq with (s | ⟨o, s⟩) | ⟨o, its, n, lk, cl, _⟩
    · exact .base (.tup s)
    · exact .fTuple s
    · exact .kTuple lk cl
  | lst xs =>
    cases e
    unfold RelD at r
    obtain ⟨a, vs, rfl, s, _⟩ := r
    exact .base (.lst s)
  | scr xs =>
    cases e
  | dct ks xs =>
    cases e
    unfold RelD at r
    obtain ⟨a, kvs, rfl, s, _⟩ := r
    rcases s with s | ⟨o, s⟩
    · exact .base (.dK s)
    · exact .fDict s
  | dcu ks xs =>
    cases e
    unfold RelD at r
    obtain ⟨a, kvs, rfl, s, _⟩ := r
    exact .base (.dT s)
  | ref n =>
    unfold tyN at e
    dsimp only at e
    unfold RelD at r
    obtain ⟨a, rfl, ha⟩ := r
    split at e
    · rename_i xs en
      cases e
      obtain ⟨vs, eH, _⟩ := hw.at_ _ _ a en ha
      exact .base (.lst eH)
    · rename_i ks xs en
      cases e
      obtain ⟨kvs, eH, _⟩ := hw.at_ _ _ a en ha
      exact .base (.dK eH)
    · rename_i ks xs en
      cases e
      obtain ⟨kvs, eH, _⟩ := hw.at_ _ _ a en ha
      exact .base (.dT eH)
    · cases e
  | exc c => exact absurd rfl (hx c)
  | _ => cases e
theorem allT_rel {K : PySem.W.Frag} {H : Hp} {ρ : List Addr} : ∀ {cs : List D} {vs : List V} {ts : List Ty}, RelDs K T H ρ cs vs → allT cs = some ts → Paired ClsV vs (ts.map (tyVal T)) := by
  intro cs
  induction cs with
  | nil => intro vs ts r e; cases e; rw [r.nil']; exact .nil
  | cons c cs ih =>
    intro vs ts r e
    unfold RelDs at r
    obtain ⟨v, s, rfl, q, r⟩ := r
    unfold allT at e
    split at e
    · rename_i u us e1 e2
      cases e
      exact .cons (cls_rel e1 q) (ih r e2)
    · cases e
theorem anyT_ok {K : PySem.W.Frag} {sub : Nat → Nat → Bool} (F : KwOk K T sub) {t : Ty} : ∀ {us : List Ty} {b : Bool}, anyT sub t us = some b → PySem.W.kitAny K (tyVal T t) (us.map (tyVal T)) = some b := by
  intro us
  induction us with
  | nil => intro b e; cases e; exact kitAny_nil
  | cons u us ih =>
    intro b e
    unfold anyT at e
    split at e
    · rename_i ek; cases e; exact kitAny_cons (kw_ok F ek) (fun z => nomatch z) fun _ => rfl
    · rename_i ek; exact kitAny_cons (kw_ok F ek) (fun _ => ih e) (fun z => nomatch z)
    · cases e
theorem isi_snd {sub : Nat → Nat → Bool} (F : KwOk X.K T sub) : BiSound X T (isiF sub) (rIsiA X.K) := by
  intro H ρ h xs vs Q Wx hw r p
  unfold isiF at p
  split at p
  · rename_i x c
    unfold RelDs at r
    obtain ⟨v, s, rfl, r1, r⟩ := r
    obtain ⟨w, rfl, r2⟩ := r.one
    split at p
    · rename_i cs
      split at p
      · exact p.elim
      · rename_i hx
        obtain ⟨b, e, q⟩ := ans_post hw p
        unfold isiAny at e
        split at e
        · cases e
        · rename_i t et
          split at e
          · cases e
          · rename_i us eu
            unfold RelD at r2
            obtain ⟨tp, ws, rfl, sq, rs⟩ := r2
            exact .inl (.inr ⟨v, tp, ws, _, _, b, rfl, sq, allT_rel rs eu, ty_rel hw et (fun c z => hx c z) r1, anyT_ok F e, q⟩)
    · obtain ⟨b, e, q⟩ := ans_post hw p
      unfold isiB at e
      split at e
      · cases e
      · rename_i t et
        split at e
        · rename_i u eu
          by_cases hx : ∃ c, x = .exc c
          · obtain ⟨c, rfl⟩ := hx
            cases et
            unfold RelD at r1
            obtain ⟨a, rfl, eH⟩ := r1
            exact .inr ⟨a, T.cls c, w, _, b, rfl, cls_rel eu r2, eH, F.ex c, kw_ok F e, q⟩
          · exact .inl (.inl ⟨v, w, _, _, b, rfl, cls_rel eu r2, ty_rel hw et (fun c z => hx ⟨c, z⟩) r1, kw_ok F e, q⟩)
        · cases e
  · exact p.elim
def mIsi (sub : Nat → Nat → Bool) (ms : Ms) : M := fun env h => (ms env h).bind (isiF sub)
theorem boot_isi : bootBuiltins "isinstance" = some (.builtin "isinstance") := PyProof.Rows.boot_isinstance
theorem den_isi {sub : Nat → Nat → Bool} (F : KwOk X.K T sub) {e : Expr} {es : List Expr} {p pos : Pos} {ms : Ms} (hg : Gl X "isinstance") (hm : X.mg "isinstance" = none) (ha : PA X (e :: es) (tIs X.K T W ms))
    (he : starEach (e :: es) X.env = (false, eval e X.env) :: starEach es X.env) (hpl : (backTo pos (starEach es X.env)).any (·.1) = false) : PE X (.Call (.Name "isinstance" p) (e :: es) [] pos) (tI X.K T W (mIsi sub ms)) :=
  den_callB call_isiA (isi_snd F) hg hm boot_isi ha (by decide) (by decide) he hpl
/-! constants by name -/
theorem den_ty {x : Str} {n : String} {pos : Pos} (hg : Gl X x) (hm : X.mg x = none) (hv : bootBuiltins x = some (.type n)) (hn : x ≠ "__name__") (hd : (x == ("__debug__" : Str)) = false) : PE X (.Name x pos) (tI X.K T W (mCon (.ty n))) :=
  PE.imp (pe_bltn (v := .ty n) hg hm hv rfl hn hd) fun σ H Q ⟨ρ, env, h, hw, _, p⟩ => now p hw (by unfold RelD; rfl)
theorem den_own {x : Str} {c : Nat} {pos : Pos} (hg : Gl X x) (hm : X.mg x = some (.ref (T.cls c))) (hd : (x == ("__debug__" : Str)) = false) : PE X (.Name x pos) (tI X.K T W (mCon (.own c))) :=
  PE.imp (pe_glob (v := .ref (T.cls c)) hg hm rfl hd) fun σ H Q ⟨ρ, env, h, hw, _, p⟩ => now p hw (by unfold RelD; rfl)
/-- a module's constant: an int -/
theorem den_gint {x : Str} {i : Int} {t : Tok} {pos : Pos} (hg : Gl X x) (hm : X.mg x = some (.int i t)) (hd : (x == ("__debug__" : Str)) = false) : PE X (.Name x pos) (tI X.K T W (mCon (.int i))) :=
  PE.imp (pe_glob (v := .int i) hg hm ⟨t, rfl⟩ hd) fun σ H Q ⟨ρ, env, h, hw, _, p⟩ => now p hw (by unfold RelD; rfl)
/-! raise -/
def sRaise (c : Nat) : MS := fun env h => .ex c env h
theorem den_raise {c : Nat} {bmB : List Value} {B newId initId : String} {x m : Str} {j : Nat} {p p2 pos pos2 : Pos} (hc : X.calm = true) (tk : Takes X W) (F : ExcBaseFacts B newId initId bmB) (q : PySem.W.excIn X.K (T.cls c) bmB newId = true) (gC : X.mg x = some (.ref (T.cls c))) (kC : PySem.W.keepIn X.K (.ref (T.cls c)) = true)
    (r : Raises X (.ref (T.cls c))) (hg : Gl X x) (hdb : (x == ("__debug__" : Str)) = false) : PS X (.Raise (some (.Call (.Name x p) [.Constant (.str m) j p2] [] pos)) none pos2) (tIS X.K T W (sRaise c)) :=
  PS.imp (ps_raise hc tk (pmk_own F q gC kC r hg hdb)) fun D σ H ⟨ρ, env, h, hw, he, p⟩ => p H ρ σ (Ext.refl _ _) hw he
/-! defs -/
def defR (m : MS) (k : Nat) : Fm := fun ds h => match m (ds.map some ++ List.replicate k none) h with
  | .nx _ h => .ok .non h
  | .rt d h => .ok d h
  | .ex c _ h => .ex c h
  | _ => .bad
theorem rel_start {K : PySem.W.Frag} {H : Hp} {ρ : List Addr} {N : List Str} {ds : List D} {vs : List V} (r : RelDs K T H ρ ds vs) (k : Nat) (hk : N.length - vs.length = k) : RelEnv K T H ρ (ds.map some ++ List.replicate k none) (L2.start N vs) := by
  unfold L2.start
  refine ⟨by rw [List.length_append, List.length_append, List.length_map, List.length_map, List.length_replicate, List.length_replicate, RelDs.len r, hk], fun i d e => ?_⟩
  by_cases hi : i < ds.length
  · rw [List.getElem?_append_left (by rw [List.length_map]; exact hi), List.getElem?_map] at e
    cases ed : ds[i]? with
    | none => rw [ed] at e; cases e
    | some d' =>
      rw [ed] at e
      cases e
      obtain ⟨v, ev, rv⟩ := RelDs.get r ed
      refine ⟨v, ?_, rv⟩
      rw [List.getElem?_append_left (by rw [List.length_map, ← RelDs.len r]; exact hi), List.getElem?_map, ev]
      rfl
  · rw [List.getElem?_append_right (by rw [List.length_map]; exact Nat.le_of_not_lt hi)] at e
    have := List.mem_of_getElem? e
    rw [List.mem_replicate] at this
    cases this.2
end
section
variable {P : Program} {w : World} {K : PySem.W.Frag} {mg : Str → Option Value} {base : Heap} {T : Tb}
/-- a def by its body's reading -/
theorem den_def {name qual : Str} {st : Stmt} {f : Addr} {fd : FuncData} {N ps : List Str} {k : Nat} {m : MS} (F : Fun K name qual st f fd) (S : FnScope N ps (defScope st))
    (hbody : ∀ (X : Cx), X.prog = P → X.w = w → X.K = K → X.mg = mg → X.base = base → X.N = N → X.env.scope = defScope st → X.calm = true → (∀ x, X.fn x = true) → Room k X.A → ∀ W, Takes X W → PassesOwn (model X.prog X.w) X.A X.env X.xe → PSs X (defBody st) (tIS K T W m)) :
    FnOk P w K mg base (L2.CX P w) (k + 1) f fd ps (spI K T (defR m (N.length - ps.length)) ps.length) := by
  refine F.okX S (fun vs H Q E h => h.1) fun cdv A outer s H vs Q E hr h => ?_
  obtain ⟨hl, ρ, ds, h, hw, rs, p⟩ := h
  refine ⟨_, hbody _ rfl rfl rfl rfl rfl rfl rfl rfl (fun _ => rfl) hr (fun cls d _ H => E cls d H) (takes_of rfl rfl rfl rfl) (passes_of rfl), ?_⟩
  refine ⟨ρ, ds.map some ++ List.replicate (N.length - ps.length) none, h, hw, rel_start rs _ (by rw [hl]), ?_⟩
  unfold defR at p
  cases e : m (ds.map some ++ List.replicate (N.length - ps.length) none) h with
  | nx e' h' => rw [e] at p; exact fun H' ρ' σ' x w' re => p H' ρ' .non x w' (by unfold RelD; rfl)
  | rt d h' => rw [e] at p; exact p
  | ex c e' h' => rw [e] at p; exact fun H' ρ' σ' x w' re => p H' ρ' x w'
  | bk e' h' => rw [e] at p; exact p.elim
  | ct e' h' => rw [e] at p; exact p.elim
  | bad => rw [e] at p; exact p.elim
end
end Iv

set_option maxRecDepth 100000
namespace Iv
open PySem PySem.Spec PyProof.Rows L2
section
variable {X : Cx} {pins : List (Addr × Obj)} {σ : Sg} {H : Hp} {s : Shared}
/-- an object that is there, from now on tracked -/
theorem track {a : Addr} {o : Obj} {u : HO} (I : Inv X pins σ H s) (hn : H a = none) (h0 : X.s_0.heap.get? a = none) (ha : s.heap.get? a = some o) (hd : ∀ v, o.data ≠ .cell v) (nL : a ≠ X.env.locals) (nP : ∀ p ∈ X.pn ++ pins, p.1 ≠ a)
    (new : ObjOk X.prog X.w (upd H a u) s.heap a u) : Inv X pins σ (upd H a u) s := by
  have keepS : ∀ {b : Addr} {w : HO}, H b = some w → upd H a u b = some w := fun {b w} e => by rw [upd_ne (ne_of_none e hn)]; exact e
  have freeS : ∀ {b : Addr}, H b = none → b ≠ a → upd H a u b = none := fun {b} e n => by rw [upd_ne n]; exact e
  have base := I.base
  exact {
    ok := I.ok
    os := I.os
    bare := I.bare
    base := {
      keep := base.keep
      slot := base.slot
      free := fun b ob e n hx => freeS (base.free b ob e n hx) (fun z => by rw [z, h0] at e; cases e)
      there := base.there
      tups := fun b xs e => keepS (base.tups b xs e)
      frzs := fun b ob w e => keepS (base.frzs b ob w e)
      tbls := fun b ps e => by obtain ⟨m, q⟩ := base.tbls b ps e; exact ⟨m, keepS q⟩ }
    loc := I.loc
    cell := I.cell
    free := freeS I.free (Ne.symm nL)
    freeC := fun x c e => by
      refine freeS (I.freeC x c e) fun z => ?_
      obtain ⟨v, oc, e1, e2⟩ := I.cell x c e
      rw [z, ha] at e1
      cases e1
      exact hd v e2
    pin := fun p hp => by
      obtain ⟨e1, e2, e3⟩ := I.pin p hp
      exact ⟨e1, freeS e2 (nP p hp), e3⟩
    hok := fun b w e => by
      by_cases hb : b = a
      · subst hb
        rw [upd_same] at e
        cases e
        exact new
      · rw [upd_ne hb] at e
        exact (I.hok b w e).stay (fun _ _ _ q => q) (fun _ q => keepS q) fun _ _ q => keepS q
    len := I.len }
/-- what is wished of an exception: it is kept in slot j; slot i is the clause's name -/
def wC (K : PySem.W.Frag) (c : Value) (i j : Nat) (D : Ends) : WX := fun cls d σ H => PySem.W.exmOne K cls c = some true ∧ d = none ∧ ∃ C, cls = .ref C ∧ ∀ a, H a = none → D.nx ((σ.set j (some (.ref a))).set i none) (upd H a (ExcO a C))
/-- try: body, except x as n: y = n -/
theorem ps_tryc {x n y : Str} {c : Value} {i j : Nat} {body : List Stmt} {np pos pos' q1 q2 q3 : Pos} {tb : WX → TS} (hs : X.stack = X.env :: X.outer) (hf : X.env.frame = some X.env.locals) (hex : X.ex = []) (hN : X.N.Nodup) (hi : X.N[i]? = some n) (hln : X.env.kindOf n = some .local)
    (hj : X.N[j]? = some y) (hy : X.env.scope.names.lookup y = some .local) (hdn : (n == ("__debug__" : Str)) = false) (hcn : (n == ("__classdict__" : Str)) = false) (hsw : swapsWith (.Name n q2) (some (.Name y q1)) q3.line X.env = pure false) (hc : Names X x c)
    (hb : ∀ (W : WX) (pn : List (Addr × Obj)) (xe : Value → Shared → Prop), Takes (X.tr pn xe) W → PassesOwn (model X.prog X.w) X.A X.env xe → PSs (X.tr pn xe) body (tb W)) :
    PS X (.Try body [.ExceptHandler (some (.Name x np)) (some n) [.Assign [.Name y q1] (.Name n q2) q3] pos'] [] [] pos) (fun D σ H => tb (wC X.K c i j D) D σ H) := by
  constructor
  intro pins s σ H D I hw
  have okX := I.ok
  have frX : X.A.frames = some (X.env :: X.outer) := okX.frames.trans (congrArg some hs)
  have run := (hb (wC X.K c i j D) (X.pn ++ pins) (fun e s1 => wpAny (model X.prog X.w) X.A (noteFrame e X.env) (fun _ s2 => wpAny (model X.prog X.w) X.A (setFlight e none) (fun _ s3 =>
    wpAny (model X.prog X.w) X.A (handleBy e X.env [.ExceptHandler (some (.Name x np)) (some n) [.Assign [.Name y q1] (.Name n q2) q3] pos']) (SP X pins D) X.xe s3) X.xe s2) X.xe s1) ?takes PassesOwn.looking).run [] s σ H D (I.toTry _) hw
  case takes =>
    intro u s1 air
    obtain ⟨a, B, sI, pinsI, σI, HI, cls, d, rfl, IT, nb, up, sky, na, os, ag, exm, rfl, C, rfl, go⟩ := air
    have II : Inv X pins σI HI sI := IT.ofTry okX
    rw [hs] at sky
    show wpAny (model X.prog X.w) X.A (noteFrame (.ref a) X.env) _ _ _
    refine Sky.land Zc.steady frX hf sky fun hA flA upA => ?_
    have IA : Inv X pins σI HI { s1 with heap := hA } := II.landed nb flA.1 (up.trans upA) os ag
    obtain ⟨oA, vA, eA, zA, dA⟩ := flA.there
    -- the exception is none of the frames, and new
    have offF : a ∉ frs (X.env :: X.outer) := fun hm => by
      obtain ⟨_, o', e', hnf⟩ := flA.2.2.1.mem hm
      rw [eA] at e'
      cases e'
      exact hnf _ dA
    have offL : a ≠ X.env.locals := fun z => offF (List.mem_filterMap.mpr ⟨X.env, List.mem_cons_self, by rw [hf, z]⟩)
    have offO : a ∉ X.fs := fun hm => by
      obtain ⟨e, he, q⟩ := List.mem_filterMap.mp hm
      exact offF (List.mem_filterMap.mpr ⟨e, List.mem_cons_of_mem _ he, q⟩)
    have notI : ∀ o, sI.heap.get? a ≠ some o := fun o e => by
      have q := nb a o e (by rw [hs]; exact offF)
      rw [flA.2.1] at q
      cases q
    have new0 : X.s_0.heap.get? a = none := by
      cases e : X.s_0.heap.get? a with
      | none => rfl
      | some o =>
        obtain ⟨o', e'⟩ := II.base.there a o e (by rw [hex]; exact List.not_mem_nil)
        exact absurd e' (notI o')
    have offP : ∀ p ∈ X.pn ++ pins, p.1 ≠ a := fun p hp z => notI p.2 (by rw [← z]; exact (II.pin p hp).1)
    have SA := IA.suite eA dA na offL offO
    refine wpAny_handleBy_cons (codeAny_handlers_test ?_) (fun z => nomatch z)
    have LT : PySem.W.Looks (model X.prog X.w) hA (typeOf (.ref a)) (.ref C) := fun A Q E s k q => wpAny_typeOf_ref (k _ _ eA) (by rw [zA.1]; exact q)
    have LM := PySem.W.exm_one (M := model X.prog X.w) IA.kIn LT exm
    have named : ∀ {Q : Value → Shared → Prop} {E : Value → Shared → Prop}, Q c { s1 with heap := hA } → wpAny (model X.prog X.w) (X.A.mark (some (.ref a))) (eval (.Name x np) X.env) Q E { s1 with heap := hA } := by
      intro Q E q
      obtain ⟨hg, hdbg, known⟩ := hc
      rcases known with hm | ⟨hm, hv, hnn⟩
      · exact ld_glob (X := X.suite a ((a, oA) :: (X.pn ++ pins))) SA hg hm q hdbg
      · exact ld_blt (X := X.suite a ((a, oA) :: (X.pn ++ pins))) SA hg hm hv q hnn hdbg
    refine named (LM.here (codeAny_handlers_suite_as ?_))
    refine HandSPX.lands_againZ flA fun hB flB upB => ?_
    have IB : Inv X pins σI HI { s1 with heap := hB } := II.landed nb flB.1 ((up.trans upA).trans upB) os ag
    obtain ⟨oB, vB, eB, zB, dB⟩ := flB.there
    have SB := IB.suite eB dB na offL offO
    refine store_ok (X := X.suite a ((a, oB) :: (X.pn ++ pins))) (v := .ref a) SB hN hi (.inl hln) rfl (fun s5 S5 => ?_) (.inr hln)
    have hst : PSs (X.suite a ((a, oB) :: (X.pn ++ pins))) [.Assign [.Name y q1] (.Name n q2) q3] (tAsg (tVar i) (gName j)) := pss_one (ps_set hN hj (.inl hy) (pe_var hi (.inl hln) hdn hcn) hsw (.inr hy))
    refine wpAny_mono (hst.run [] s5 _ HI { nx := fun σ6 H6 => σ6 = (σI.set i (some (.ref a))).set j (some (.ref a)) ∧ H6 = HI, rt := fun _ _ => False } S5 ⟨.ref a, ?_, rfl, rfl⟩) (fun f s6 out => ?_) (fun _ _ z => z.elim)
    · have hlt : i < σI.length := by rw [II.len]; exact (List.getElem?_eq_some_iff.mp hi).1
      exact List.getElem?_set_self hlt
    · cases f with
      | next =>
        obtain ⟨σ6, H6, S6, rfl, rfl⟩ := out
        have I6 : Inv X ((a, oB) :: pins) ((σI.set i (some (.ref a))).set j (some (.ref a))) H6 s6 := ⟨okX, S6.os, S6.bare, S6.base, S6.loc, S6.cell, S6.free, S6.freeC, fun p hp => S6.pin p (by
          rw [List.append_nil]
          rcases List.mem_append.mp hp with z | z
          · exact List.mem_cons_of_mem _ (List.mem_append_left _ z)
          · rcases List.mem_cons.mp z with z | z
            · rw [z]; exact List.mem_cons_self
            · exact List.mem_cons_of_mem _ (List.mem_append_right _ z)), S6.hok, S6.len⟩
        refine gone_ok I6 hN hi hln fun s7 I7 => ?_
        have pa := I7.pin (a, oB) (List.mem_append_right _ List.mem_cons_self)
        have I8 : Inv X pins (((σI.set i (some (.ref a))).set j (some (.ref a))).set i none) H6 s7 := I7.pins_of fun p hp => I7.pin p (List.mem_append_right _ (List.mem_cons_of_mem _ hp))
        have ho : ObjOk X.prog X.w (upd H6 a (ExcO a C)) s7.heap a (ExcO a C) := by
          refine ⟨⟨oB, vB, pa.1, zB.1, zB.2, dB⟩, ⟨oB, pa.1⟩, fun h1 h2 q k => ?_⟩
          obtain ⟨o, vs, e1, e2⟩ := q
          exact ⟨o, vs, k o e1, e2⟩
        have I9 := track I8 na new0 pa.1 pa.2.2.2.2 offL offP ho
        have es : ((σI.set i (some (V.ref a))).set j (some (.ref a))).set i none = (σI.set j (some (.ref a))).set i none := by
          by_cases hij : i = j
          · subst hij; simp only [List.set_set]
          · rw [List.set_comm _ _ hij, List.set_set]
        rw [es] at I9
        exact ⟨_, _, I9, go a na⟩
      | brk => obtain ⟨_, _, _, z⟩ := out; exact z.elim
      | cont => obtain ⟨_, _, _, z⟩ := out; exact z.elim
      | ret u => obtain ⟨_, _, _, _, _, z⟩ := out; exact z.elim
  refine wpAny_Try_except (wpAny_mono run (fun f s1 out => ?_) fun e s1 q => q)
  cases f with
  | next => obtain ⟨σ1, H1, I1, q⟩ := out; exact wpAny_execs_nil ⟨σ1, H1, I1.ofTry okX, q⟩
  | brk => obtain ⟨σ1, H1, I1, q⟩ := out; exact ⟨σ1, H1, I1.ofTry okX, q⟩
  | cont => obtain ⟨σ1, H1, I1, q⟩ := out; exact ⟨σ1, H1, I1.ofTry okX, q⟩
  | ret u => obtain ⟨v, σ1, H1, I1, r, q⟩ := out; exact ⟨v, σ1, H1, I1.ofTry okX, r, q⟩
end
end Iv

set_option maxRecDepth 100000
namespace Iv
open PySem PySem.Spec PyProof.Rows L2
/-! a lambda made: what stands at its address -/
def CloP (q : Str) (params : Arguments) (body : Expr) (scope : Scope) (cl : List (Str × Addr)) (f c : Addr) (h : Heap) : Prop := ∃ pm ctv, h.get? f = some (PySem.W.kla_obj "<lambda>" q params body scope cl pm c ctv)
section
variable {X : Cx} {T : Tb} {W : WX}
theorem Ext.tbl {H : Hp} {ρ : List Addr} {P : Addr} {ps ps' : Array Value} (e : H P = some (.tbl ps)) : Ext H ρ (upd H P (.tbl ps')) ρ := by
  have ne : ∀ {b : Addr} {u : HO}, H b = some u → (∀ r, u ≠ .tbl r) → b ≠ P := fun {b u} q n z => by rw [z, e] at q; exact n ps (Option.some.inj q).symm
  refine ⟨⟨[], by simp⟩, fun b u q f n => ⟨?_, n⟩, fun b ks q n => ⟨?_, n⟩, fun b xs q => ?_, fun b φ q => ?_, fun b w u q => ?_⟩
  · rw [upd_ne (ne q fun r z => by rw [z] at f; exact f)]; exact q
  · rcases q with q | ⟨w, q⟩
    · exact .inl (by rw [upd_ne (ne q fun r z => nomatch z)]; exact q)
    · exact .inr ⟨w, by rw [upd_ne (ne q fun r z => nomatch z)]; exact q⟩
  · rcases q with q | ⟨w, q⟩
    · exact .inl (by rw [upd_ne (ne q fun r z => nomatch z)]; exact q)
    · exact .inr ⟨w, by rw [upd_ne (ne q fun r z => nomatch z)]; exact q⟩
  · rw [upd_ne (ne q fun r z => nomatch z)]; exact q
  · rw [upd_ne (ne q fun r z => nomatch z)]; exact q
theorem RelH.ext_tab {K : PySem.W.Frag} {H H' : Hp} {ρ : List Addr} {h : Hs} (R : RelH K T H ρ h) (x : Ext H ρ H' ρ) (k : ∀ a ∈ ρ, H' a = H a) (t : LamX.Tabs T.tbs H') : RelH K T H' ρ h :=
  ⟨R.len, R.nd, fun n ob a e1 e2 => (R.at_ n ob a e1 e2).mono x (k a (List.mem_of_getElem? e2)), t⟩
theorem codeO_tbl {c : Addr} {q : Str} (ps : Array Value) : LamX.CodeO c q ≠ .tbl ps := fun z => by
  unfold LamX.CodeO at z
  cases z
/-- a lambda, as a value -/
theorem den_lam {j : Nat} {c P : Addr} {q : Str} {params : Arguments} {body : Expr} {scope : Scope} {pos : Pos} (hq : q = X.env.qual ++ "<lambda>") (hT : ∀ f, T.clo j f = some (CloP q params body scope (cloFrom X.env.cells scope.names []) f, q)) (TB : LamX.TabB X.base X.mg c P) (hcode : X.env.code = .ref c)
    (hm : (P, q) ∈ T.tbs) (hu : ∀ p ∈ T.tbs, p.1 = P → p.2 = q) (hdef : defaultsOf params X.env = ([], [])) (L : LamX.LamS X.env.scope scope) : PE X (.Lambda params body scope pos) (tI X.K T W (mCon (.clo j))) := by
  constructor
  intro pins s σ H Q I ⟨ρ, env, h, hw, he, p⟩
  subst hq
  obtain ⟨ps, hP, triples, among⟩ := hw.tab _ hm
  have bP : s.heap.BuiltinsAt X.mg P := TB.bm.keeps I.bk
  have tP : s.heap.get? P = some { cls := .none, data := .fields ps } := I.hok P _ hP
  have closed := closure_ok (L.has I.ok)
  -- the function object, when all else is there
  have made : ∀ {H1 : Hp} {h1 : Heap} {t1 : Nat} {c1 : Addr} {pm ctv : Value}, Inv X pins σ H1 { s with heap := h1, toks := t1 } → Ext H ρ H1 ρ → RelH X.K T H1 ρ h → H1 c1 = some (LamX.CodeO c1 (X.env.qual ++ "<lambda>")) → ∀ t2,
      EP X pins σ Q (.ref h1.objs.size) { s with heap := h1.push (PySem.W.kla_obj "<lambda>" (X.env.qual ++ "<lambda>") params body scope (cloFrom X.env.cells scope.names []) pm c1 ctv), toks := t2 } := by
    intro H1 h1 t1 c1 pm ctv I1 x1 w1 hc t2
    have n1 : H1 h1.objs.size = none := I1.hok.fresh (Nat.le_refl _)
    have there : ∀ h2 : Heap, h2 = h1.push (PySem.W.kla_obj "<lambda>" (X.env.qual ++ "<lambda>") params body scope (cloFrom X.env.cells scope.names []) pm c1 ctv) → h2.get? h1.objs.size = some (PySem.W.kla_obj "<lambda>" (X.env.qual ++ "<lambda>") params body scope (cloFrom X.env.cells scope.names []) pm c1 ctv) := fun h2 e => by
      rw [e]; exact Heap.get?_push_size _ rfl
    have I2 := I1.laid (a := h1.objs.size) (o := .ext (CloP (X.env.qual ++ "<lambda>") params body scope (cloFrom X.env.cells scope.names []) h1.objs.size c1)) (h' := h1.push (PySem.W.kla_obj "<lambda>" (X.env.qual ++ "<lambda>") params body scope (cloFrom X.env.cells scope.names []) pm c1 ctv)) (t' := t2)
      (fun b u e => Heap.get?_push_of_some _ e) (Nat.le_refl _) ⟨⟨pm, ctv, there _ rfl⟩, ⟨_, there _ rfl⟩, fun g1 g2 ⟨pm', ctv', e⟩ k => ⟨pm', ctv', k _ e⟩⟩
    have x2 : Ext H1 ρ (upd H1 h1.objs.size (.ext (CloP (X.env.qual ++ "<lambda>") params body scope (cloFrom X.env.cells scope.names []) h1.objs.size c1))) ρ := Ext.new n1
    refine ⟨.ref h1.objs.size, _, I2, rfl, p _ ρ _ (x1.trans x2) (w1.new n1) ?_⟩
    unfold RelD
    refine ⟨h1.objs.size, rfl, fun φ q e => ?_⟩
    rw [hT] at e
    cases e
    exact ⟨c1, upd_same, x2.obj _ _ hc⟩
  refine PySem.W.kla_eval hdef ?_
  cases hc : codeAmong pos ps.toList with
  | some cv =>
    obtain ⟨c1, rfl, hco⟩ := among pos cv hc
    refine PySem.W.kla_makeFunctionHit (mg := X.mg) (c := c) (P := P) (ps := ps) closed I.ok.glob (I.mod.glob.keeps I.bk) hcode (TB.code.keeps I.bk) tP triples hc bP fun ctv h1 tk hx hsz => ?_
    have I1 : Inv X pins σ H { s with heap := h1, toks := tk } := I.kept hx
    exact made I1 (Ext.refl H ρ) hw hco tk
  | none =>
    refine PySem.W.kla_makeFunction (mg := X.mg) (c := c) (P := P) (ps := ps) closed I.ok.glob (I.mod.glob.keeps I.bk) hcode (TB.code.keeps I.bk) tP triples hc TB.gP bP fun c1 ctv h1 tk hx hge hlt hrec htb => ?_
    obtain ⟨c2, oc, vs, t, e2, r1, r2, r3⟩ := hrec
    cases e2
    have nC : H c1 = none := I.hok.fresh hge
    have I1 := LamX.inv_table (t' := tk) (more := #[rawInt pos.line, rawInt pos.col, .ref c1]) (h' := h1) I hP (fun b o hb e => hx b o hb e) htb hge ⟨oc, vs, t, r1, r2, r3⟩
    have x1 : Ext H ρ (upd H P (.tbl (ps ++ #[rawInt pos.line, rawInt pos.col, .ref c1]))) ρ := Ext.tbl hP
    have nC1 : upd H P (.tbl (ps ++ #[rawInt pos.line, rawInt pos.col, .ref c1])) c1 = none := by rw [upd_ne fun z => by rw [z, hP] at nC; cases nC]; exact nC
    have x2 : Ext (upd H P (.tbl (ps ++ #[rawInt pos.line, rawInt pos.col, .ref c1]))) ρ (upd (upd H P (.tbl (ps ++ #[rawInt pos.line, rawInt pos.col, .ref c1]))) c1 (LamX.CodeO c1 (X.env.qual ++ "<lambda>"))) ρ := Ext.new nC1
    have x := x1.trans x2
    have same : ∀ a ∈ ρ, upd (upd H P (.tbl (ps ++ #[rawInt pos.line, rawInt pos.col, .ref c1]))) c1 (LamX.CodeO c1 (X.env.qual ++ "<lambda>")) a = H a := fun a ha => by
      obtain ⟨u, e, mu, _⟩ := hw.mem_some ha
      rw [upd_ne (ne_of_none e nC), upd_ne]
      intro z
      rw [z, hP] at e
      cases e
      exact mu
    have listed : (ps ++ #[rawInt pos.line, rawInt pos.col, .ref c1]).toList = ps.toList ++ [rawInt pos.line, rawInt pos.col, .ref c1] := by simp
    refine made I1 x (hw.ext_tab x same fun p hp => ?_) upd_same tk
    by_cases hb : p.1 = P
    · rw [hu p hp hb, hb]
      refine ⟨_, by rw [upd_ne (ne_of_none hP nC)]; exact upd_same, by rw [listed]; exact PySem.TriplesOk_snoc _ _ _ _ triples, fun p' cv hcv => ?_⟩
      rw [listed] at hcv
      rcases LamX.among_app _ triples hcv with z | z
      · obtain ⟨c0, e1, e2⟩ := among p' cv z
        exact ⟨c0, e1, x.obj _ _ e2⟩
      · exact ⟨c1, z, upd_same⟩
    · obtain ⟨ps', a1, a2, a3⟩ := hw.tab p hp
      refine ⟨ps', by rw [upd_ne (ne_of_none a1 nC), upd_ne hb]; exact a1, a2, fun p' cv hcv => ?_⟩
      obtain ⟨c0, e1, e2⟩ := a3 p' cv hcv
      exact ⟨c0, e1, x.obj _ _ e2⟩
end
end Iv

set_option maxRecDepth 100000
namespace Iv
open PySem PySem.Spec PyProof.Rows L2
section
variable {X : Cx}
/-- the def that got a lambda calls it -/
theorem act {T1 : CXT} {E1 : XK} {Ng : List Str} {qg q a : Str} {sg scope : Scope} {g f c' : Addr} {cdg : Value} {params : Arguments} {body : Expr} {k i : Nat} {pn : List (Addr × Obj)} {xe : Value → Shared → Prop} {W : WX} {tb : XK → TE} {p1 p2 : Pos} {pins : List (Addr × Obj)} {σ : Sg} {H : Hp} {s : Shared}
    (I : Inv X pins σ H s) (L : LamX.LamS X.env.scope scope) (hq : q = X.env.qual ++ "<lambda>") (hbind : ∀ (pm cv ctv : Value), bindArgs (PySem.W.kla_fn "<lambda>" q params body scope (cloFrom X.env.cells scope.names []) pm cv ctv) ⟨[], []⟩ = pure [])
    (tk : Takes ((cxOf T1 X.prog X.w X.K X.mg X.base Ng qg sg g cdg X.A X.stack s H E1).tr pn xe) W) (hr : Room (k + 1) (X.A.deeper (envOfC qg sg s.heap.objs.size g cdg)))
    (hbody : ∀ (A : Around) (outer : List PySem.Env) (s : Shared) (H : Hp) (E : XK), Room k (A.deeper (LamX.lamEnv X scope s.heap.objs.size f c')) → PE (LamX.lamCx X A outer s H E scope f c') body (tb E))
    (hN : Ng[i]? = some a) (hv : Vis sg a) (hd : (a == ("__debug__" : Str)) = false) (hcd : (a == ("__classdict__" : Str)) = false) :
    PE ((cxOf T1 X.prog X.w X.K X.mg X.base Ng qg sg g cdg X.A X.stack s H E1).tr pn xe) (.Call (.Name a p1) [] [] p2)
      (fun τ HZ Q => τ[i]? = some (some (.ref f)) ∧ HZ f = some (.ext (CloP q params body scope (cloFrom X.env.cells scope.names []) f c')) ∧ HZ c' = some (LamX.CodeO c' q) ∧ tb (fun cls d H' => W cls d τ H') σ HZ Q) := by
  subst hq
  constructor
  intro pz sz τ HZ Q IZ want
  obtain ⟨w1, w2, w3, w4⟩ := want
  have name := (pe_var (pos := p1) (i := i) hN hv hd hcd).run pz sz τ HZ (fun v H1 => v = .ref f ∧ H1 = HZ) IZ ⟨_, w1, rfl, rfl⟩
  refine wpAny_Call_Name_kw (thn name fun u s1 got => ?_)
  obtain ⟨v, H1, J, ru, rfl, rfl⟩ := got
  obtain rfl : u = Value.ref f := ru
  obtain ⟨⟨pm, ctv, obj⟩, _, _⟩ := J.hok f _ w2
  obtain ⟨⟨oc, vs, t, cd1, cd2, cd3⟩, _, _⟩ := J.hok c' _ w3
  refine PySem.W.callWith_F0 ⟨_, _, _, _, obj⟩ ?_
  have between : Un (frs X.stack) [] H H1 s.heap s1.heap := J.base
  have inside : codeAny (model X.prog X.w) (X.A.deeper (envOfC qg sg s.heap.objs.size g cdg)) (.call (.ref f) ⟨[], []⟩) (CR (L2.CX X.prog X.w) (envOfC qg sg s.heap.objs.size g cdg :: X.stack) X.prog X.w H1 s1 Q (fun cls d H' => W cls d τ H')) s1 := by
    refine PySem.W.kla_callFunE hr.depth obj rfl L.co L.gen rfl ⟨c', oc, vs, t, rfl, cd1, cd2, cd3⟩ ?_
    rw [hbind]
    refine wpAny_pure (wpAny_newFunctionEnv (fun y hy => (L.own y hy).2) (fun y hy => nomatch hy) (fun h1 ns sb => ⟨J.nolimit.fresh _ sb, ?_⟩) L.kind)
    show codeAny _ _ (.expr body (LamX.lamEnv X scope s1.heap.objs.size f c')) _ _
    have kept : ∀ b o, s1.heap.get? b = some o → h1.get? b = some o := fun b o e => sb.extBut b o (Nat.ne_of_lt (Heap.lt_size e)) (Heap.get?_push_of_some _ e)
    have start : Inv (LamX.lamCx X (X.A.deeper (envOfC qg sg s.heap.objs.size g cdg)) (envOfC qg sg s.heap.objs.size g cdg :: X.stack) s1 H1 (fun cls d H' => W cls d τ H') scope f c') [] σ H1 { s1 with heap := h1, toks := s1.toks + ([] : List (Str × Value)).length } := LamX.lam_start2 I L J.env0 hr.hd between ns kept
    refine PySem.W.kla_codeExpr (wpAny_mono ((hbody _ _ s1 H1 _ (hr.deeper _)).run [] _ _ H1 Q start w4) (fun v s' out => ?_) fun e s' out => out)
    obtain ⟨w, H', J', rw', q'⟩ := out
    exact ⟨w, H', J'.os, J'.bare, J'.base, J'.hok, rw', q'⟩
  refine wpAny_call (codeAny_mono inside fun r s' out => ?_)
  match r, out with
  | .error e, out => exact tk e s' (XE.of_call J (fun _ _ _ h => h) out)
  | .ok (.ret u), out => exact J.after out
/-- a lambda's body, in its own context -/
abbrev InLam (X : Cx) (scope : Scope) (k : Nat) (P : Cx → Prop) : Prop := ∀ (A : Around) (outer : List PySem.Env) (s : Shared) (H : Hp) (E : XK) (f c' : Addr), Room k (A.deeper (LamX.lamEnv X scope s.heap.objs.size f c')) → P (LamX.lamCx X A outer s H E scope f c')
theorem takes_lam {A : Around} {outer : List PySem.Env} {s : Shared} {H : Hp} {E : XK} {scope : Scope} {f c' : Addr} : Takes (LamX.lamCx X A outer s H E scope f c') (fun cls d _ H => E cls d H) := takes_of rfl rfl rfl rfl
end
/-! what the closures of a def are: body and program -/
structure CloS (X : Cx) (T : Tb) (k : Nat) (q : Str) (b : M) (params : Arguments) (body : Expr) (scope : Scope) : Prop where
  hq : q = X.env.qual ++ "<lambda>"
  L : LamX.LamS X.env.scope scope
  bind : ∀ (pm cv ctv : Value), bindArgs (PySem.W.kla_fn "<lambda>" q params body scope (cloFrom X.env.cells scope.names []) pm cv ctv) ⟨[], []⟩ = pure []
  run : InLam X scope k fun Y => ∀ W, Takes Y W → PE Y body (tI X.K T W b)
def caughtR (r : R D) : R D := match r with
  | .ok _ h => .ok .non h
  | .ex c h => .ok (.exc c) h
  | .bad => .bad
def mCaught (bs : List M) (m : M) : M := fun env h => (m env h).bind fun d h1 => match d with
  | .clo j => match bs[j]? with
    | some b => caughtR (gcR false h1.length (b env h1))
    | none => .bad
  | _ => .bad
section
variable {X : Cx} {T : Tb} {W : WX}
/-- the call of _law_caught on a lambda -/
theorem caught_code {bs : List M} {x a y er ex : Str} {g CS : Addr} {k : Nat} {pg : Arguments} {sg : Scope} {dV kV doc pm cdv ct oc : Value} {an od : Option Addr} {osl : Array (Option Value)} {Ng : List Str} {b : M} {j : Nat} {pins : List (Addr × Obj)} {σ : Sg} {H1 : Hp} {s1 : Shared} {ρ1 : List Addr} {env : Env} {h1 : Hs} {v : V} {u : Value} {Q : VK} {Wx : Value → Option Addr → Hp → Prop}
    {p1 p2 p3 p4 p5 p6 p7 p8 p9 pa pb pc pd pe : Pos} {jn : Nat} (lk : X.K.lookup g = some ⟨oc, od, .func (PySem.W.fnOf x x pg [.Assign [.Name y p1] (.Constant .none jn p2) p3, .Try [.Expr (.Call (.Name a p4) [] [] p5) p6] [.ExceptHandler (some (.Name ex p7)) (some er) [.Assign [.Name y p8] (.Name er p9) pa] pb] [] [] pc, .Return (some (.Name y pd)) pe] sg dV kV doc pm an cdv ct), osl⟩)
    (hcg : PySem.W.codeIn X.K cdv x = true) (hb : L2.Binds X.K (PySem.W.fnOf x x pg [.Assign [.Name y p1] (.Constant .none jn p2) p3, .Try [.Expr (.Call (.Name a p4) [] [] p5) p6] [.ExceptHandler (some (.Name ex p7)) (some er) [.Assign [.Name y p8] (.Name er p9) pa] pb] [] [] pc, .Return (some (.Name y pd)) pe] sg dV kV doc pm an cdv ct) [a] [])
    (Sg : FnScope Ng [a] sg) (N0 : Ng = [a, y, er]) (va : sg.names.lookup a = some .local) (vy : sg.names.lookup y = some .local) (ve : sg.names.lookup er = some .local) (gex : sg.names.lookup ex = some .globalImplicit) (mex : X.mg ex = some (.ref CS))
    (dbg : (a == ("__debug__" : Str)) = false ∧ (a == ("__classdict__" : Str)) = false ∧ (y == ("__debug__" : Str)) = false ∧ (y == ("__classdict__" : Str)) = false ∧ (er == ("__debug__" : Str)) = false ∧ (er == ("__classdict__" : Str)) = false ∧ (ex == ("__debug__" : Str)) = false ∧ (x == ("__debug__" : Str)) = false)
    (exm : ∀ c, PySem.W.exmOne X.K (.ref (T.cls c)) (.ref CS) = some true) (hr : Room (k + 2) X.A)
    (hcl : ∀ f j b, bs[j]? = some b → ∃ q params body scope, T.clo j f = some (CloP q params body scope (cloFrom X.env.cells scope.names []) f, q) ∧ CloS X T k q b params body scope)
    (I1 : Inv X pins σ H1 s1) (w1 : RelH X.K T H1 ρ1 h1) (e1 : RelEnv X.K T H1 ρ1 env σ) (ru : L2.RelV v u) (rv : RelD X.K T H1 ρ1 (.clo j) v) (ej : bs[j]? = some b) (p1 : PostV X.K T (RelD X.K T) H1 ρ1 (caughtR (gcR false h1.length (b env h1))) Q Wx) :
    codeAny (model X.prog X.w) X.A (.call (.ref g) ⟨[u], []⟩) (CR (fun _ _ _ _ _ _ => False) X.stack X.prog X.w H1 s1 Q (fun _ _ _ => False)) s1 := by
  obtain ⟨d1, d2, d3, d4, d5, d6, d7, d8⟩ := dbg
  subst N0
  unfold RelD at rv
  obtain ⟨f, rfl, cl⟩ := rv
  obtain ⟨q, params, body, scope, tc, S⟩ := hcl f j b ej
  obtain ⟨c', hf, hc⟩ := cl _ _ tc
  refine LamX.run_ofS (N := [a, y, er]) (ps := [a]) (us := [u]) (vs := [.ref f]) lk hcg Sg hr I1.env0 (hb s1 [u] I1.kIn rfl) (.cons ru .nil) rfl fun hr' => ?_
  have tbody : ∀ (W : WX) (pn : List (Addr × Obj)) (xe : Value → Shared → Prop), Takes ((cxOf (fun _ _ _ _ _ _ => False) X.prog X.w X.K X.mg X.base [a, y, er] x sg g cdv X.A X.stack s1 H1 (fun _ _ _ => False)).tr pn xe) W → PassesOwn (model X.prog X.w) (X.A.deeper (envOfC x sg s1.heap.objs.size g cdv)) (envOfC x sg s1.heap.objs.size g cdv) xe →
      PSs ((cxOf (fun _ _ _ _ _ _ => False) X.prog X.w X.K X.mg X.base [a, y, er] x sg g cdv X.A X.stack s1 H1 (fun _ _ _ => False)).tr pn xe) [.Expr (.Call (.Name a p4) [] [] p5) p6]
        (tDrop (fun τ HZ Q => τ[0]? = some (some (.ref f)) ∧ HZ f = some (.ext (CloP q params body scope (cloFrom X.env.cells scope.names []) f c')) ∧ HZ c' = some (LamX.CodeO c' q) ∧ tI X.K T (fun cls d _ H' => W cls d τ H') b σ HZ Q)) :=
    fun W pn xe tk _ => pss_one (ps_expr (act (tb := fun E => tI X.K T (fun cls d _ H' => E cls d H') b) I1 S.L S.hq S.bind tk hr' (fun A outer s H E hr2 => S.run A outer s H E f c' hr2 _ takes_lam) rfl (.inl va) d1 d2) rfl)
  refine ⟨_, pss_cons (ps_set (i := 1) Sg.nd rfl (.inl vy) pe_non rfl (.inl rfl)) (pss_cons (ps_tryc (c := .ref CS) (i := 2) (j := 1) rfl rfl rfl Sg.nd rfl ve rfl vy d5 d6 rfl ⟨gex, d7, .inl mex⟩ tbody) (pss_one (ps_ret (pe_var (i := 1) rfl (.inl vy) d3 d4)))), ?_⟩
  refine ⟨rfl, hf, hc, ρ1, env, h1, w1, e1, PostV.gc (m := false) (n := h1.length) w1.len ?_⟩
  cases eg : gcR false h1.length (b env h1) with
  | bad => rw [eg] at p1; exact p1
  | ok d2 h2 =>
    rw [eg] at p1
    exact fun H2 ρ2 v2 x2 w2 r2 => ⟨.non, rfl, p1 H2 ρ2 .non x2 w2 (by unfold RelD; rfl)⟩
  | ex c h2 =>
    rw [eg] at p1
    exact fun H2 ρ2 x2 w2 => ⟨exm c, rfl, T.cls c, rfl, fun a2 na => ⟨.ref a2, rfl, p1 _ ρ2 (.ref a2) (x2.trans (Ext.new na)) (w2.new na) (by unfold RelD; exact ⟨a2, rfl, upd_same⟩)⟩⟩
/-- _law_caught(e) -/
theorem den_caught {bs : List M} {x a y er ex : Str} {g CS : Addr} {k : Nat} {pg : Arguments} {sg : Scope} {dV kV doc pm cdv ct oc : Value} {an od : Option Addr} {osl : Array (Option Value)} {Ng : List Str} {e : Expr} {ms : M} {p pos : Pos}
    {p1 p2 p3 p4 p5 p6 p7 p8 p9 pa pb pc pd pe : Pos} {jn : Nat} (hg : Gl X x) (hm : X.mg x = some (.ref g)) (hk : PySem.W.keepIn X.K (.ref g) = true)
    (lk : X.K.lookup g = some ⟨oc, od, .func (PySem.W.fnOf x x pg [.Assign [.Name y p1] (.Constant .none jn p2) p3, .Try [.Expr (.Call (.Name a p4) [] [] p5) p6] [.ExceptHandler (some (.Name ex p7)) (some er) [.Assign [.Name y p8] (.Name er p9) pa] pb] [] [] pc, .Return (some (.Name y pd)) pe] sg dV kV doc pm an cdv ct), osl⟩)
    (hcg : PySem.W.codeIn X.K cdv x = true) (hb : L2.Binds X.K (PySem.W.fnOf x x pg [.Assign [.Name y p1] (.Constant .none jn p2) p3, .Try [.Expr (.Call (.Name a p4) [] [] p5) p6] [.ExceptHandler (some (.Name ex p7)) (some er) [.Assign [.Name y p8] (.Name er p9) pa] pb] [] [] pc, .Return (some (.Name y pd)) pe] sg dV kV doc pm an cdv ct) [a] [])
    (Sg : FnScope Ng [a] sg) (N0 : Ng = [a, y, er]) (va : sg.names.lookup a = some .local) (vy : sg.names.lookup y = some .local) (ve : sg.names.lookup er = some .local) (gex : sg.names.lookup ex = some .globalImplicit) (mex : X.mg ex = some (.ref CS))
    (dbg : (a == ("__debug__" : Str)) = false ∧ (a == ("__classdict__" : Str)) = false ∧ (y == ("__debug__" : Str)) = false ∧ (y == ("__classdict__" : Str)) = false ∧ (er == ("__debug__" : Str)) = false ∧ (er == ("__classdict__" : Str)) = false ∧ (ex == ("__debug__" : Str)) = false ∧ (x == ("__debug__" : Str)) = false)
    (exm : ∀ c, PySem.W.exmOne X.K (.ref (T.cls c)) (.ref CS) = some true) (hr : Room (k + 2) X.A)
    (hcl : ∀ f j b, bs[j]? = some b → ∃ q params body scope, T.clo j f = some (CloP q params body scope (cloFrom X.env.cells scope.names []) f, q) ∧ CloS X T k q b params body scope)
    (he : PE X e (tI X.K T W ms)) (hse : starEach [e] X.env = (false, eval e X.env) :: starEach [] X.env) (hpl : (backTo pos (starEach [] X.env)).any (·.1) = false) :
    PE X (.Call (.Name x p) [e] [] pos) (tI X.K T W (mCaught bs ms)) := by
  obtain ⟨d1, d2, d3, d4, d5, d6, d7, d8⟩ := dbg
  subst N0
  constructor
  intro pins s σ H Q I ⟨ρ, env, h, hw, hee, p⟩
  have ha : PA X [e] (tIs X.K T W (mCons ms mNil)) := den_cons he den_nil hse
  refine wpAny_Call_Name_kw (ld_glob I hg hm ?_ d8)
  refine PySem.W.callWith_K (h₀ := X.base) I.ok.mod.kin hk (thn (ha.run pos pins s σ H (fun vs H1 => ∃ v ρ1 d h1, vs = [v] ∧ RelH X.K T H1 ρ1 h1 ∧ RelEnv X.K T H1 ρ1 env σ ∧ RelD X.K T H1 ρ1 d v ∧
    PostV X.K T (RelD X.K T) H1 ρ1 (match d with | .clo j => (match bs[j]? with | some b => caughtR (gcR false h1.length (b env h1)) | none => .bad) | _ => .bad) Q (fun c d H' => W c d σ H')) I ?_) fun us s1 got => ?_) hse hpl
  · refine ⟨ρ, env, h, hw, hee, ?_⟩
    unfold mCaught at p
    unfold mCons mNil
    cases em : ms env h with
    | bad => rw [em] at p; exact p
    | ex c h1 => rw [em] at p; exact p
    | ok d h1 =>
      rw [em] at p
      intro H1 ρ1 vs x1 w1 r1
      obtain ⟨v, rfl, rv⟩ := r1.one
      exact ⟨v, ρ1, d, h1, rfl, w1, hee.mono x1, rv, PostV.mono x1 p⟩
  · obtain ⟨vs, H1, I1, r, v, ρ1, d, h1, rfl, w1, e1, rv, p1⟩ := got
    refine ⟨I1.kIn, ?_⟩
    cases r with
    | cons ru rn =>
      cases rn
      rename_i u
      split at p1
      · rename_i j
        split at p1
        · rename_i b ej
          refine wpAny_call (codeAny_mono (caught_code lk hcg hb Sg rfl va vy ve gex mex ⟨d1, d2, d3, d4, d5, d6, d7, d8⟩ exm hr hcl I1 w1 e1 ru rv ej p1) fun r s2 out => ?_)
          match r, out with
          | .error e, out => exact False.elim out
          | .ok (.ret u), out => exact I1.after out
        · exact p1.elim
      · exact p1.elim
end
end Iv

set_option maxRecDepth 100000
namespace Iv
open PySem PySem.Spec PyProof.Rows L2
/-! a frame with closures calls a def: closures don't go there and come back -/
abbrev Tb.no (T : Tb) : Tb := { T with clo := fun _ _ => none }
section
variable {K : PySem.W.Frag} {T : Tb} {H : Hp} {ρ : List Addr} {h : Hs}
mutual
theorem RelD.drop {d : D} : ∀ {v : V}, RelD K T H ρ d v → RelD K T.no H ρ d v := by
  intro v q
  match d with
  | .non => unfold RelD at q ⊢; exact q
  | .bl b => unfold RelD at q ⊢; exact q
  | .int i => unfold RelD at q ⊢; exact q
  | .str y => unfold RelD at q ⊢; exact q
  | .tup ds =>
    unfold RelD at q ⊢
    obtain ⟨a, vs, e, s, q⟩ := q
    exact ⟨a, vs, e, s, RelDs.dropC q⟩
  | .lst ds =>
    unfold RelD at q ⊢
    obtain ⟨a, vs, e, s, n, q⟩ := q
    exact ⟨a, vs, e, s, n, RelDs.dropC q⟩
  | .scr ds =>
    unfold RelD at q ⊢
    obtain ⟨a, vs, e, s, q⟩ := q
    exact ⟨a, vs, e, s, RelDs.dropC q⟩
  | .dct ks ds =>
    unfold RelD at q ⊢
    obtain ⟨a, vs, e, s, n, k, q⟩ := q
    exact ⟨a, vs, e, s, n, k, RelDs.dropC q⟩
  | .dcu ks ds =>
    unfold RelD at q ⊢
    obtain ⟨a, vs, e, s, n, k, q⟩ := q
    exact ⟨a, vs, e, s, n, k, RelDs.dropC q⟩
  | .ref k => unfold RelD at q ⊢; exact q
  | .ty n => unfold RelD at q ⊢; exact q
  | .own n => unfold RelD at q ⊢; exact q
  | .exc n => unfold RelD at q ⊢; exact q
  | .fn n => unfold RelD at q ⊢; exact q
  | .clo j =>
    unfold RelD at q ⊢
    obtain ⟨f, e, _⟩ := q
    exact ⟨f, e, fun φ q z => nomatch z⟩
theorem RelDs.dropC {ds : List D} : ∀ {vs : List V}, RelDs K T H ρ ds vs → RelDs K T.no H ρ ds vs := by
  intro vs q
  match ds with
  | [] => unfold RelDs at q ⊢; exact q
  | d :: ds =>
    unfold RelDs at q ⊢
    obtain ⟨v, s, e, q1, q2⟩ := q
    exact ⟨v, s, e, RelD.drop q1, RelDs.dropC q2⟩
end
mutual
theorem RelD.lift {n : Nat} {d : D} : ∀ {v : V}, ltD n d = true → RelD K T.no H ρ d v → RelD K T H ρ d v := by
  intro v hl q
  match d with
  | .non => unfold RelD at q ⊢; exact q
  | .bl b => unfold RelD at q ⊢; exact q
  | .int i => unfold RelD at q ⊢; exact q
  | .str y => unfold RelD at q ⊢; exact q
  | .tup ds =>
    unfold ltD at hl
    unfold RelD at q ⊢
    obtain ⟨a, vs, e, s, q⟩ := q
    exact ⟨a, vs, e, s, RelDs.lift hl q⟩
  | .lst ds =>
    unfold ltD at hl
    unfold RelD at q ⊢
    obtain ⟨a, vs, e, s, n, q⟩ := q
    exact ⟨a, vs, e, s, n, RelDs.lift hl q⟩
  | .scr ds =>
    unfold ltD at hl
    unfold RelD at q ⊢
    obtain ⟨a, vs, e, s, q⟩ := q
    exact ⟨a, vs, e, s, RelDs.lift hl q⟩
  | .dct ks ds =>
    unfold ltD at hl
    unfold RelD at q ⊢
    obtain ⟨a, vs, e, s, n, k, q⟩ := q
    exact ⟨a, vs, e, s, n, k, RelDs.lift hl q⟩
  | .dcu ks ds =>
    unfold ltD at hl
    unfold RelD at q ⊢
    obtain ⟨a, vs, e, s, n, k, q⟩ := q
    exact ⟨a, vs, e, s, n, k, RelDs.lift hl q⟩
  | .ref k => unfold RelD at q ⊢; exact q
  | .ty n => unfold RelD at q ⊢; exact q
  | .own n => unfold RelD at q ⊢; exact q
  | .exc n => unfold RelD at q ⊢; exact q
  | .fn n => unfold RelD at q ⊢; exact q
  | .clo j => unfold ltD at hl; cases hl
theorem RelDs.lift {n : Nat} {ds : List D} : ∀ {vs : List V}, ltDs n ds = true → RelDs K T.no H ρ ds vs → RelDs K T H ρ ds vs := by
  intro vs hl q
  match ds with
  | [] => unfold RelDs at q ⊢; exact q
  | d :: ds =>
    unfold ltDs at hl
    rw [Bool.and_eq_true] at hl
    unfold RelDs at q ⊢
    obtain ⟨v, s, e, q1, q2⟩ := q
    exact ⟨v, s, e, RelD.lift hl.1 q1, RelDs.lift hl.2 q2⟩
end
theorem RelH.drop (R : RelH K T H ρ h) : RelH K T.no H ρ h := ⟨R.len, R.nd, fun n ob a e1 e2 => by
  have q := R.at_ n ob a e1 e2
  cases ob with
  | lst ds => obtain ⟨vs, e, q⟩ := q; exact ⟨vs, e, RelDs.dropC q⟩
  | dic ks ds => obtain ⟨kvs, e, z, q⟩ := q; exact ⟨kvs, e, z, RelDs.dropC q⟩
  | dit ks ds => obtain ⟨kvs, e, z, q⟩ := q; exact ⟨kvs, e, z, RelDs.dropC q⟩
  | ins c ns ds => obtain ⟨dx, fs, e, z, q⟩ := q; exact ⟨dx, fs, e, z, RelDs.dropC q⟩, R.tab⟩
theorem RelH.lift {n : Nat} (hl : h.all (ltO n) = true) (R : RelH K T.no H ρ h) : RelH K T H ρ h := ⟨R.len, R.nd, fun m ob a e1 e2 => by
  have q := R.at_ m ob a e1 e2
  have ho := List.all_eq_true.mp hl ob (List.mem_of_getElem? e1)
  cases ob with
  | lst ds => obtain ⟨vs, e, q⟩ := q; exact ⟨vs, e, RelDs.lift ho q⟩
  | dic ks ds => obtain ⟨kvs, e, z, q⟩ := q; exact ⟨kvs, e, z, RelDs.lift ho q⟩
  | dit ks ds => obtain ⟨kvs, e, z, q⟩ := q; exact ⟨kvs, e, z, RelDs.lift ho q⟩
  | ins c ns ds => obtain ⟨dx, fs, e, z, q⟩ := q; exact ⟨dx, fs, e, z, RelDs.lift ho q⟩, R.tab⟩
end
def chkR (r : R D) : R D := match r with
  | .ok d h => if h.all (ltO h.length) && ltD h.length d then .ok d h else .bad
  | .ex c h => if h.all (ltO h.length) then .ex c h else .bad
  | .bad => .bad
theorem chk_post {K : PySem.W.Frag} {T : Tb} {H : Hp} {ρ : List Addr} {r : R D} {Q : V → Hp → Prop} {Wx : Value → Option Addr → Hp → Prop} (p : PostV K T (RelD K T) H ρ (chkR r) Q Wx) : PostV K T.no (RelD K T.no) H ρ r Q Wx := by
  cases r with
  | bad => exact p
  | ok d h =>
    unfold chkR at p
    dsimp only at p
    split at p
    · rename_i hl
      rw [Bool.and_eq_true] at hl
      exact fun H' ρ' v x w q => p H' ρ' v x (RelH.lift hl.1 w) (RelD.lift hl.2 q)
    · exact p.elim
  | ex c h =>
    unfold chkR at p
    dsimp only at p
    split at p
    · rename_i hl
      exact fun H' ρ' x w => p H' ρ' x (RelH.lift hl w)
    · exact p.elim
def mCallX (φ : Fm) (m : Bool) (perm : List Nat) (ms mk : Ms) : M := fun env h => (ms env h).bind fun ds h1 => (mk env h1).bind fun es h2 => chkR (gcR m h2.length (φ (pick .non perm (ds ++ es)) h2))
theorem gc_no {K : PySem.W.Frag} {T : Tb} {H : Hp} {ρ : List Addr} {m : Bool} {n : Nat} {r : R D} {Q : V → Hp → Prop} {Wx : Value → Option Addr → Hp → Prop} (hn : ρ.length = n) (p : PostV K T (RelD K T) H ρ (chkR (gcR m n r)) Q Wx) : PostV K T.no (RelD K T.no) H ρ r Q Wx := PostV.gc hn (chk_post p)
section
variable {X : Cx} {T : Tb} {W : WX}
theorem den_callX {φ : Fm} {m : Bool} {k n np : Nat} {f : Addr} {fd : FuncData} {ps ks : List Str} {perm : List Nat} {x : Str} {p pos : Pos} {e : Expr} {r : List Expr} {kws : List Keyword} {ms mk : Ms} (tk : Takes X W) (F : FnOk X.prog X.w X.K X.mg X.base (L2.CX X.prog X.w) k f fd ps (spI X.K T.no φ np)) (hnp : perm.length = np) (hr : Room k X.A) (hg : Gl X x) (hm : X.mg x = some (.ref f)) (hk : PySem.W.keepIn X.K (.ref f) = true)
    (hb : BindG fd ps n ks perm) (ha : PA X (e :: r) (tIs X.K T W ms)) (hkw : PK X kws (tIs X.K T W mk)) (hall : (backToKw pos (keywordEach kws X.env)).all (·.1.isSome) = true) (hks : (backToKw pos (keywordEach kws X.env)).filterMap (·.1) = ks)
    (hdb : (x == ("__debug__" : Str)) = false) (he : starEach (e :: r) X.env = (false, eval e X.env) :: starEach r X.env)
    (hpl : ((backTo pos (starEach (e :: r) X.env)).any (·.1) || (backToKw pos (keywordEach kws X.env)).any (·.1.isNone)) = false)
    (hl1 : ∀ env h ds h1, ms env h = .ok ds h1 → ds.length = n) (hl2 : ∀ env h ds h1, mk env h = .ok ds h1 → ds.length = ks.length) :
    PE X (.Call (.Name x p) (e :: r) kws pos) (tI X.K T W (mCallX φ m perm ms mk)) := by
  subst hnp
  refine PE.imp (pe_callG F hr hg hm hk hb (passAt tk) ha hkw hall hks hdb he hpl) fun σ H Q ⟨ρ, env, h, hw, he, p⟩ => ?_
  unfold mCallX at p
  refine ⟨ρ, env, h, hw, he, ?_⟩
  cases e1 : ms env h with
  | bad => rw [e1] at p; exact p
  | ex c h1 => rw [e1] at p; exact p
  | ok ds h1 =>
    rw [e1] at p
    intro H1 ρ1 vs x1 w1 r1
    refine ⟨ρ1, env, h1, w1, he.mono x1, ?_⟩
    have p1 := PostV.mono x1 p
    dsimp only [R.bind] at p1
    cases e2 : mk env h1 with
    | bad => rw [e2] at p1; exact p1
    | ex c h2 => rw [e2] at p1; exact p1
    | ok es h2 =>
      rw [e2] at p1
      intro H2 ρ2 zs x2 w2 r2
      have p2 := gc_no w2.len (PostV.mono x2 p1)
      have ra : RelDs X.K T H2 ρ2 (ds ++ es) (vs ++ zs) := (r1.mono x2).app r2
      have l1 := hl1 env h ds h1 e1
      have l2 := hl2 env h1 es h2 e2
      refine ⟨by rw [← RelDs.len r1]; exact l1, by rw [← RelDs.len r2]; exact l2, by unfold pick; rw [List.length_map], ρ2, _, h2, w2.drop, RelDs.dropC (RelDs.pick ra (fun i hi => ?_)), p2⟩
      rw [← RelDs.len ra, List.length_append, l1, l2]
      exact hb.1 i hi
/-- keywords alone -/
theorem den_callX0 {φ : Fm} {m : Bool} {k np : Nat} {f : Addr} {fd : FuncData} {ps ks : List Str} {perm : List Nat} {x : Str} {p pos : Pos} {kws : List Keyword} {mk : Ms} (tk : Takes X W) (F : FnOk X.prog X.w X.K X.mg X.base (L2.CX X.prog X.w) k f fd ps (spI X.K T.no φ np)) (hnp : perm.length = np) (hr : Room k X.A) (hg : Gl X x) (hm : X.mg x = some (.ref f)) (hk : PySem.W.keepIn X.K (.ref f) = true)
    (hb : BindG fd ps 0 ks perm) (hkw : PK X kws (tIs X.K T W mk)) (hall : (backToKw pos (keywordEach kws X.env)).all (·.1.isSome) = true) (hks : (backToKw pos (keywordEach kws X.env)).filterMap (·.1) = ks)
    (hdb : (x == ("__debug__" : Str)) = false) (hpl : ((backTo pos (starEach [] X.env)).any (·.1) || (backToKw pos (keywordEach kws X.env)).any (·.1.isNone)) = false)
    (hl2 : ∀ env h ds h1, mk env h = .ok ds h1 → ds.length = ks.length) :
    PE X (.Call (.Name x p) [] kws pos) (tI X.K T W (mCallX φ m perm mNil mk)) := by
  subst hnp
  refine PE.imp (pe_callG0 F hr hg hm hk hb (passAt tk) hkw hall hks hdb hpl) fun σ H Q ⟨ρ, env, h, hw, he, p⟩ => ?_
  unfold mCallX mNil at p
  dsimp only [R.bind] at p
  refine ⟨ρ, env, h, hw, he, ?_⟩
  cases e2 : mk env h with
  | bad => rw [e2] at p; exact p
  | ex c h2 => rw [e2] at p; exact p
  | ok es h2 =>
    rw [e2] at p
    intro H2 ρ2 zs x2 w2 r2
    have p2 := gc_no w2.len (PostV.mono x2 p)
    have l2 := hl2 env h es h2 e2
    refine ⟨by rw [← RelDs.len r2]; exact l2, by unfold pick; rw [List.length_map], ρ2, _, h2, w2.drop, RelDs.dropC (RelDs.pick r2 (fun i hi => ?_)), by rw [List.nil_append] at p2; exact p2⟩
    rw [← RelDs.len r2, l2]
    have := hb.1 i hi
    omega
end
end Iv

set_option maxRecDepth 100000
namespace Iv
open PySem PySem.Spec PyProof.Rows L2
/-! words for the generated terms -/
theorem _root_.L2.Room.u65 {k : Nat} {A : Around} (r : Room k A) : A.units + 65 < cLine := by have := r.un; omega
theorem _root_.L2.Room.u0 {k : Nat} {A : Around} (r : Room k A) : A.units < cLine := by have := r.un; omega
theorem _root_.L2.Room.u1 {k : Nat} {A : Around} (r : Room k A) : A.units + 1 < cLine := by have := r.un; omega
theorem len0 : ∀ env h ds h1, mNil env h = .ok ds h1 → ds.length = 0 := fun env h ds h1 e => by cases e; rfl
theorem lenS {m : M} {ms : Ms} {n : Nat} (hl : ∀ env h ds h1, ms env h = .ok ds h1 → ds.length = n) : ∀ env h ds h1, mCons m ms env h = .ok ds h1 → ds.length = n + 1 := fun env h ds h1 e => by
  unfold mCons at e
  cases e1 : m env h with
  | bad => rw [e1] at e; cases e
  | ex c h2 => rw [e1] at e; cases e
  | ok d h2 =>
    rw [e1] at e
    dsimp only [R.bind] at e
    cases e2 : ms env h2 with
    | bad => rw [e2] at e; cases e
    | ex c h2 => rw [e2] at e; cases e
    | ok r h3 => rw [e2] at e; cases e; rw [List.length_cons, hl _ _ _ _ e2]
theorem Fun.bindG {K : PySem.W.Frag} {x qual : Str} {st : Stmt} {f : Addr} {fd : FuncData} {ps ks : List Str} {n : Nat} {perm : List Nat} (F : Fun K x qual st f fd) (hp : ∀ i ∈ perm, i < n + ks.length)
    (h : ∀ (kV doc pm : Value) (an : Option Addr) (cdv ct : Value) (us ws : List Value), us.length = n → ws.length = ks.length → bindArgs (PySem.W.fnOf x qual (defArgs st) (defBody st) (defScope st) .none kV doc pm an cdv ct) ⟨us, ks.zip ws⟩ = pure (ps.zip (pick .none perm (us ++ ws)))) : BindG fd ps n ks perm := by
  obtain ⟨oc, od, kV, doc, pm, an, cdv, ct, osl, rfl, _, _⟩ := F.ex
  exact ⟨hp, fun us ws h1 h2 => h kV doc pm an cdv ct us ws h1 h2⟩
section
variable {P : Program} {w : World} {K : PySem.W.Frag} {mg : Str → Option Value} {base : Heap} {T : Tb}
/-- a def by its body's reading, in its own context -/
theorem den_fn {name qual : Str} {st : Stmt} {f : Addr} {fd : FuncData} {N ps : List Str} {k n kk : Nat} {m : MS} (F : Fun K name qual st f fd) (S : FnScope N ps (defScope st)) (hn : ps.length = n) (hk : N.length - ps.length = kk)
    (hbody : ∀ (cdv : Value) (A : Around) (outer : List PySem.Env) (s : Shared) (H : Hp) (E : XK), Room k (A.deeper (envOfC qual (defScope st) s.heap.objs.size f cdv)) → ∀ W, Takes (cxOf (L2.CX P w) P w K mg base N qual (defScope st) f cdv A outer s H E) W →
      PassesOwn (model P w) (A.deeper (envOfC qual (defScope st) s.heap.objs.size f cdv)) (envOfC qual (defScope st) s.heap.objs.size f cdv) (cxOf (L2.CX P w) P w K mg base N qual (defScope st) f cdv A outer s H E).xe →
      PSs (cxOf (L2.CX P w) P w K mg base N qual (defScope st) f cdv A outer s H E) (defBody st) (tIS K T W m)) :
    FnOk P w K mg base (L2.CX P w) (k + 1) f fd ps (spI K T (defR m kk) n) := by
  subst hn hk
  refine F.okX S (fun vs H Q E h => h.1) fun cdv A outer s H vs Q E hr h => ?_
  obtain ⟨hl, ρ, ds, h, hw, rs, p⟩ := h
  refine ⟨_, hbody cdv A outer s H E hr (fun cls d _ H => E cls d H) (takes_of rfl rfl rfl rfl) (passes_of rfl), ?_⟩
  refine ⟨ρ, ds.map some ++ List.replicate (N.length - ps.length) none, h, hw, rel_start rs _ (by rw [hl]), ?_⟩
  unfold defR at p
  cases e : m (ds.map some ++ List.replicate (N.length - ps.length) none) h with
  | nx e' h' => rw [e] at p; exact fun H' ρ' σ' x w' re => p H' ρ' .non x w' (by unfold RelD; rfl)
  | rt d h' => rw [e] at p; exact p
  | ex c e' h' => rw [e] at p; exact fun H' ρ' σ' x w' re => p H' ρ' x w'
  | bk e' h' => rw [e] at p; exact p.elim
  | ct e' h' => rw [e] at p; exact p.elim
  | bad => rw [e] at p; exact p.elim
end
theorem never_fn {P : Program} {w : World} {K : PySem.W.Frag} {mg : Str → Option Value} {base : Heap} {T : Tb} {CX : CXT} {k n : Nat} {f : Addr} {fd : FuncData} {ps : List Str} (hn : ps.length = n := by rfl) : FnOk P w K mg base CX k f fd ps (spI K T (fun _ _ => .bad) n) :=
  ⟨fun vs H Q E h => h.1.trans hn.symm, fun A outer s H args us vs Q E _ _ _ _ h => by obtain ⟨_, _, _, _, _, _, p⟩ := h; exact p.elim⟩
theorem den_one {X : Cx} {op : BoolOp} {a : Expr} {pos : Pos} {t : TE} (h : PE X a t) : PE X (.BoolOp op [a] pos) t := pe_one h
theorem dent_ptA {X : Cx} {a : Expr} {t : TT} (h : PW X a t) : PT X a t := h.pt
theorem bt_int : bootBuiltins "int" = some (.type "int") := by decide +kernel
theorem bt_bool : bootBuiltins "bool" = some (.type "bool") := by decide +kernel
theorem bt_str : bootBuiltins "str" = some (.type "str") := by decide +kernel
theorem bt_tuple : bootBuiltins "tuple" = some (.type "tuple") := by decide +kernel
theorem bt_list : bootBuiltins "list" = some (.type "list") := by decide +kernel
theorem bt_dict : bootBuiltins "dict" = some (.type "dict") := by decide +kernel
end Iv

set_option maxRecDepth 100000
namespace Iv
open PySem PySem.Spec PyProof.Rows L2
section
variable {X : Cx} {T : Tb} {W : WX}
/-! max, min of a list -/
def topI : Int → List Int → Int
  | x, [] => x
  | x, y :: r => topI (if x ≤ y then y else x) r
def botI : Int → List Int → Int
  | x, [] => x
  | x, y :: r => botI (if y ≤ x then y else x) r
theorem topI_spec : ∀ (r : List Int) (x : Int), topI x r ∈ x :: r ∧ ∀ y ∈ x :: r, y ≤ topI x r
  | [], x => ⟨List.mem_cons_self, fun y hy => by rw [List.mem_singleton] at hy; rw [hy]; exact Int.le_refl _⟩
  | y :: r, x => by
    obtain ⟨h1, h2⟩ := topI_spec r (if x ≤ y then y else x)
    unfold topI
    by_cases h : x ≤ y
    · rw [if_pos h] at h1 h2 ⊢
      refine ⟨List.mem_cons_of_mem _ h1, fun z hz => ?_⟩
      rcases List.mem_cons.mp hz with rfl | hz
      · exact Int.le_trans h (h2 y List.mem_cons_self)
      · exact h2 z hz
    · rw [if_neg h] at h1 h2 ⊢
      refine ⟨?_, fun z hz => ?_⟩
      · rcases List.mem_cons.mp h1 with e | e
        · rw [e]; exact List.mem_cons_self
        · exact List.mem_cons_of_mem _ (List.mem_cons_of_mem _ e)
      · rcases List.mem_cons.mp hz with rfl | hz
        · exact h2 _ List.mem_cons_self
        · rcases List.mem_cons.mp hz with rfl | hz
          · exact Int.le_trans (Int.le_of_lt (Int.not_le.mp h)) (h2 x List.mem_cons_self)
          · exact h2 z (List.mem_cons_of_mem _ hz)
theorem botI_spec : ∀ (r : List Int) (x : Int), botI x r ∈ x :: r ∧ ∀ y ∈ x :: r, botI x r ≤ y
  | [], x => ⟨List.mem_cons_self, fun y hy => by rw [List.mem_singleton] at hy; rw [hy]; exact Int.le_refl _⟩
  | y :: r, x => by
    obtain ⟨h1, h2⟩ := botI_spec r (if y ≤ x then y else x)
    unfold botI
    by_cases h : y ≤ x
    · rw [if_pos h] at h1 h2 ⊢
      refine ⟨List.mem_cons_of_mem _ h1, fun z hz => ?_⟩
      rcases List.mem_cons.mp hz with rfl | hz
      · exact Int.le_trans (h2 y List.mem_cons_self) h
      · exact h2 z hz
    · rw [if_neg h] at h1 h2 ⊢
      refine ⟨?_, fun z hz => ?_⟩
      · rcases List.mem_cons.mp h1 with e | e
        · rw [e]; exact List.mem_cons_self
        · exact List.mem_cons_of_mem _ (List.mem_cons_of_mem _ e)
      · rcases List.mem_cons.mp hz with rfl | hz
        · exact h2 _ List.mem_cons_self
        · rcases List.mem_cons.mp hz with rfl | hz
          · exact Int.le_trans (h2 x List.mem_cons_self) (Int.le_of_lt (Int.not_le.mp h))
          · exact h2 z (List.mem_cons_of_mem _ hz)
def extB (f : Int → List Int → Int) (d : D) (h : Hs) : R D := match look h d with
  | .lst ys => match intsD ys with
    | some (x :: r) => .ok (.int (f x r)) h
    | _ => .bad
  | _ => .bad
theorem snd_max : BiSound X T (b1 (extB topI)) (rMax X.K) := one_arg' fun H ρ h d v Q Wx hw r p => by
  unfold extB at p
  split at p
  · rename_i ys l
    split at p
    · rename_i x ns e
      obtain ⟨a, vs, rfl, s, rs⟩ := look_lst hw l r
      have ev := ints_rel e rs
      subst ev
      refine ⟨a, x :: ns, rfl, .of s, Nat.succ_pos _, fun m hm hy => ?_⟩
      obtain ⟨h1, h2⟩ := topI_spec ns x
      have em : m = topI x ns := Int.le_antisymm (h2 m hm) (hy _ h1)
      subst em
      exact now p hw (by unfold RelD; rfl)
    · exact p.elim
  · exact p.elim
theorem snd_min : BiSound X T (b1 (extB botI)) (rMin X.K) := one_arg' fun H ρ h d v Q Wx hw r p => by
  unfold extB at p
  split at p
  · rename_i ys l
    split at p
    · rename_i x ns e
      obtain ⟨a, vs, rfl, s, rs⟩ := look_lst hw l r
      have ev := ints_rel e rs
      subst ev
      refine ⟨a, x :: ns, rfl, .of s, Nat.succ_pos _, fun m hm hy => ?_⟩
      obtain ⟨h1, h2⟩ := botI_spec ns x
      have em : m = botI x ns := Int.le_antisymm (hy _ h1) (h2 m hm)
      subst em
      exact now p hw (by unfold RelD; rfl)
    · exact p.elim
  · exact p.elim
def mMaxL (ms : Ms) : M := fun env h => (ms env h).bind (b1 (extB topI))
def mMinL (ms : Ms) : M := fun env h => (ms env h).bind (b1 (extB botI))
theorem bt_max : bootBuiltins "max" = some (.builtin "max") := by decide +kernel
theorem bt_min : bootBuiltins "min" = some (.builtin "min") := by decide +kernel
theorem den_maxL {e : Expr} {es : List Expr} {p pos : Pos} {ms : Ms} (hcalm : X.calm = true) (hg : Gl X "max") (hm : X.mg "max" = none) (ha : PA X (e :: es) (tIs X.K T W ms))
    (he : starEach (e :: es) X.env = (false, eval e X.env) :: starEach es X.env) (hpl : (backTo pos (starEach es X.env)).any (·.1) = false) : PE X (.Call (.Name "max" p) (e :: es) [] pos) (tI X.K T W (mMaxL ms)) :=
  den_callB (cr_max hcalm) snd_max hg hm bt_max ha (by decide) (by decide) he hpl
theorem den_minL {e : Expr} {es : List Expr} {p pos : Pos} {ms : Ms} (hcalm : X.calm = true) (hg : Gl X "min") (hm : X.mg "min" = none) (ha : PA X (e :: es) (tIs X.K T W ms))
    (he : starEach (e :: es) X.env = (false, eval e X.env) :: starEach es X.env) (hpl : (backTo pos (starEach es X.env)).any (·.1) = false) : PE X (.Call (.Name "min" p) (e :: es) [] pos) (tI X.K T W (mMinL ms)) :=
  den_callB (cr_min hcalm) snd_min hg hm bt_min ha (by decide) (by decide) he hpl
/-! str of an int -/
def strB (d : D) (h : Hs) : R D := match d with
  | .int i => if i.natAbs.log2 < 1920 then .ok (.str (toString i : String)) h else .bad
  | _ => .bad
theorem snd_str : BiSound X T (b1 strB) (fun xs H Q => ∃ i, xs = [.int i] ∧ i.natAbs.log2 < 1920 ∧ Q (.str (toString i : String)) H) := one_arg' fun H ρ h d v Q Wx hw r p => by
  unfold strB at p
  split at p
  · rename_i i
    split at p
    · rename_i hl
      exact ⟨i, by rw [relInt r], hl, now p hw (by unfold RelD; rfl)⟩
    · exact p.elim
  · exact p.elim
def mStr (ms : Ms) : M := fun env h => (ms env h).bind (b1 strB)
theorem den_str {e : Expr} {es : List Expr} {p pos : Pos} {ms : Ms} (hg : Gl X "str") (hm : X.mg "str" = none) (ha : PA X (e :: es) (tIs X.K T W ms))
    (he : starEach (e :: es) X.env = (false, eval e X.env) :: starEach es X.env) (hpl : (backTo pos (starEach es X.env)).any (·.1) = false) : PE X (.Call (.Name "str" p) (e :: es) [] pos) (tI X.K T W (mStr ms)) :=
  den_callTy call_str_int snd_str hg hm bt_str ha (by decide) (by decide) he hpl
/-! list(range(..)) -/
def mListRg (m : Bool) (ma : M) : M := fun env h => (ma env h).bind fun d h1 => match d with
  | .int n => if rngOk n && decide (n.toNat ≤ most) then mkL m (rngD 0 n) h1 else .bad
  | _ => .bad
theorem rng_rel {K : PySem.W.Frag} {H : Hp} {ρ : List Addr} {a b : Int} : RelDs K T H ρ (rngD a b) (rgV a b) := by
  unfold rngD rgV
  have all : ∀ l : List Nat, RelDs K T H ρ (l.map fun i => .int (a + (i : Nat))) (l.map fun i => V.int (a + (i : Nat))) := by
    intro l
    induction l with
    | nil => unfold RelDs; rfl
    | cons x l ih => rw [List.map_cons, List.map_cons]; unfold RelDs; exact ⟨_, _, rfl, by unfold RelD; rfl, ih⟩
  exact all _
theorem den_listRg {m : Bool} {a : Expr} {p p2 pos pos2 : Pos} {ma : M} (hc : X.calm = true) (hg : Gl X "list") (hm : X.mg "list" = none) (hg2 : Gl X "range") (hm2 : X.mg "range" = none) (ha : PE X a (tI X.K T W ma))
    (na : starEach [.Call (.Name "range" p2) [a] [] pos2] X.env = (false, eval (.Call (.Name "range" p2) [a] [] pos2) X.env) :: starEach [] X.env) (na2 : starEach [a] X.env = (false, eval a X.env) :: starEach [] X.env) : PE X (.Call (.Name "list" p) [.Call (.Name "range" p2) [a] [] pos2] [] pos) (tI X.K T W (mListRg m ma)) := by
  refine PE.imp (pe_listRg hc hg hm (prg_1 hg2 hm2 ha na2) na) fun σ H Q ⟨ρ, env, h, hw, he, p⟩ => ?_
  unfold mListRg at p
  refine bindI hw he p fun H1 ρ1 d h1 v x1 w1 e1 r1 p1 => ?_
  split at p1
  · rename_i n
    split at p1
    · rename_i hl
      rw [Bool.and_eq_true] at hl
      obtain ⟨b1, b2⟩ := rngOk_iff hl.1
      have b3 := of_decide_eq_true hl.2
      unfold most at b3
      refine ⟨n, relInt r1, ⟨by omega, by omega, b1, b2, by omega⟩, (put_lst (X := X) w1 rng_rel p1).2⟩
    · exact p1.elim
  · exact p1.elim
/-! list(x), x a list, a tuple, a dict -/
def keyT (k : List Key) : D := .tup (k.map kD)
def listA (m : Bool) (d : D) (h : Hs) : R D := match look h d with
  | .dcu ks _ => mkL m (ks.map keyT) h
  | .dct ks _ => mkL m (ks.map kD) h
  | _ => listB m d h
theorem keys_rel {K : PySem.W.Frag} {H : Hp} {ρ : List Addr} : ∀ kvs : List (Key × V), RelDs K T H ρ ((kvs.map (·.1)).map kD) (kvs.map fun kv => kV kv.1) := by
  intro kvs
  induction kvs with
  | nil => unfold RelDs; rfl
  | cons p kvs ih => rw [List.map_cons, List.map_cons, List.map_cons]; unfold RelDs; exact ⟨_, _, rfl, kD_rel _, ih⟩
theorem kDs_rel {K : PySem.W.Frag} {H : Hp} {ρ : List Addr} : ∀ k : List Key, RelDs K T H ρ (k.map kD) (k.map kV) := by
  intro k
  induction k with
  | nil => unfold RelDs; rfl
  | cons p k ih => rw [List.map_cons, List.map_cons]; unfold RelDs; exact ⟨_, _, rfl, kD_rel _, ih⟩
theorem keysT_rel {K : PySem.W.Frag} {H : Hp} {ρ : List Addr} {kvs : List (List Key × V)} {bs : List Addr} (r : IsKeys H kvs bs) : RelDs K T H ρ ((kvs.map (·.1)).map keyT) (bs.map V.ref) := by
  unfold IsKeys at r
  induction r with
  | nil => unfold RelDs; rfl
  | cons h t ih =>
    rw [List.map_cons, List.map_cons, List.map_cons]
    unfold RelDs
    exact ⟨_, _, rfl, by unfold keyT RelD; exact ⟨_, _, rfl, .inl (.inl h), kDs_rel _⟩, ih⟩
theorem snd_listA {m : Bool} : BiSound X T (b1 (listA m)) (fun xs H Q => (∃ p ys, xs = [.ref p] ∧ (SqL X.K H p ys ∨ SqT X.K H p ys) ∧ ∀ l, H l = none → Q (.ref l) (upd H l (.lst ys))) ∨ (∃ (a : Addr) (kvs : List (Key × V)), xs = [.ref a] ∧ Rd H a (.dK kvs) ∧ ∀ p, H p = none → Q (.ref p) (upd H p (.lst (kvs.map fun kv => kV kv.1)))) ∨ (∃ d kvs, xs = [V.ref d] ∧ Rd H d (.dT kvs) ∧ ∀ p bs, H p = none → IsKeys H kvs bs → Q (.ref p) (upd H p (.lst (bs.map V.ref))))) := one_arg' fun H ρ h d v Q Wx hw r p => by
  unfold listA at p
  split at p
  · rename_i ks ds l
    obtain ⟨a, kvs, rfl, s, ek, rs⟩ := look_dcu hw l r
    subst ek
    exact .inr (.inr ⟨a, kvs, rfl, .inl s, fun p bs hp ik => (put_lst (X := X) hw (keysT_rel ik) ‹_›).2 p hp⟩)
  · rename_i ks ds l
    obtain ⟨a, kvs, rfl, s, ek, rs⟩ := look_dct hw l r
    subst ek
    exact .inr (.inl ⟨a, kvs, rfl, s, (put_lst (X := X) hw (keys_rel kvs) p).2⟩)
  · exact .inl (snd_list (X := X) H ρ h [d] [v] Q Wx hw (RelDs.mk1 r) p)
def mListA (m : Bool) (ms : Ms) : M := fun env h => (ms env h).bind (b1 (listA m))
theorem den_listA {m : Bool} {e : Expr} {es : List Expr} {p pos : Pos} {ms : Ms} (hcalm : X.calm = true) (hg : Gl X "list") (hm : X.mg "list" = none) (ha : PA X (e :: es) (tIs X.K T W ms))
    (he : starEach (e :: es) X.env = (false, eval e X.env) :: starEach es X.env) (hpl : (backTo pos (starEach es X.env)).any (·.1) = false) : PE X (.Call (.Name "list" p) (e :: es) [] pos) (tI X.K T W (mListA m ms)) :=
  den_callTy (call_list_of.or ((call_listD hcalm).or (call_list_dT hcalm))) snd_listA hg hm bt_list ha (by decide) (by decide) he hpl
end
end Iv

set_option maxRecDepth 100000
namespace Iv
open PySem PySem.Spec PyProof.Rows L2
/-! defs that make lambdas -/
structure FunC (K : PySem.W.Frag) (x qual : Str) (st : Stmt) (f : Addr) (fd : FuncData) (c : Addr) : Prop where
  ex : ∃ (oc : Value) (od : Option Addr) (kV doc pm : Value) (an : Option Addr) (ct : Value) (osl : Array (Option Value)),
    fd = PySem.W.fnOf x qual (defArgs st) (defBody st) (defScope st) .none kV doc pm an (.ref c) ct ∧ K.lookup f = some ⟨oc, od, .func fd, osl⟩ ∧ PySem.W.codeIn K (.ref c) qual = true
  kp : PySem.W.keepIn K (.ref f) = true
theorem FunC.toFun {K : PySem.W.Frag} {x qual : Str} {st : Stmt} {f : Addr} {fd : FuncData} {c : Addr} (F : FunC K x qual st f fd c) : Fun K x qual st f fd := by
  obtain ⟨oc, od, kV, doc, pm, an, ct, osl, e, l, h⟩ := F.ex
  exact ⟨⟨oc, od, kV, doc, pm, an, .ref c, ct, osl, e, l, h⟩, F.kp⟩
/-- closed at its entry and at its end -/
def defRX (m : MS) (k : Nat) : Fm := fun ds h => if h.all (ltO h.length) && ltDs h.length ds then chkR (defR m k ds h) else .bad
def Tb.with (T : Tb) (c : Nat → Addr → Option ((Addr → Heap → Prop) × Str)) : Tb := { T with clo := c }
section
variable {P : Program} {w : World} {K : PySem.W.Frag} {mg : Str → Option Value} {base : Heap} {T : Tb}
theorem RelD.up {T : Tb} {c : Nat → Addr → Option ((Addr → Heap → Prop) × Str)} {H : Hp} {ρ : List Addr} {n : Nat} {ds : List D} {vs : List V} (hl : ltDs n ds = true) (r : RelDs K T.no H ρ ds vs) : RelDs K (T.with c) H ρ ds vs := RelDs.lift (T := T.with c) hl r
theorem den_fnC {name qual : Str} {st : Stmt} {f c : Addr} {fd : FuncData} {N ps : List Str} {k n kk : Nat} {m : MS} (F : FunC K name qual st f fd c) (S : FnScope N ps (defScope st)) (hn : ps.length = n) (hk : N.length - ps.length = kk)
    (hbody : ∀ (A : Around) (outer : List PySem.Env) (s : Shared) (H : Hp) (E : XK), Room k (A.deeper (envOfC qual (defScope st) s.heap.objs.size f (.ref c))) → ∀ W, Takes (cxOf (L2.CX P w) P w K mg base N qual (defScope st) f (.ref c) A outer s H E) W →
      PassesOwn (model P w) (A.deeper (envOfC qual (defScope st) s.heap.objs.size f (.ref c))) (envOfC qual (defScope st) s.heap.objs.size f (.ref c)) (cxOf (L2.CX P w) P w K mg base N qual (defScope st) f (.ref c) A outer s H E).xe →
      ∃ clo, PSs (cxOf (L2.CX P w) P w K mg base N qual (defScope st) f (.ref c) A outer s H E) (defBody st) (tIS K (T.with clo) W m)) :
    FnOk P w K mg base (L2.CX P w) (k + 1) f fd ps (spI K T.no (defRX m kk) n) := by
  subst hn hk
  obtain ⟨oc, od, kV, doc, pm, an, ct, osl, rfl, lk, hcd⟩ := F.ex
  refine fn_of lk hcd S (fun vs H Q E h => h.1) fun A outer s H vs Q E hr h => ?_
  obtain ⟨hl, ρ, ds, h, hw, rs, p⟩ := h
  obtain ⟨clo, body⟩ := hbody A outer s H E hr (fun cls d _ H => E cls d H) (takes_of rfl rfl rfl rfl) (passes_of rfl)
  refine ⟨_, body, ?_⟩
  unfold defRX at p
  split at p
  · rename_i hc
    rw [Bool.and_eq_true] at hc
    have w2 : RelH K (T.with clo) H ρ h := RelH.lift (T := T.with clo) hc.1 hw
    have r2 : RelDs K (T.with clo) H ρ ds vs := RelDs.lift (T := T.with clo) hc.2 rs
    -- the other way at the end
    have p2 : PostV K (T.with clo) (RelD K (T.with clo)) H ρ (defR m (N.length - ps.length) ds h) Q (fun c d H' => E c d H') := by
      cases e : defR m (N.length - ps.length) ds h with
      | bad => rw [e] at p; exact p
      | ok d h' =>
        rw [e] at p
        unfold chkR at p
        dsimp only at p
        split at p
        · exact fun H' ρ' v x w q => p H' ρ' v x (RelH.drop (T := T.with clo) w) (RelD.drop (T := T.with clo) q)
        · exact p.elim
      | ex c h' =>
        rw [e] at p
        unfold chkR at p
        dsimp only at p
        split at p
        · exact fun H' ρ' x w => p H' ρ' x (RelH.drop (T := T.with clo) w)
        · exact p.elim
    refine ⟨ρ, ds.map some ++ List.replicate (N.length - ps.length) none, h, w2, rel_start r2 _ (by rw [hl]), ?_⟩
    unfold defR at p2
    cases e : m (ds.map some ++ List.replicate (N.length - ps.length) none) h with
    | nx e' h' => rw [e] at p2; exact fun H' ρ' σ' x w' re => p2 H' ρ' .non x w' (by unfold RelD; rfl)
    | rt d h' => rw [e] at p2; exact p2
    | ex c e' h' => rw [e] at p2; exact fun H' ρ' σ' x w' re => p2 H' ρ' x w'
    | bk e' h' => rw [e] at p2; exact p2.elim
    | ct e' h' => rw [e] at p2; exact p2.elim
    | bad => rw [e] at p2; exact p2.elim
  · exact p.elim
end
/-! the closures of a frame -/
abbrev Lam := Arguments × Expr × Scope
def cloT (X : Cx) (q : Str) (L : List Lam) : Nat → Addr → Option ((Addr → Heap → Prop) × Str) := fun j f => (L[j]?).map fun l => (CloP q l.1 l.2.1 l.2.2 (cloFrom X.env.cells l.2.2.names []) f, q)
def CloL (X : Cx) (T : Tb) (k : Nat) (q : Str) : List Lam → List M → Prop
  | [], [] => True
  | l :: L, b :: bs => CloS X T k q b l.1 l.2.1 l.2.2 ∧ CloL X T k q L bs
  | _, _ => False
theorem clo_at {X : Cx} {T : Tb} {k : Nat} {q : Str} : ∀ {L : List Lam} {bs : List M} {j : Nat} {b : M}, CloL X T k q L bs → bs[j]? = some b → ∃ l, L[j]? = some l ∧ CloS X T k q b l.1 l.2.1 l.2.2
  | [], [], _, _, _, e => by simp at e
  | [], _ :: _, _, _, h, _ => h.elim
  | _ :: _, [], _, _, h, _ => h.elim
  | l :: L, c :: bs, 0, b, h, e => by cases e; exact ⟨l, rfl, h.1⟩
  | l :: L, c :: bs, j + 1, b, h, e => by
    rw [List.getElem?_cons_succ] at e
    obtain ⟨l', h1, h2⟩ := clo_at h.2 e
    exact ⟨l', by rw [List.getElem?_cons_succ]; exact h1, h2⟩
theorem clo_all {X : Cx} {T : Tb} {k : Nat} {q : Str} {L : List Lam} {bs : List M} (h : CloL X (T.with (cloT X q L)) k q L bs) : ∀ f j b, bs[j]? = some b → ∃ q' params body scope, (T.with (cloT X q L)).clo j f = some (CloP q' params body scope (cloFrom X.env.cells scope.names []) f, q') ∧ CloS X (T.with (cloT X q L)) k q' b params body scope := fun f j b e => by
  obtain ⟨l, h1, h2⟩ := clo_at h e
  exact ⟨q, l.1, l.2.1, l.2.2, by show (L[j]?).map _ = _; rw [h1]; rfl, h2⟩
section
variable {X : Cx} {T : Tb} {W : WX}
theorem den_caughtF {L : List Lam} {bs : List M} {q x a y er ex : Str} {g CS : Addr} {fd : FuncData} {st : Stmt} {k : Nat} {e : Expr} {ms : M} {p pos : Pos}
    {p1 p2 p3 p4 p5 p6 p7 p8 p9 pa pb pc pd pe : Pos} {jn : Nat} (hg : Gl X x) (hm : X.mg x = some (.ref g)) (F : Fun X.K x x st g fd)
    (hst : defBody st = [.Assign [.Name y p1] (.Constant .none jn p2) p3, .Try [.Expr (.Call (.Name a p4) [] [] p5) p6] [.ExceptHandler (some (.Name ex p7)) (some er) [.Assign [.Name y p8] (.Name er p9) pa] pb] [] [] pc, .Return (some (.Name y pd)) pe])
    (hb : L2.Binds X.K fd [a] []) (Sg : FnScope [a, y, er] [a] (defScope st)) (va : (defScope st).names.lookup a = some .local) (vy : (defScope st).names.lookup y = some .local) (ve : (defScope st).names.lookup er = some .local) (gex : (defScope st).names.lookup ex = some .globalImplicit) (mex : X.mg ex = some (.ref CS))
    (dbg : (a == ("__debug__" : Str)) = false ∧ (a == ("__classdict__" : Str)) = false ∧ (y == ("__debug__" : Str)) = false ∧ (y == ("__classdict__" : Str)) = false ∧ (er == ("__debug__" : Str)) = false ∧ (er == ("__classdict__" : Str)) = false ∧ (ex == ("__debug__" : Str)) = false ∧ (x == ("__debug__" : Str)) = false)
    (exm : ∀ c, PySem.W.exmOne X.K (.ref (T.cls c)) (.ref CS) = some true) (hr : Room (k + 2) X.A) (cl : CloL X (T.with (cloT X q L)) k q L bs)
    (he : PE X e (tI X.K (T.with (cloT X q L)) W ms)) (hse : starEach [e] X.env = (false, eval e X.env) :: starEach [] X.env) (hpl : (backTo pos (starEach [] X.env)).any (·.1) = false) :
    PE X (.Call (.Name x p) [e] [] pos) (tI X.K (T.with (cloT X q L)) W (mCaught bs ms)) := by
  have kp := F.kp
  obtain ⟨oc, od, kV, doc, pm, an, cdv, ct, osl, rfl, lk, hcg⟩ := F.ex
  rw [hst] at lk hb
  exact den_caught hg hm kp lk hcg hb Sg rfl va vy ve gex mex dbg exm hr (clo_all cl) he hse hpl
theorem Fun.bind1 {K : PySem.W.Frag} {x : Str} {st : Stmt} {g : Addr} {fd : FuncData} {a : Str} (F : Fun K x x st g fd) (h : ∀ (kV doc pm : Value) (an : Option Addr) (cdv ct : Value) (u : Value), bindArgs (PySem.W.fnOf x x (defArgs st) (defBody st) (defScope st) .none kV doc pm an cdv ct) ⟨[u], []⟩ = pure [(a, u)]) : L2.Binds K fd [a] [] :=
  F.binds fun kV doc pm an cdv ct us hl => match us, hl with
    | [u], _ => h kV doc pm an cdv ct u
end
/-! the lambdas of a body, in the text's sequence -/
def lamsE : Nat → Expr → List Lam
  | 0, _ => []
  | _ + 1, .Lambda p b s _ => [(p, b, s)]
  | n + 1, .List es _ => es.flatMap (lamsE n)
  | n + 1, .Tuple es _ _ => es.flatMap (lamsE n)
  | n + 1, .Call f es ks _ => lamsE n f ++ es.flatMap (lamsE n) ++ ks.flatMap fun k => lamsE n k.value
  | n + 1, .Compare a _ bs _ => lamsE n a ++ bs.flatMap (lamsE n)
  | n + 1, .BoolOp _ es _ => es.flatMap (lamsE n)
  | n + 1, .UnaryOp _ e _ => lamsE n e
  | n + 1, .BinOp a _ b _ => lamsE n a ++ lamsE n b
  | n + 1, .IfExp c a b _ => lamsE n c ++ lamsE n a ++ lamsE n b
  | n + 1, .Subscript a b _ => lamsE n a ++ lamsE n b
  | n + 1, .Attribute a _ _ => lamsE n a
  | _ + 1, _ => []
def lamsS : Nat → Stmt → List Lam
  | 0, _ => []
  | n + 1, .Return (some e) _ => lamsE n e
  | n + 1, .Assign _ e _ => lamsE n e
  | n + 1, .Expr e _ => lamsE n e
  | n + 1, .If c a b _ => lamsE n c ++ a.flatMap (lamsS n) ++ b.flatMap (lamsS n)
  | n + 1, .While c a b _ => lamsE n c ++ a.flatMap (lamsS n) ++ b.flatMap (lamsS n)
  | n + 1, .For _ i a b _ => lamsE n i ++ a.flatMap (lamsS n) ++ b.flatMap (lamsS n)
  | _ + 1, _ => []
def lamsOf (st : Stmt) : List Lam := (defBody st).flatMap (lamsS 30)
theorem KwOk.with_ {K : PySem.W.Frag} {T : Tb} {sub : Nat → Nat → Bool} {c : Nat → Addr → Option ((Addr → Heap → Prop) × Str)} (F : KwOk K T.no sub) : KwOk K (T.with c) sub := ⟨F.bo, F.oo, F.ex⟩
/-! target = value, the target of any form -/
def sAsg (mt : MTg) (m : M) : MS := fun env h => (m env h).seq env fun d h1 => match mt d env with
  | some e1 => .nx e1 h1
  | none => .bad
section
variable {X : Cx} {T : Tb} {W : WX}
theorem den_asg {tg e : Expr} {mt : MTg} {g : TG} {m : M} {pos : Pos} (he : PE X e (tI X.K T W m)) (hg : PTg X T tg mt g) (hs : swapsWithSole [tg] e pos.line X.env = pure false) (hw : swappedStores [tg] e X.env = pure none) (h1 : (assignEach [tg] X.env).map (·.2) = [assign tg X.env]) :
    PS X (.Assign [tg] e pos) (tIS X.K T W (sAsg mt m)) := by
  obtain ⟨hg, sg⟩ := hg
  refine PS.imp (ps_asg he hg hs hw h1) fun Dd σ H ⟨ρ, env, h, hw, hee, p⟩ => ?_
  refine bindS hw hee p fun H1 ρ1 d h1 v x1 w1 e1 r1 p1 => ?_
  cases et : mt d env with
  | none => simp only [et] at p1; exact p1.elim
  | some e' =>
    simp only [et] at p1
    exact sg H1 ρ1 h1 env e' σ d v _ w1 e1 r1 et fun σ' re => nowS p1 w1 re
/-- a, b, c = x, y, z -/
theorem den_par3 {i j l : Nat} {x y z : Str} {a b c : Expr} {ms : Ms} {px py pz pt pos : Pos} {kt k2 pt2} (hc : X.calm = true) (hN : X.N.Nodup) (hi : X.N[i]? = some x) (hj : X.N[j]? = some y) (hl : X.N[l]? = some z) (hij : i ≠ j) (hil : i ≠ l) (hjl : j ≠ l)
    (hx : X.env.scope.names.lookup x = some .local) (hy : X.env.scope.names.lookup y = some .local) (hz : X.env.scope.names.lookup z = some .local) (ha : PA X [a, b, c] (tIs X.K T W ms))
    (hw : swappedStores [.Tuple [.Name x px, .Name y py, .Name z pz] kt pt] (.Tuple [a, b, c] k2 pt2) X.env = pure (some [x, y, z]))
    (hs : swapsWithSole [.Tuple [.Name x px, .Name y py, .Name z pz] kt pt] (.Tuple [a, b, c] k2 pt2) pos.line X.env = pure false) :
    PS X (.Assign [.Tuple [.Name x px, .Name y py, .Name z pz] kt pt] (.Tuple [a, b, c] k2 pt2) pos) (tIS X.K T W (sPar [i, j, l] ms)) := by
  refine PS.imp (ps_par3 hc hN hi hj hl hij hil hjl hx hy hz ha hw hs) fun D σ H ⟨ρ, env, h, hw, he, p⟩ => ?_
  refine bindS hw he p fun H1 ρ1 ds h1 vs x1 w1 e1 r1 p1 => ?_
  split at p1
  · rename_i hl
    match ds, hl with
    | [d1, d2, d3], _ =>
      unfold RelDs at r1
      obtain ⟨u, r, rfl, q1, r1⟩ := r1
      unfold RelDs at r1
      obtain ⟨v, r, rfl, q2, r1⟩ := r1
      obtain ⟨w, rfl, q3⟩ := r1.one
      exact ⟨u, v, w, rfl, nowS p1 w1 (((e1.put q1).put q2).put q3)⟩
  · exact p1.elim
end
end Iv

set_option maxRecDepth 100000
namespace Iv
open PySem PySem.Spec PyProof.Rows L2
/-! a def that touches nothing that stands: it is reckoned at the empty heap -/
def plainO : Ob → Bool
  | .ins _ _ _ => false
  | _ => true
def isEx (H : Hp) (h : Heap) (a : Addr) : Option HO := match h.get? a with
  | some o => some (.frz o (.ext fun h' => h'.get? a = some o))
  | none => none
/-- what stands is sealed while the def runs -/
def sealH (H : Hp) (h : Heap) (ρ : List Addr) : Hp := fun a => if a ∈ ρ then isEx H h a else H a
def unsl (H : Hp) (ρ : List Addr) (H' : Hp) : Hp := fun a => if a ∈ ρ then H a else H' a
/-- the sealed ones stand as they stood -/
def Sealed (ρ : List Addr) (h : Heap) (H' : Hp) : Prop := ∀ a ∈ ρ, ∃ o, h.get? a = some o ∧ H' a = some (.frz o (.ext fun h' => h'.get? a = some o))
section
variable {K : PySem.W.Frag} {T : Tb} {H H' : Hp} {ρ ρ' : List Addr} {h : Hs} {P : Program} {w : World} {hp : Heap}
/-- lists and dicts alone -/
def LD (H : Hp) (ρ : List Addr) : Prop := ∀ a ∈ ρ, (∃ vs, H a = some (.lst vs)) ∨ (∃ kvs, H a = some (.dK kvs)) ∨ ∃ kvs, H a = some (.dT kvs)
theorem RelH.ld (R : RelH K T H ρ h) (hp : h.all plainO = true) : LD H ρ := fun a ha => by
  obtain ⟨n, hn⟩ := List.getElem?_of_mem ha
  have hlt : n < h.length := by rw [← R.len]; exact (List.getElem?_eq_some_iff.mp hn).1
  have q := R.at_ n h[n] a (List.getElem?_eq_getElem hlt) hn
  have pl := List.all_eq_true.mp hp h[n] (List.getElem_mem hlt)
  cases e : h[n] with
  | lst ds => rw [e] at q; obtain ⟨vs, q, _⟩ := q; exact .inl ⟨_, q⟩
  | dic ks ds => rw [e] at q; obtain ⟨vs, q, _⟩ := q; exact .inr (.inl ⟨_, q⟩)
  | dit ks ds => rw [e] at q; obtain ⟨vs, q, _⟩ := q; exact .inr (.inr ⟨_, q⟩)
  | ins c ns ds => rw [e] at pl; cases pl
theorem sealed_of (hok : HOk P w H hp) (ld : LD H ρ) : Sealed ρ hp (sealH H hp ρ) := fun a ha => by
  have ex : ∃ o, hp.get? a = some o := by
    rcases ld a ha with ⟨vs, e⟩ | ⟨kvs, e⟩ | ⟨kvs, e⟩
    · obtain ⟨_, its, n, _, q⟩ := hok a _ e; exact ⟨_, q⟩
    · obtain ⟨_, _, _, _, o, _, _, q, _⟩ := hok a _ e; exact ⟨o, q⟩
    · obtain ⟨_, _, _, _, o, _, _, q, _⟩ := hok a _ e; exact ⟨o, q⟩
  obtain ⟨o, e⟩ := ex
  refine ⟨o, e, ?_⟩
  show (if a ∈ ρ then isEx H hp a else H a) = _
  rw [if_pos ha]
  unfold isEx
  rw [e]
theorem seal_out {a : Addr} (ha : a ∉ ρ) : sealH H hp ρ a = H a := if_neg ha
theorem un_out {a : Addr} (ha : a ∉ ρ) : unsl H ρ H' a = H' a := if_neg ha
theorem un_in {a : Addr} (ha : a ∈ ρ) : unsl H ρ H' a = H a := if_pos ha
theorem LD.out (ld : LD H ρ) {a : Addr} {u : HO} (e : H a = some u) (h1 : ∀ vs, u ≠ .lst vs) (h2 : ∀ kvs, u ≠ .dK kvs) (h3 : ∀ kvs, u ≠ .dT kvs := by exact fun _ z => nomatch z) : a ∉ ρ := fun ha => by
  rcases ld a ha with ⟨vs, q⟩ | ⟨kvs, q⟩ | ⟨kvs, q⟩
  · rw [e] at q; exact h1 _ (Option.some.inj q)
  · rw [e] at q; exact h2 _ (Option.some.inj q)
  · rw [e] at q; exact h3 _ (Option.some.inj q)
theorem LD.noneOut (ld : LD H ρ) {a : Addr} (e : H a = none) : a ∉ ρ := fun ha => by
  rcases ld a ha with ⟨vs, q⟩ | ⟨kvs, q⟩ | ⟨kvs, q⟩ <;> (rw [e] at q; cases q)
theorem Sealed.out (sl : Sealed ρ hp H') {a : Addr} {u : HO} (e : H' a = some u) (h1 : ∀ o φ, u ≠ .frz o (.ext φ)) : a ∉ ρ := fun ha => by
  obtain ⟨o, _, q⟩ := sl a ha
  rw [e] at q
  exact h1 _ _ (Option.some.inj q)
theorem Sealed.outN (sl : Sealed ρ hp H') {a : Addr} (e : H' a = none) : a ∉ ρ := fun ha => by
  obtain ⟨o, _, q⟩ := sl a ha
  rw [e] at q; cases q
theorem seal_hok (hok : HOk P w H hp) (ld : LD H ρ) : HOk P w (sealH H hp ρ) hp := fun a u e => by
  by_cases ha : a ∈ ρ
  · obtain ⟨o, e1, q⟩ := sealed_of hok ld a ha
    rw [q] at e
    cases e
    exact ⟨e1, e1, ⟨o, e1⟩, fun h1 h2 p k => k o p⟩
  · rw [seal_out ha] at e
    refine (hok a u e).stay (fun b v _ q => q) (fun b q => ?_) fun b xs q => ?_
    · rw [seal_out (ld.out q (fun _ z => nomatch z) fun _ z => nomatch z)]; exact q
    · rw [seal_out (ld.out q (fun _ z => nomatch z) fun _ z => nomatch z)]; exact q
theorem un_hok {hp' : Heap} (hok : HOk P w H hp) (ld : LD H ρ) (sl : Sealed ρ hp H') (hok' : HOk P w H' hp') (ht : ∀ b xs, H b = some (.tup xs) → b ∉ ρ → H' b = some (.tup xs)) : HOk P w (unsl H ρ H') hp' := fun a u e => by
  by_cases ha : a ∈ ρ
  · rw [un_in ha] at e
    obtain ⟨o, e1, q⟩ := sl a ha
    obtain ⟨e2, _⟩ := hok' a _ q
    rcases ld a ha with ⟨vs, q⟩ | ⟨kvs, q⟩ | ⟨kvs, q⟩
    · rw [q] at e
      cases e
      obtain ⟨z, its, n, r, e3⟩ := hok a _ q
      rw [e1] at e3
      exact ⟨z, its, n, r, e2.trans e3⟩
    · rw [q] at e
      cases e
      obtain ⟨z, y, vs, r, ob, es, ep, e3, c⟩ := hok a _ q
      rw [e1] at e3
      exact ⟨z, y, vs, r, ob, es, ep, e2.trans e3, c⟩
    · rw [q] at e
      cases e
      obtain ⟨z, y, xs, r, ob, es, ep, e3, c⟩ := hok a _ q
      rw [e1] at e3
      exact ⟨z, y, xs, Paired.mapP r fun p q z => ⟨z.1, by
        have nb := ld.out z.2.1 (fun _ z => nomatch z) fun _ z => nomatch z
        rw [un_out nb]; exact ht _ _ z.2.1 nb, z.2.2⟩, ob, es, ep, e2.trans e3, c⟩
  · rw [un_out ha] at e
    refine (hok' a u e).stay (fun b v _ q => q) (fun b q => ?_) fun b xs q => ?_
    · rw [un_out (sl.out q fun _ _ z => nomatch z)]; exact q
    · rw [un_out (sl.out q fun _ _ z => nomatch z)]; exact q
theorem seal_tabs {S : List (Addr × Str)} (ld : LD H ρ) (t : LamX.Tabs S H) : LamX.Tabs S (sealH H hp ρ) := fun p hp' => by
  obtain ⟨ps, h1, h2, h3⟩ := t p hp'
  refine ⟨ps, ?_, h2, fun pos cv hc => ?_⟩
  · rw [seal_out (ld.out h1 (fun _ z => nomatch z) fun _ z => nomatch z)]; exact h1
  · obtain ⟨c, e1, e2⟩ := h3 pos cv hc
    exact ⟨c, e1, by rw [seal_out (ld.out e2 (fun _ z => nomatch z) fun _ z => nomatch z)]; exact e2⟩
theorem un_tabs {S : List (Addr × Str)} (sl : Sealed ρ hp H') (t : LamX.Tabs S H') : LamX.Tabs S (unsl H ρ H') := fun p hp' => by
  obtain ⟨ps, h1, h2, h3⟩ := t p hp'
  refine ⟨ps, ?_, h2, fun pos cv hc => ?_⟩
  · rw [un_out (sl.out h1 fun _ _ z => nomatch z)]; exact h1
  · obtain ⟨c, e1, e2⟩ := h3 pos cv hc
    exact ⟨c, e1, by rw [un_out (sl.out e2 fun _ _ z => nomatch z)]; exact e2⟩
theorem rd_some' {a : Addr} {u : HO} (r : Rd H a u) : ∃ v, H a = some v := by
  rcases r with r | ⟨w, r⟩ <;> exact ⟨_, r⟩
theorem un_rd (sl : Sealed ρ hp H') {a : Addr} {u : HO} (hu : ∀ φ, u ≠ .ext φ) (hf : ∀ o φ, u ≠ .frz o (.ext φ)) (r : Rd H' a u) : Rd (unsl H ρ H') a u ∧ a ∉ ρ := by
  rcases r with r | ⟨o, r⟩
  · have n := sl.out r hf
    exact ⟨.inl (by rw [un_out n]; exact r), n⟩
  · have n := sl.out r fun o φ z => by cases z; exact hu _ rfl
    exact ⟨.inr ⟨o, by rw [un_out n]; exact r⟩, n⟩
theorem seal_rd (ld : LD H ρ) {a : Addr} {u : HO} (h1 : ∀ vs, u ≠ .lst vs) (h2 : ∀ kvs, u ≠ .dK kvs) (r : Rd H a u) (h3 : ∀ kvs, u ≠ .dT kvs := by exact fun _ z => nomatch z) : Rd (sealH H hp ρ) a u ∧ a ∉ ρ := by
  rcases r with r | ⟨o, r⟩
  · have n := ld.out r h1 h2 h3
    exact ⟨.inl (by rw [seal_out n]; exact r), n⟩
  · have n := ld.out r (fun _ z => nomatch z) fun _ z => nomatch z
    exact ⟨.inr ⟨o, by rw [seal_out n]; exact r⟩, n⟩
theorem un_sqT (sl : Sealed ρ hp H') {a : Addr} {vs : List V} (s : SqT K H' a vs) : SqT K (unsl H ρ H') a vs := s.elim (fun s => .inl (un_rd (u := .tup vs) sl (fun _ z => nomatch z) (fun _ _ z => nomatch z) s).1) .inr
theorem un_sqS (sl : Sealed ρ hp H') {a : Addr} {vs : List V} (s : SqS K H' a vs) : SqS K (unsl H ρ H') a vs := s.elim (fun ⟨o, s⟩ => .inl ⟨o, by rw [un_out (sl.out s fun _ _ z => nomatch z)]; exact s⟩) .inr
mutual
theorem RelD.unsl (sl : Sealed ρ hp H') {d : D} : ∀ {v : V}, ltD 0 d = true → RelD K T.no H' ρ' d v → RelD K T (unsl H ρ H') ρ d v := by
  intro v hl q
  match d with
  | .non => unfold RelD at q ⊢; exact q
  | .bl b => unfold RelD at q ⊢; exact q
  | .int i => unfold RelD at q ⊢; exact q
  | .str y => unfold RelD at q ⊢; exact q
  | .tup ds =>
    unfold ltD at hl
    unfold RelD at q ⊢
    obtain ⟨a, vs, e, s, q⟩ := q
    exact ⟨a, vs, e, un_sqT sl s, RelDs.unsl sl hl q⟩
  | .lst ds =>
    unfold ltD at hl
    unfold RelD at q ⊢
    obtain ⟨a, vs, e, s, n, q⟩ := q
    have n := sl.out s fun _ _ z => nomatch z
    exact ⟨a, vs, e, by rw [un_out n]; exact s, n, RelDs.unsl sl hl q⟩
  | .scr ds =>
    unfold ltD at hl
    unfold RelD at q ⊢
    obtain ⟨a, vs, e, s, q⟩ := q
    exact ⟨a, vs, e, un_sqS sl s, RelDs.unsl sl hl q⟩
  | .dct ks ds =>
    unfold ltD at hl
    unfold RelD at q ⊢
    obtain ⟨a, vs, e, s, n, k, q⟩ := q
    obtain ⟨s, n⟩ := un_rd (H := H) (u := .dK vs) sl (fun _ z => nomatch z) (fun _ _ z => nomatch z) s
    exact ⟨a, vs, e, s, n, k, RelDs.unsl sl hl q⟩
  | .dcu ks ds =>
    unfold ltD at hl
    unfold RelD at q ⊢
    obtain ⟨a, vs, e, s, n, k, q⟩ := q
    have n := sl.out s fun _ _ z => nomatch z
    exact ⟨a, vs, e, by rw [un_out n]; exact s, n, k, RelDs.unsl sl hl q⟩
  | .ref k => unfold ltD at hl; exact absurd (of_decide_eq_true hl) (Nat.not_lt_zero _)
  | .ty n => unfold RelD at q ⊢; exact q
  | .own n => unfold RelD at q ⊢; exact q
  | .exc n =>
    unfold RelD at q ⊢
    obtain ⟨a, e, q⟩ := q
    exact ⟨a, e, by rw [un_out (sl.out q fun _ _ z => nomatch z)]; exact q⟩
  | .fn n => unfold RelD at q ⊢; exact q
  | .clo j => unfold ltD at hl; cases hl
theorem RelDs.unsl (sl : Sealed ρ hp H') {ds : List D} : ∀ {vs : List V}, ltDs 0 ds = true → RelDs K T.no H' ρ' ds vs → RelDs K T (unsl H ρ H') ρ ds vs := by
  intro vs hl q
  match ds with
  | [] => unfold RelDs at q ⊢; exact q
  | d :: ds =>
    unfold ltDs at hl
    rw [Bool.and_eq_true] at hl
    unfold RelDs at q ⊢
    obtain ⟨v, s, e, q1, q2⟩ := q
    exact ⟨v, s, e, RelD.unsl sl hl.1 q1, RelDs.unsl sl hl.2 q2⟩
end
theorem LD.lstOut (ld : LD H ρ) {a : Addr} {vs : List V} (na : a ∉ ρ) (e : H a = some (.lst vs)) : sealH H hp ρ a = some (.lst vs) := by rw [seal_out na]; exact e
mutual
/-- an argument, while what stands is sealed -/
theorem RelD.sealed (ld : LD H ρ) {d : D} : ∀ {v : V}, ltD 0 d = true → RelD K T H ρ d v → RelD K T.no (sealH H hp ρ) [] d v := by
  intro v hl q
  match d with
  | .non => unfold RelD at q ⊢; exact q
  | .bl b => unfold RelD at q ⊢; exact q
  | .int i => unfold RelD at q ⊢; exact q
  | .str y => unfold RelD at q ⊢; exact q
  | .tup ds =>
    unfold ltD at hl
    unfold RelD at q ⊢
    obtain ⟨a, vs, e, s, q⟩ := q
    exact ⟨a, vs, e, s.elim (fun s => .inl (seal_rd (u := .tup vs) ld (fun _ z => nomatch z) (fun _ z => nomatch z) s).1) .inr, RelDs.sealed ld hl q⟩
  | .lst ds =>
    unfold ltD at hl
    unfold RelD at q ⊢
    obtain ⟨a, vs, e, s, n, q⟩ := q
    exact ⟨a, vs, e, by rw [seal_out n]; exact s, by simp, RelDs.sealed ld hl q⟩
  | .scr ds =>
    unfold ltD at hl
    unfold RelD at q ⊢
    obtain ⟨a, vs, e, s, q⟩ := q
    exact ⟨a, vs, e, s.elim (fun ⟨o, s⟩ => .inl ⟨o, by rw [seal_out (ld.out s (fun _ z => nomatch z) fun _ z => nomatch z)]; exact s⟩) .inr, RelDs.sealed ld hl q⟩
  | .dcu ks ds =>
    unfold ltD at hl
    unfold RelD at q ⊢
    obtain ⟨a, vs, e, s, n, k, q⟩ := q
    exact ⟨a, vs, e, by rw [seal_out n]; exact s, by simp, k, RelDs.sealed ld hl q⟩
  | .dct ks ds =>
    unfold ltD at hl
    unfold RelD at q ⊢
    obtain ⟨a, vs, e, s, n, k, q⟩ := q
    exact ⟨a, vs, e, s.elim (fun s => .inl (by rw [seal_out n]; exact s)) (fun ⟨o, s⟩ => .inr ⟨o, by rw [seal_out n]; exact s⟩), by simp, k, RelDs.sealed ld hl q⟩
  | .ref k => unfold ltD at hl; exact absurd (of_decide_eq_true hl) (Nat.not_lt_zero _)
  | .ty n => unfold RelD at q ⊢; exact q
  | .own n => unfold RelD at q ⊢; exact q
  | .exc n =>
    unfold RelD at q ⊢
    obtain ⟨a, e, q⟩ := q
    exact ⟨a, e, by rw [seal_out (ld.out q (fun _ z => nomatch z) fun _ z => nomatch z)]; exact q⟩
  | .fn n => unfold RelD at q ⊢; exact q
  | .clo j => unfold ltD at hl; cases hl
theorem RelDs.sealed (ld : LD H ρ) {ds : List D} : ∀ {vs : List V}, ltDs 0 ds = true → RelDs K T H ρ ds vs → RelDs K T.no (sealH H hp ρ) [] ds vs := by
  intro vs hl q
  match ds with
  | [] => unfold RelDs at q ⊢; exact q
  | d :: ds =>
    unfold ltDs at hl
    rw [Bool.and_eq_true] at hl
    unfold RelDs at q ⊢
    obtain ⟨v, s, e, q1, q2⟩ := q
    exact ⟨v, s, e, RelD.sealed ld hl.1 q1, RelDs.sealed ld hl.2 q2⟩
end
theorem un_ext (ld : LD H ρ) (sl : Sealed ρ hp H') (x : Ext (sealH H hp ρ) [] H' ρ') : Ext H ρ (unsl H ρ H') ρ := by
  refine ⟨⟨[], by simp⟩, fun a u e f n => ⟨?_, n⟩, fun a kvs e n => ⟨?_, n⟩, fun a xs e => ?_, fun a φ e => ?_, fun a o u e => ?_⟩
  · rw [un_out n]
    exact (x.stay a u (by rw [seal_out n]; exact e) f (by simp)).1
  · have q := (x.dict a kvs (e.elim (fun e => .inl (by rw [seal_out n]; exact e)) fun ⟨o, e⟩ => .inr ⟨o, by rw [seal_out n]; exact e⟩) (by simp)).1
    exact q.elim (fun q => .inl (by rw [un_out n]; exact q)) fun ⟨o, q⟩ => .inr ⟨o, by rw [un_out n]; exact q⟩
  · obtain ⟨r, n⟩ := seal_rd (hp := hp) (u := .tup xs) ld (fun _ z => nomatch z) (fun _ z => nomatch z) e
    exact (un_rd (u := .tup xs) sl (fun _ z => nomatch z) (fun _ _ z => nomatch z) (x.tup a xs r)).1
  · have n := ld.out e (fun _ z => nomatch z) fun _ z => nomatch z
    rw [un_out n]
    exact x.obj a φ (by rw [seal_out n]; exact e)
  · have n := ld.out e (fun _ z => nomatch z) fun _ z => nomatch z
    rw [un_out n]
    exact x.frz a o u (by rw [seal_out n]; exact e)
theorem un_relH (R : RelH K T H ρ h) (ld : LD H ρ) (sl : Sealed ρ hp H') (x : Ext (sealH H hp ρ) [] H' ρ') (t : LamX.Tabs T.tbs H') : RelH K T (unsl H ρ H') ρ h :=
  ⟨R.len, R.nd, fun n ob a e1 e2 => (R.at_ n ob a e1 e2).mono (un_ext ld sl x) (un_in (List.mem_of_getElem? e2)), un_tabs sl t⟩
end
/-- the result of a def reckoned at the empty heap, where h stands -/
def pureR (r : R D) (h : Hs) : R D := match gcR false 0 r with
  | .ok d _ => if ltD 0 d then .ok d h else .bad
  | .ex c _ => .ex c h
  | .bad => .bad
def spP (K : PySem.W.Frag) (T : Tb) (φ : Fm) (n : Nat) : Sp := fun vs H Q E => vs.length = n ∧ ∃ ρ ds h, RelH K T H ρ h ∧ RelDs K T H ρ ds vs ∧ ltDs 0 ds = true ∧ h.all plainO = true ∧ PostV K T (RelD K T) H ρ (pureR (φ ds []) h) Q E
theorem fn_pure {P : Program} {w : World} {K : PySem.W.Frag} {T : Tb} {mg : Str → Option Value} {base : Heap} {k n : Nat} {f : Addr} {fd : FuncData} {ps : List Str} {φ : Fm} (F : FnOk P w K mg base (L2.CX P w) k f fd ps (spI K T.no φ n)) (hn : ps.length = n := by rfl) :
    FnOk P w K mg base (L2.CX P w) k f fd ps (spP K T φ n) := by
  refine ⟨fun vs H Q E h => h.1.trans hn.symm, fun A outer s H args us vs Q E hr he hb hv hs => ?_⟩
  obtain ⟨hl, ρ, ds, h, R, rs, lt, pl, p⟩ := hs
  have ld := R.ld pl
  have sl0 : Sealed ρ s.heap (sealH H s.heap ρ) := sealed_of he.hok ld
  have he2 : Env0 P w K mg base A outer s (sealH H s.heap ρ) := ⟨he.frames, he.mod, fun b o e => ⟨(he.bs b o e).1, by rw [seal_out (ld.noneOut (he.bs b o e).2)]; exact (he.bs b o e).2⟩, he.bsz, he.funs,
    fun b hb => by rw [seal_out (ld.noneOut (he.frf b hb))]; exact he.frf b hb, seal_hok he.hok ld, he.bare⟩
  have keepS : ∀ {H' : Hp}, (∀ b o u, sealH H s.heap ρ b = some (.frz o u) → H' b = some (.frz o u)) → Sealed ρ s.heap H' := fun k a ha => by
    obtain ⟨o, e, q⟩ := sl0 a ha
    exact ⟨o, e, k a o _ q⟩
  refine codeAny_mono (F.run A outer s (sealH H s.heap ρ) args us vs (fun v H' => Q v (unsl H ρ H')) (fun c d H' => E c d (unsl H ρ H')) hr he2 hb hv ⟨hl, [], ds, [], ?_, RelDs.sealed ld lt rs, ?_⟩) fun r s' hc => ?_
  · exact ⟨rfl, List.nodup_nil, fun n ob a e => by simp at e, seal_tabs ld R.tab⟩
  · refine PostV.gc (m := false) (n := 0) rfl ?_
    unfold pureR at p
    cases e : gcR false 0 (φ ds []) with
    | bad => rw [e] at p; exact p
    | ok d h' =>
      rw [e] at p
      dsimp only at p
      split at p
      · rename_i hd
        intro H' ρ' v x R' q
        have sl := keepS x.frz
        exact p _ ρ v (un_ext ld sl x) (un_relH R ld sl x R'.tab) (RelD.unsl sl hd q)
      · exact p.elim
    | ex c h' =>
      rw [e] at p
      intro H' ρ' x R'
      have sl := keepS x.frz
      exact p _ ρ (un_ext ld sl x) (un_relH R ld sl x R'.tab)
  · cases r with
    | error e =>
      obtain ⟨a, B, H', cls, d, rfl, fl, hok, ub, na, os, ag, hE⟩ := hc
      have sl := keepS ub.frzs
      refine ⟨a, B, unsl H ρ H', cls, d, rfl, fl, un_hok he.hok ld sl hok (fun b xs e n => ub.tups b xs (by rw [seal_out n]; exact e)), ⟨fun b o e1 e2 => ub.keep b o e1 (by rw [seal_out (ld.noneOut e2)]; exact e2), ub.slot, fun b o e1 e2 => ?_, ub.there, fun b xs e => ?_, fun b o xs e => ?_, fun b ps e => ?_⟩, by rw [un_out (sl.outN na)]; exact na, os, ag, hE⟩
      · have n := ld.noneOut e2
        rw [un_out n]
        exact ub.free b o e1 (by rw [seal_out n]; exact e2)
      · have n := ld.out e (fun _ z => nomatch z) fun _ z => nomatch z
        rw [un_out n]
        exact ub.tups b xs (by rw [seal_out n]; exact e)
      · have n := ld.out e (fun _ z => nomatch z) fun _ z => nomatch z
        rw [un_out n]
        exact ub.frzs b o xs (by rw [seal_out n]; exact e)
      · have n := ld.out e (fun _ z => nomatch z) fun _ z => nomatch z
        obtain ⟨m, q⟩ := ub.tbls b ps (by rw [seal_out n]; exact e)
        exact ⟨m, by rw [un_out n]; exact q⟩
    | ok fl =>
      cases fl with
      | ret u =>
        obtain ⟨v, H', os, ag, un, hok, rv, q⟩ := hc
        have sl := keepS un.frzs
        refine ⟨v, unsl H ρ H', os, ag, ⟨fun b o e1 e2 => un.keep b o e1 (by rw [seal_out (ld.noneOut e2)]; exact e2), fun b o e1 e2 => un.slot b o e1 (by rw [seal_out (ld.noneOut e2)]; exact e2), fun b o e1 e2 hx => ?_, un.there, fun b xs e => ?_, fun b o xs e => ?_, fun b ps e => ?_⟩, un_hok he.hok ld sl hok (fun b xs e n => un.tups b xs (by rw [seal_out n]; exact e)), rv, q⟩
        · have n := ld.noneOut e2
          rw [un_out n]
          exact un.free b o e1 (by rw [seal_out n]; exact e2) hx
        · have n := ld.out e (fun _ z => nomatch z) fun _ z => nomatch z
          rw [un_out n]
          exact un.tups b xs (by rw [seal_out n]; exact e)
        · have n := ld.out e (fun _ z => nomatch z) fun _ z => nomatch z
          rw [un_out n]
          exact un.frzs b o xs (by rw [seal_out n]; exact e)
        · have n := ld.out e (fun _ z => nomatch z) fun _ z => nomatch z
          obtain ⟨m, q⟩ := un.tbls b ps (by rw [seal_out n]; exact e)
          exact ⟨m, by rw [un_out n]; exact q⟩
      | next => exact False.elim hc
      | brk => exact False.elim hc
      | cont => exact False.elim hc
def mCallP (φ : Fm) (perm : List Nat) (ms mk : Ms) : M := fun env h => (ms env h).bind fun ds h1 => (mk env h1).bind fun es h2 => if ltDs 0 (pick .non perm (ds ++ es)) && h2.all plainO then pureR (φ (pick .non perm (ds ++ es)) []) h2 else .bad
section
variable {X : Cx} {T : Tb} {W : WX}
theorem den_callP {φ : Fm} {k n np : Nat} {f : Addr} {fd : FuncData} {ps ks : List Str} {perm : List Nat} {x : Str} {p pos : Pos} {e : Expr} {r : List Expr} {kws : List Keyword} {ms mk : Ms} (tk : Takes X W) (F : FnOk X.prog X.w X.K X.mg X.base (L2.CX X.prog X.w) k f fd ps (spI X.K T.no φ np)) (hnp : perm.length = np) (hpl' : ps.length = np) (hr : Room k X.A) (hg : Gl X x) (hm : X.mg x = some (.ref f)) (hk : PySem.W.keepIn X.K (.ref f) = true)
    (hb : BindG fd ps n ks perm) (ha : PA X (e :: r) (tIs X.K T W ms)) (hkw : PK X kws (tIs X.K T W mk)) (hall : (backToKw pos (keywordEach kws X.env)).all (·.1.isSome) = true) (hks : (backToKw pos (keywordEach kws X.env)).filterMap (·.1) = ks)
    (hdb : (x == ("__debug__" : Str)) = false) (he : starEach (e :: r) X.env = (false, eval e X.env) :: starEach r X.env)
    (hpl : ((backTo pos (starEach (e :: r) X.env)).any (·.1) || (backToKw pos (keywordEach kws X.env)).any (·.1.isNone)) = false)
    (hl1 : ∀ env h ds h1, ms env h = .ok ds h1 → ds.length = n) (hl2 : ∀ env h ds h1, mk env h = .ok ds h1 → ds.length = ks.length) :
    PE X (.Call (.Name x p) (e :: r) kws pos) (tI X.K T W (mCallP φ perm ms mk)) := by
  subst hnp
  refine PE.imp (pe_callG (fn_pure (T := T) F hpl') hr hg hm hk hb (passAt tk) ha hkw hall hks hdb he hpl) fun σ H Q ⟨ρ, env, h, hw, he, p⟩ => ?_
  unfold mCallP at p
  refine ⟨ρ, env, h, hw, he, ?_⟩
  cases e1 : ms env h with
  | bad => rw [e1] at p; exact p
  | ex c h1 => rw [e1] at p; exact p
  | ok ds h1 =>
    rw [e1] at p
    intro H1 ρ1 vs x1 w1 r1
    refine ⟨ρ1, env, h1, w1, he.mono x1, ?_⟩
    have p1 := PostV.mono x1 p
    dsimp only [R.bind] at p1
    cases e2 : mk env h1 with
    | bad => rw [e2] at p1; exact p1
    | ex c h2 => rw [e2] at p1; exact p1
    | ok es h2 =>
      rw [e2] at p1
      intro H2 ρ2 zs x2 w2 r2
      have p2 := PostV.mono x2 p1
      dsimp only at p2
      have ra : RelDs X.K T H2 ρ2 (ds ++ es) (vs ++ zs) := (r1.mono x2).app r2
      have l1 := hl1 env h ds h1 e1
      have l2 := hl2 env h1 es h2 e2
      split at p2
      · rename_i c
        rw [Bool.and_eq_true] at c
        refine ⟨by rw [← RelDs.len r1]; exact l1, by rw [← RelDs.len r2]; exact l2, by unfold pick; rw [List.length_map], ρ2, _, h2, w2, RelDs.pick ra (fun i hi => ?_), c.1, c.2, p2⟩
        rw [← RelDs.len ra, List.length_append, l1, l2]
        exact hb.1 i hi
      · exact p2.elim
theorem den_callP0 {φ : Fm} {k np : Nat} {f : Addr} {fd : FuncData} {ps ks : List Str} {perm : List Nat} {x : Str} {p pos : Pos} {kws : List Keyword} {mk : Ms} (tk : Takes X W) (F : FnOk X.prog X.w X.K X.mg X.base (L2.CX X.prog X.w) k f fd ps (spI X.K T.no φ np)) (hnp : perm.length = np) (hpl' : ps.length = np) (hr : Room k X.A) (hg : Gl X x) (hm : X.mg x = some (.ref f)) (hk : PySem.W.keepIn X.K (.ref f) = true)
    (hb : BindG fd ps 0 ks perm) (hkw : PK X kws (tIs X.K T W mk)) (hall : (backToKw pos (keywordEach kws X.env)).all (·.1.isSome) = true) (hks : (backToKw pos (keywordEach kws X.env)).filterMap (·.1) = ks)
    (hdb : (x == ("__debug__" : Str)) = false) (hpl : ((backTo pos (starEach [] X.env)).any (·.1) || (backToKw pos (keywordEach kws X.env)).any (·.1.isNone)) = false)
    (hl2 : ∀ env h ds h1, mk env h = .ok ds h1 → ds.length = ks.length) :
    PE X (.Call (.Name x p) [] kws pos) (tI X.K T W (mCallP φ perm mNil mk)) := by
  subst hnp
  refine PE.imp (pe_callG0 (fn_pure (T := T) F hpl') hr hg hm hk hb (passAt tk) hkw hall hks hdb hpl) fun σ H Q ⟨ρ, env, h, hw, he, p⟩ => ?_
  unfold mCallP mNil at p
  dsimp only [R.bind] at p
  refine ⟨ρ, env, h, hw, he, ?_⟩
  cases e2 : mk env h with
  | bad => rw [e2] at p; exact p
  | ex c h2 => rw [e2] at p; exact p
  | ok es h2 =>
    rw [e2] at p
    intro H2 ρ2 zs x2 w2 r2
    have p2 := PostV.mono x2 p
    dsimp only at p2
    have l2 := hl2 env h es h2 e2
    rw [List.nil_append] at p2
    split at p2
    · rename_i c
      rw [Bool.and_eq_true] at c
      refine ⟨by rw [← RelDs.len r2]; exact l2, by unfold pick; rw [List.length_map], ρ2, _, h2, w2, RelDs.pick r2 (fun i hi => ?_), c.1, c.2, p2⟩
      rw [← RelDs.len r2, l2]
      have := hb.1 i hi
      omega
    · exact p2.elim
end
end Iv

set_option maxRecDepth 100000
namespace Iv
open PySem PySem.Spec PyProof.Rows L2
/-! set(a list of ints) -/
abbrev noSet (w : World) : Obj := { cls := .type "set", dict := none, data := .set #[] 0 (.fresh 0 0 (!w.params.followText "set-order")) }
section
variable {P : Program} {w : World} {A : Around} {E : Value → Shared → Prop} {s : Shared}
set_option maxHeartbeats 3200000 in
theorem set_of_list {l : Addr} {items : Array Value} (ns : List Int) {Q : Value → Shared → Prop} (calm : A.handled = none) (is : s.heap.IsList l items) (are : IntsAre items.toList ns) (small : ns.length + 1 < scanBound)
    (fin : ∀ (h' : Heap) (tk c : Nat), SetR w h' s.heap.objs.size (fun j => decide (j ∈ ns)) c → c ≤ ns.length → (∀ b o, s.heap.get? b = some o → h'.get? b = some o) → Q (.ref s.heap.objs.size) { s with heap := h', toks := tk }) :
    wpAny (model P w) A (call (.type "set") [.ref l]) Q E s := by
  have many : items.size = ns.length := by
    have z := IntsAre.length are
    rwa [Array.length_toList] at z
  obtain ⟨c0, r0, hmro⟩ := PySem.F.called_set.mro
  have f1 := PySem.F.called_set.made
  have f2 := PySem.F.called_set.sub
  refine wpAny_call (codeAny_of_tree (show wpAny _ _ (callAny (.type "set") _) _ _ _ from ?_))
  refine wpAny_pure ⟨Code.quiet_builtin _ (by decide +kernel), codeAny_builtin PySem.F.entry_type_call ?_⟩
  rw [Around.under_plain (weight_type_call_type "set" [.ref l] []) rfl]
  have f3 := PySem.F.called_set.notType
  have f4 := PySem.F.called_set.canCreate
  have f5 := PySem.F.typeCall_set_1 (.ref l)
  (repeat (any_goals (first | assumption | wp_step)))
  refine codeAny_mono (code_set_led1 (.ref l) (E := E) (Q₁ := fun obj s1 => obj = .ref s.heap.objs.size ∧ s1 = { s with heap := s.heap.push (noSet w) }) ⟨rfl, rfl⟩) fun r s1 hr => ?_
  match r, hr with
  | .error e, hr => exact hr
  | .ok (.ret obj), hr =>
    obtain ⟨rfl, rfl⟩ := hr
    have at0 : (s.heap.push (noSet w)).get? s.heap.objs.size = some (noSet w) := Heap.get?_push_size _ rfl
    have ty0 : Shared.TypeIs { s with heap := s.heap.push (noSet w) } (.ref s.heap.objs.size) "set" := ⟨_, at0, rfl⟩
    have f6 := PySem.F.called_set.init.lookup
    have f7 := PySem.F.called_set.init.bind (.ref s.heap.objs.size)
    (repeat (any_goals (first | assumption | wp_step)))
    refine codeAny_mono (codeAny_call_builtin (R := wants (fun r s2 => r = .none ∧ ∃ h' tk c, s2 = { s with heap := h', toks := tk } ∧ SetR w h' s.heap.objs.size (fun j => decide (j ∈ ns)) c ∧ c ≤ ns.length ∧ ∀ b o, s.heap.get? b = some o → h'.get? b = some o) E)
      PySem.F.called_set.init.plain PySem.F.entry_set_init (check_set_init_1 ty0 ?_)) fun r2 s2 hr2 => ?_
    · obtain ⟨⟨lc, ld, lt, ls⟩, lo, hcl, ln, hdl⟩ := id is
      simp only at hcl hdl
      subst hcl hdl
      have lo' : (s.heap.push (noSet w)).get? l = some { cls := .type "list", dict := ld, data := .seq items ln, slots := ls } := Heap.get?_push_of_some _ lo
      have g1 := PySem.F.sub_list_set
      have g2 := PySem.F.sub_list_frozenset
      have g3 : (Value.type "list" == Value.type "dict") = false := by decide
      have is1 : (s.heap.push (noSet w)).IsList l items := ⟨_, lo', rfl, ln, rfl⟩
      unfold Builtin.«set.__init__» noKeywords Builtin.Frozenset.updateFrom
      generalize hI : pyIter = PI
      wp_walk
      subst hI
      refine wpAny_pyIter_list is1 (wpAny_bind (wpAny_runValue ?_))
      have old : l < s.heap.objs.size := Heap.lt_size lo
      have calm3 : A.in1.in1.in1.handled = none := by simp [calm]
      have apart : l ≠ (s.heap.push (noSet w)).objs.size := by
        rw [Heap.size_push]
        exact Nat.ne_of_lt (Nat.lt_succ_of_lt old)
      have off : s.heap.objs.size ∉ [(s.heap.push (noSet w)).objs.size, l] := by
        rw [Heap.size_push]
        simp only [List.mem_cons, List.not_mem_nil, or_false, not_or]
        exact ⟨Nat.ne_of_lt (Nat.lt_succ_self _), Nat.ne_of_gt old⟩
      have vals : ∀ (i : Nat) (v : Value), items[i]? = some v → ∃ k t, ns[i]? = some k ∧ v = .int k t := fun i v hv => by
        have hi : i < ns.length := many ▸ (Array.getElem?_eq_some_iff.mp hv).1
        obtain ⟨t, e⟩ := PyProof.Rows.IntsAre.int_at are i v (by rw [Array.getElem?_toList]; exact hv)
        exact ⟨ns[i], t, List.getElem?_eq_getElem hi, by rw [e, List.getD_eq_getElem?_getD, List.getElem?_eq_getElem hi] <;> rfl⟩
      refine set_update_ints ((Walks.list calm3 _ l apart items).toS) s.heap.objs.size off ns many small vals (items.size - 0) 0 _ (by omega) (Nat.zero_le _) ⟨⟨_, Heap.get?_push_size _ rfl, rfl, rfl⟩, is1.push _⟩ ⟨0, Nat.le_refl 0, setR_new_at (Heap.get?_push_of_some _ at0)⟩ ?_
      intro s3 c3 moved le3 set3
      obtain ⟨h3, g3', d3, t3, o3⟩ := s3
      obtain rfl : g3' = s.gens := moved.gens
      obtain rfl : d3 = s.drawn := moved.drawn
      obtain rfl : o3 = s.os := moved.os
      show wpAny _ _ _ _ _ _
      refine wpAny_pure (show wpAny _ _ (ret Value.none) _ _ _ from wpAny_pure ⟨rfl, h3, t3, c3, rfl, set3, many ▸ le3, fun b o e => ?_⟩)
      have lt := Heap.lt_size e
      refine moved.heap b o (fun z => ?_) (Heap.get?_push_of_some _ (Heap.get?_push_of_some _ e))
      simp only [List.mem_cons, List.not_mem_nil, or_false] at z
      rw [Heap.size_push] at z
      rcases z with z | z
      · rw [z] at lt; exact Nat.lt_irrefl _ lt
      · rw [z] at lt; exact Nat.not_succ_lt_self lt
    · match r2, hr2 with
      | .error e, hr2 => exact hr2
      | .ok (.ret r), hr2 =>
        obtain ⟨rfl, h', tk, c', rfl, q1, q2, q3⟩ := hr2
        (repeat (any_goals (first | assumption | wp_step)))
        exact fin _ _ _ q1 q2 q3
end
section
variable {X : Cx} {T : Tb} {W : WX}
def rSetI (K : PySem.W.Frag) (w : World) : List V → Hp → VK → Prop := fun xs H Q => ∃ (a : Addr) (ns : List Int), xs = [.ref a] ∧ SqL K H a (ns.map V.int) ∧ ns.length < 64 ∧ ∀ p c, c ≤ ns.length → H p = none → Q (.ref p) (upd H p (SetO w p (fun j => decide (j ∈ ns)) c))
theorem cr_setI (hc : X.calm = true) : CallR X (.type "set") (rSetI X.K X.w) := fun pins s σ H xs us Q I r q => by
  obtain ⟨a, ns, rfl, sq, small, q⟩ := q
  have ru := Vals.ref1 r
  subst ru
  obtain ⟨its, rv, pl, _⟩ := I.list sq
  have hs : H s.heap.objs.size = none := I.hok.fresh (Nat.le_refl _)
  refine set_of_list ns (I.ok.hd hc) pl.isList (by rw [List.toList_toArray]; exact intsAre_of rv) (by unfold scanBound; omega) fun h' tk c R le keep => ?_
  exact ⟨.ref s.heap.objs.size, _, I.laid (t' := tk) keep (Nat.le_refl _) (setO_new R), rfl, q _ c le hs⟩
end
end Iv

set_option maxRecDepth 100000
namespace Iv
open PySem PySem.Spec PyProof.Rows L2
/-! sorted(set(a list of ints)) -/
def insI (x : Int) : List Int → List Int
  | [] => [x]
  | y :: r => if x < y then x :: y :: r else if x = y then y :: r else y :: insI x r
def srtI : List Int → List Int
  | [] => []
  | x :: r => insI x (srtI r)
theorem insI_mem {x k : Int} : ∀ {l : List Int}, k ∈ insI x l ↔ k = x ∨ k ∈ l := by
  intro l
  induction l with
  | nil => unfold insI; simp
  | cons y r ih =>
    unfold insI
    split
    · simp
    · split
      · rename_i h; subst h; simp
      · rw [List.mem_cons, ih, List.mem_cons]
        constructor
        · rintro (h | h | h)
          · exact .inr (.inl h)
          · exact .inl h
          · exact .inr (.inr h)
        · rintro (h | h | h)
          · exact .inr (.inl h)
          · exact .inl h
          · exact .inr (.inr h)
theorem insI_up {x : Int} : ∀ {l : List Int}, l.Pairwise (· < ·) → (insI x l).Pairwise (· < ·) := by
  intro l
  induction l with
  | nil => intro _; unfold insI; exact List.pairwise_singleton _ _
  | cons y r ih =>
    intro h
    have h0 := h
    rw [List.pairwise_cons] at h
    unfold insI
    split
    · rename_i hx
      rw [List.pairwise_cons]
      refine ⟨fun z hz => ?_, h0⟩
      rcases List.mem_cons.mp hz with e | hz'
      · rw [e]; exact hx
      · exact Int.lt_trans hx (h.1 z hz')
    · split
      · exact h0
      · rename_i h1 h2
        rw [List.pairwise_cons]
        refine ⟨fun z hz => ?_, ih h.2⟩
        rcases insI_mem.mp hz with e | hz'
        · omega
        · exact h.1 z hz'
theorem srtI_mem {k : Int} : ∀ {l : List Int}, k ∈ srtI l ↔ k ∈ l := by
  intro l
  induction l with
  | nil => exact Iff.rfl
  | cons x r ih => unfold srtI; rw [insI_mem, ih, List.mem_cons]
theorem srtI_up : ∀ l : List Int, (srtI l).Pairwise (· < ·)
  | [] => List.Pairwise.nil
  | x :: r => insI_up (srtI_up r)
theorem up_same : ∀ {l m : List Int}, l.Pairwise (· < ·) → m.Pairwise (· < ·) → (∀ k, k ∈ l ↔ k ∈ m) → l = m := by
  intro l
  induction l with
  | nil =>
    intro m _ _ e
    cases m with
    | nil => rfl
    | cons y r => have := (e y).mpr List.mem_cons_self; cases this
  | cons x l ih =>
    intro m h1 h2 e
    cases m with
    | nil => have := (e x).mp List.mem_cons_self; cases this
    | cons y m =>
      rw [List.pairwise_cons] at h1 h2
      have exy : x = y := by
        rcases List.mem_cons.mp ((e x).mp List.mem_cons_self) with a | a
        · exact a
        · rcases List.mem_cons.mp ((e y).mpr List.mem_cons_self) with b | b
          · exact b.symm
          · have := h2.1 x a
            have := h1.1 y b
            omega
      subst exy
      rw [ih h1.2 h2.2 fun k => ?_]
      constructor
      · intro hk
        rcases List.mem_cons.mp ((e k).mp (List.mem_cons_of_mem _ hk)) with a | a
        · have := h1.1 k hk; omega
        · exact a
      · intro hk
        rcases List.mem_cons.mp ((e k).mpr (List.mem_cons_of_mem _ hk)) with a | a
        · have := h2.1 k hk; omega
        · exact a
def sortSetB (m : Bool) (d : D) (h : Hs) : R D := match look h d with
  | .lst ys => match intsD ys with
    | some ns => if ns.length < 64 then mkL m ((srtI ns).map .int) h else .bad
    | none => .bad
  | _ => .bad
def mSortSet (m : Bool) (ma : M) : M := fun env h => (ma env h).bind (sortSetB m)
theorem rel_ints {K : PySem.W.Frag} {T : Tb} {H : Hp} {ρ : List Addr} : ∀ ns : List Int, RelDs K T H ρ (ns.map .int) (ns.map V.int) := by
  intro ns
  induction ns with
  | nil => unfold RelDs; rfl
  | cons x r ih => rw [List.map_cons, List.map_cons]; unfold RelDs; exact ⟨_, _, rfl, by unfold RelD; rfl, ih⟩
theorem bt_sorted : bootBuiltins "sorted" = some (.builtin "sorted") := by decide +kernel
theorem bt_set : bootBuiltins "set" = some (.type "set") := by decide +kernel
section
variable {X : Cx} {T : Tb} {W : WX}
theorem den_sortSet {m : Bool} {e : Expr} {p p2 pos pos2 : Pos} {ma : M} (hc : X.calm = true) (hg : Gl X "sorted") (hm : X.mg "sorted" = none) (hg2 : Gl X "set") (hm2 : X.mg "set" = none) (he : PE X e (tI X.K T W ma))
    (h1 : starEach [e] X.env = (false, eval e X.env) :: starEach [] X.env) (h2 : (backTo pos2 (starEach [] X.env)).any (·.1) = false)
    (h3 : starEach [.Call (.Name "set" p2) [e] [] pos2] X.env = (false, eval (.Call (.Name "set" p2) [e] [] pos2) X.env) :: starEach [] X.env) (h4 : (backTo pos (starEach [] X.env)).any (·.1) = false) :
    PE X (.Call (.Name "sorted" p) [.Call (.Name "set" p2) [e] [] pos2] [] pos) (tI X.K T W (mSortSet m ma)) := by
  refine PE.imp (pe_callB (cr_sortedSet hc) hg hm bt_sorted (pa_cons (pe_callTy (cr_setI hc) hg2 hm2 bt_set (pa_cons he pa_nil h1) (by decide) (by decide) h1 h2) pa_nil h3) (by decide) (by decide) h3 h4) fun σ H Q ⟨ρ, env, h, hw, hee, p⟩ => ?_
  unfold mSortSet at p
  refine bindI hw hee p fun H1 ρ1 d h1 v x1 w1 e1 r1 p1 => ?_
  unfold sortSetB at p1
  split at p1
  · rename_i ys l
    split at p1
    · rename_i ns ei
      split at p1
      · rename_i hl
        obtain ⟨a, vs, rfl, s, rs⟩ := look_lst w1 l r1
        have ev := ints_rel ei rs
        subst ev
        refine ⟨a, ns, rfl, .of s, hl, fun q c le nq => ⟨q, _, c, rfl, upd_same, Nat.lt_of_le_of_lt le hl, fun ns' q' up mem _ nq' => ?_⟩⟩
        have es : ns' = srtI ns := up_same up (srtI_up ns) fun k => by rw [mem, srtI_mem]; exact decide_eq_true_iff
        subst es
        exact (put_lst (X := X) (w1.new nq) (rel_ints _) (PostV.mono (Ext.new nq) p1)).2 q' nq'
      · exact p1.elim
    · exact p1.elim
  · exact p1.elim
end
end Iv

set_option maxRecDepth 100000
namespace Iv
open PySem PySem.Spec PyProof.Rows RT
/-! tuple(reversed(a tuple)) -/
theorem nolen_rt : typeLookup (.type "reversed") "__len__" = pure none := by rw [typeLookup_type, builtinLookup_eq_fast]; kernel_rfl
theorem slot_rt_hint : Slot "reversed" "__length_hint__" "reversed.__length_hint__" :=
  .of (owner := "reversed") (n := "__length_hint__") (by rw [typeLookup_type, builtinLookup_eq_fast]; kernel_rfl) (by decide +kernel) (by decide +kernel) (by decide +kernel)
    (by first | exact .inl (by decide +kernel) | exact .inr (by decide +kernel)) (by rw [isSubtype_type]; kernel_rfl)
theorem entry_rt_hint : entryFor table "reversed.__length_hint__" = some Builtin.«reversed.__length_hint__» := entryFor_of_tree (by kernel_rfl)
theorem args_rt_hint (a : Value) : argsOk "reversed.__length_hint__" ⟨[a], []⟩ := by
  unfold argsOk; rw [signature?_of (id := "reversed.__length_hint__") (n := ['_', '_', 't', 'n', 'i', 'h', '_', 'h', 't', 'g', 'n', 'e', 'l', '_', '_']) (o := ['d', 'e', 's', 'r', 'e', 'v', 'e', 'r']) (by kernel_rfl) owner_rt]; kernel_rfl
section
variable {prog : Program} {w : World} {A : Around} {E : Value → Shared → Prop} {s : Shared}
theorem isTup_at {h h' : Heap} {a : Addr} {its : Array Value} (x : IsTup h a its) (e : ∀ o, h.get? a = some o → h'.get? a = some o) : IsTup h' a its := let ⟨o, ho, r⟩ := x; ⟨o, e _ ho, r⟩
theorem walks_rt (hh : A.handled = none) (I t : Addr) (hne : t ≠ I) (its : Array Value) (hsz : its.size ≤ sizeLine) :
    Walks prog w A I [I, t] [I] its.size (fun i v => its[its.size - 1 - i]? = some v) (fun i h => i ≤ its.size ∧ IsRt h I t ((its.size : Int) - 1 - (i : Int)) ∧ IsTup h t its) where
  sub := fun b hb => by simp at hb; simp [hb]
  frame := fun _ _ _ x hk => ⟨x.1, x.2.1.at fun o e => hk I (by simp) o e, isTup_at x.2.2 fun o e => hk t (by simp) o e⟩
  item := fun i s Q E hi x hQ => by
    have e : (its.size : Int) - 1 - (i : Int) = ((its.size - 1 - i : Nat) : Int) := by omega
    have hit := x.2.1
    rw [e] at hit
    have hx : its[its.size - 1 - i]? = some (its[its.size - 1 - i]'(by omega)) := Array.getElem?_eq_getElem (by omega)
    refine next_rt_item hit x.2.2 hx hsz fun h' hit' hs' => ?_
    have e2 : ((its.size - 1 - i : Nat) : Int) - 1 = (its.size : Int) - 1 - ((i + 1 : Nat) : Int) := by omega
    rw [e2] at hit'
    exact hQ _ h' (s.toks + 1) hx ⟨hi, hit', isTup_at x.2.2 fun o eo => (hs'.2 t hne).trans eo⟩ fun b o hb eo => hs'.extBut b o (fun h => hb (by simp [h])) eo
  done := fun s Q E x hQ => by
    have e : (its.size : Int) - 1 - (its.size : Int) = -1 := by omega
    have hit := x.2.1
    rw [e] at hit
    exact next_rt_end hh hit fun h' he' => hQ h' s.toks fun b o hb eo => he' b o (fun h => hb (by simp [h])) eo
  self := fun _ _ _ _ x hQ => iter_rt x.2.1 hQ
theorem call_rt_hint {it t : Addr} {its : Array Value} {Q : Value → Shared → Prop} (hit : IsRt s.heap it t ((its.size : Int) - 1)) (ht : IsTup s.heap t its) (hsz : its.size ≤ sizeLine)
    (h : ∀ u tk, s.toks ≤ tk → Q (.int its.size u) { s with toks := tk }) : wpAny (model prog w) A (call (.builtin "reversed.__length_hint__") [.ref it]) Q E s := by
  obtain ⟨o, ho, hc, hd⟩ := id hit
  refine wpAny_call_entry slot_rt_hint hit.typeIs entry_rt_hint ?_ (args_rt_hint _)
  unfold Builtin.«reversed.__length_hint__»
  refine wpAny_bind (wpAny_of_eq (a := Value.ref it) rfl ?_)
  try dsimp only
  refine wpAny_bind (wpAny_field ho hd (x := .ref t) rfl ?_)
  try dsimp only
  try rw [if_neg (by decide)]
  rw [sizeLine_eq] at hsz
  refine wpAny_bind (len_tuple ht (by omega) ?_)
  refine wpAny_bind (wpAny_of_eq (a := some ((its.size : Nat) : Int)) rfl ?_)
  try dsimp only
  refine wpAny_bind (wpAny_field (s := { s with toks := s.toks + 1 + 1 }) ho hd (x := rawInt ((its.size : Int) - 1)) rfl ?_)
  show wpAny _ _ (if ((its.size : Nat) : Int) < ((its.size : Nat) : Int) - 1 + 1 then _ else retInt (((its.size : Nat) : Int) - 1 + 1)) _ _ _
  rw [if_neg (by omega)]
  unfold retInt
  refine wpAny_bind (wpAny_mkInt (wpAny_pure ⟨_, rfl, ?_⟩))
  have e : ((its.size : Nat) : Int) - 1 + 1 = its.size := by omega
  rw [e]
  exact h _ _ (by show s.toks ≤ s.toks + 1 + 1 + 1; omega)
theorem asInt_int (i : Int) (u : Tok) : asInt? (.int i u) = pure (some i) := rfl
theorem collect_rt {it t : Addr} {its : Array Value} {Q : List Value → Shared → Prop} (hh : A.handled = none) (hit : IsRt s.heap it t ((its.size : Int) - 1)) (ht : IsTup s.heap t its) (hne : t ≠ it) (hn : its.size ≤ sizeLine)
    (hQ : ∀ (h' : Heap) (tk : Nat) (acc : Array Value), (∀ b o, b ≠ it → s.heap.get? b = some o → h'.get? b = some o) → ItemsOf (fun i v => its[its.size - 1 - i]? = some v) acc its.size → Q acc.toList { s with heap := h', toks := tk }) :
    wpAny (model prog w) A (collect (.ref it)) Q E s := by
  have W := (walks_rt (prog := prog) (w := w) (A := A.in1) hh it t hne its hn).toS
  obtain ⟨oi, hoi, _⟩ := id hit
  obtain ⟨ol, hol, _⟩ := id ht
  have hSi : s.heap.objs.size ≠ it := Nat.ne_of_gt (Heap.lt_size hoi)
  have hSl : s.heap.objs.size ≠ t := Nat.ne_of_gt (Heap.lt_size hol)
  have hSf : s.heap.objs.size ∉ [it, t] := by simp only [List.mem_cons, List.not_mem_nil, or_false, not_or]; exact ⟨hSi, hSl⟩
  unfold collect
  refine wpAny_bind (wpAny_runValue (codeAny_builtin F.entry_proto_collect ?_))
  rw [Around.under_plainId F.plain_proto_collect _]
  show wpAny _ A.in1 (newList [] >>= fun l' => again (.builtin "list.__iadd__" ⟨[l', .ref it], []⟩)) _ _ s
  refine wpAny_bind (wpAny_newObj_type ?_)
  refine wpAny_pure ⟨plainId_quiet F.plain_list_iadd _, codeAny_builtin F.entry_list_iadd ?_⟩
  rw [Around.under_plainId F.plain_list_iadd _]
  have hS₁ : (s.heap.push { cls := .type "list", data := .seq ([] : List Value).toArray }).get? s.heap.objs.size = some { cls := .type "list", data := .seq ([] : List Value).toArray } := Heap.get?_push_size _ rfl
  have hit1 : IsRt (s.heap.push { cls := .type "list", data := .seq ([] : List Value).toArray }) it t ((its.size : Int) - 1) := hit.at fun o e => Heap.get?_push_of_some _ e
  have hl1 : IsTup (s.heap.push { cls := .type "list", data := .seq ([] : List Value).toArray }) t its := isTup_at ht fun o e => Heap.get?_push_of_some _ e
  have hT : ({ s with heap := s.heap.push { cls := .type "list", data := .seq ([] : List Value).toArray } } : Shared).TypeIs (.ref it) "reversed" := IsRt.typeIs (s := { s with heap := s.heap.push { cls := .type "list", data := .seq ([] : List Value).toArray } }) hit1
  have h1 : Builtin.List.listSameRef (.ref s.heap.objs.size) (.ref it) = false := by simp [Builtin.List.listSameRef, hSi]
  show wpAny _ A.in1 (Builtin.List.listExtendWith (.ref s.heap.objs.size) (.ref it) (.ref s.heap.objs.size)) _ _ _
  unfold Builtin.List.listExtendWith
  refine wpAny_bind (wpAny_typeOf hT ?_)
  rw [if_neg (by rw [h1]; decide)]
  refine wpAny_bind (iter_rt (s := { s with heap := s.heap.push { cls := .type "list", data := .seq ([] : List Value).toArray } }) hit1 ?_)
  refine wpAny_bind (wpAny_holding ?_)
  unfold Builtin.List.listLengthHint
  refine wpAny_bind (wpAny_specialOf hT nolen_rt ?_)
  show wpAny _ A.in1 (specialOf (Value.ref it) (Str.ofString "__length_hint__") >>= _) _ _ _
  refine wpAny_bind (wpAny_specialOf hT slot_rt_hint.lookup ?_)
  generalize hid : ("reversed.__length_hint__" : String) = id0
  wp_delta
  rw [show splitId id0 = some ("reversed", "__length_hint__") from by subst hid; decide +kernel]
  subst hid
  refine wpAny_bind (wpAny_isInstance (b := true) hT (by rw [isSubtype_type]; kernel_rfl) ?_)
  rw [if_neg (show ¬ ((!true) = true) by decide)]
  dsimp only
  split
  · rename_i hz
    exact absurd (hz.symm.trans (show _ = false by kernel_rfl)) (by decide)
  refine wpAny_bind (wpAny_rule ?_)
  rw [slot_rt_hint.bind]
  refine wpAny_bind (wpAny_pure ?_)
  dsimp only
  refine wpAny_bind (wpAny_attempt (call_rt_hint (s := { s with heap := s.heap.push { cls := .type "list", data := .seq ([] : List Value).toArray } }) hit1 hl1 hn fun u tk htk => ?_))
  dsimp only
  generalize hk : ((its.size : Nat) : Int) = k
  refine wpAny_bind (wpAny_of_eq (asInt_int k u) ?_)
  dsimp only
  have hn' := hn
  rw [sizeLine_eq] at hn'
  rw [if_neg (by unfold Builtin.List.listFitsIndex; simp only [Bool.not_eq_true', Bool.and_eq_false_iff, decide_eq_false_iff_not]; omega)]
  rw [if_neg (by omega)]
  rw [if_neg (by unfold Builtin.List.listTooLong; simp only [gt_iff_lt, decide_eq_true_eq, Nat.not_lt]; rw [← hk, Int.toNat_natCast]; exact hn)]
  refine wpAny_pure ?_
  have e0 : ((its.size : Nat) : Int) - 1 - ((0 : Nat) : Int) = (its.size : Int) - 1 := by omega
  by_cases h0 : its.size = 0
  · have ek : (k != 0) = false := by rw [← hk, h0]; rfl
    rw [ek]
    split
    · rename_i hz
      exact absurd (hz.symm.trans (show _ = false by kernel_rfl)) (by decide)
    refine wpAny_pure ⟨plainId_quiet F.plain_extend_loop _, codeAny_extend_loopS W hn _ hSf _ its.size 0 _ _ _ rfl (Nat.zero_le _) ⟨Nat.zero_le _, by rw [e0]; exact hit1, hl1⟩ hS₁ (ItemsOf.nil _) fun s' acc' c' hm hS' hacc => ?_⟩
    show wpAny _ A (load s.heap.objs.size >>= _) _ _ s'
    refine wpAny_bind (wpAny_load hS' ?_)
    refine wpAny_pure ?_
    rw [Moved.eq_with hm]
    refine hQ s'.heap s'.toks acc' (fun b o hb e => hm.heap b o (fun hmem => ?_) (Heap.get?_push_of_some _ e)) hacc
    rcases List.mem_cons.mp hmem with e' | hmem
    · exact absurd (Heap.lt_size e) (by rw [e']; exact Nat.lt_irrefl _)
    · exact hb (List.mem_singleton.mp hmem)
  · have ek : (k != 0) = true := by rw [← hk, bne_iff_ne]; omega
    rw [ek]
    split
    rotate_left
    · rename_i hz
      exact absurd (show _ = true by kernel_rfl) hz
    refine wpAny_bind (wpAny_rule ?_)
    unfold Builtin.List.listTouch
    have nf : ∀ {b : Addr} {o : Obj}, b ≠ s.heap.objs.size → (s.heap.push { cls := .type "list", data := .seq ([] : List Value).toArray }).get? b = some o → (((s.heap.push { cls := .type "list", data := .seq ([] : List Value).toArray }).update s.heap.objs.size (Obj.mapSeq (·.push .none))).update s.heap.objs.size (Obj.mapSeq (·.pop))).get? b = some o := fun hb e =>
      (Heap.get?_update_other _ _ (Ne.symm hb)).trans ((Heap.get?_update_other _ _ (Ne.symm hb)).trans e)
    have hS2 := Heap.get?_update_self (Obj.mapSeq (·.push .none)) hS₁ rfl
    have hS3 := Heap.get?_update_self (Obj.mapSeq (·.pop)) hS2 rfl
    refine wpAny_bind (wpAny_bind (listUpdate_at hS₁ rfl ?_))
    refine listUpdate_at hS2 rfl ?_
    refine wpAny_pure ⟨plainId_quiet F.plain_extend_loop _, codeAny_extend_loopS W hn _ hSf _ its.size 0 _ _ _ rfl (Nat.zero_le _) ⟨Nat.zero_le _, by rw [e0]; exact hit1.at fun o e => nf (Ne.symm hSi) e, isTup_at hl1 fun o e => nf (Ne.symm hSl) e⟩ hS3 (ItemsOf.nil _) fun s' acc' c' hm hS' hacc => ?_⟩
    show wpAny _ A (load s.heap.objs.size >>= _) _ _ s'
    refine wpAny_bind (wpAny_load hS' ?_)
    refine wpAny_pure ?_
    rw [Moved.eq_with hm]
    refine hQ s'.heap s'.toks acc' (fun b o hb e => hm.heap b o (fun hmem => ?_) (nf (Nat.ne_of_lt (Heap.lt_size e)) (Heap.get?_push_of_some _ e))) hacc
    rcases List.mem_cons.mp hmem with e' | hmem
    · exact absurd (Heap.lt_size e) (by rw [e']; exact Nat.lt_irrefl _)
    · exact hb (List.mem_singleton.mp hmem)
theorem code_tuple_new_rt {it l : Addr} {items : Array Value} {Q₁ : Value → Shared → Prop} (hh : A.handled = none) (hit : IsRt s.heap it l ((items.size : Int) - 1)) (hl : IsTup s.heap l items) (hne : l ≠ it) (hn : items.size ≤ sizeLine)
    (h : ∀ (h' : Heap) (tk : Nat) (acc : Array Value), (∀ b o, b ≠ it → s.heap.get? b = some o → h'.get? b = some o) → ItemsOf (fun i v => items[items.size - 1 - i]? = some v) acc items.size →
      Q₁ (.ref h'.objs.size) { s with heap := h'.push { cls := .type "tuple", data := .seq acc }, toks := tk }) :
    codeAny (model prog w) A (.call (.builtin "tuple.__new__") ⟨[.type "tuple", .ref it], []⟩) (wants Q₁ E) s := by
  refine codeAny_of_tree ?_
  show wpAny _ A.in1 (do checkBuiltinCall "tuple.__new__" ⟨[.type "tuple", .ref it], []⟩; again (.builtin "tuple.__new__" ⟨[.type "tuple", .ref it], []⟩)) _ _ s
  refine wpAny_bind (wpAny_of_eq (F.newCall_tuple_1 _) (wpAny_pure ⟨plainId_quiet F.plain_tuple_new _, codeAny_builtin F.entry_tuple_new ?_⟩))
  rw [Around.under_plainId F.plain_tuple_new _]
  have hsub := sub_tuple_self
  have hinit := init_tuple_lookup
  have hmh := madeHere_tuple
  have hTI : s.TypeIs (.ref it) "reversed" := hit.typeIs
  have hh1 : A.in1.handled = none := hh
  wp_walk using wpAny_typeOf hTI, collect_rt (A := A.in1) hh1 hit hl hne hn
  intro h' tk acc hk hacc
  show wpAny _ _ (Builtin.Tuple.tupleExact acc.toList.toArray >>= fun v => ret v) _ _ _
  unfold Builtin.Tuple.tupleExact
  refine wpAny_bind (wpAny_newObj_type ?_ (by show acc.toList.toArray.size ≤ sizeLine; simp only [Array.toArray_toList]; rw [hacc.1]; exact hn))
  refine wpAny_pure ?_
  have e : acc.toList.toArray = acc := by simp
  rw [e]
  exact h h' tk acc hk hacc
theorem call_tuple_rt {it l : Addr} {items : Array Value} {Q : Value → Shared → Prop} (hh : A.handled = none) (hit : IsRt s.heap it l ((items.size : Int) - 1)) (hl : IsTup s.heap l items) (hne : l ≠ it) (hn : items.size ≤ sizeLine)
    (hQ : ∀ (h' : Heap) (tk : Nat) (acc : Array Value), (∀ b o, b ≠ it → s.heap.get? b = some o → h'.get? b = some o) → ItemsOf (fun i v => items[items.size - 1 - i]? = some v) acc items.size →
      Q (.ref h'.objs.size) { s with heap := h'.push { cls := .type "tuple", data := .seq acc }, toks := tk }) :
    wpAny (model prog w) A (call (.type "tuple") [.ref it]) Q E s := by
  refine callType_codes (Q₁ := fun obj s₁ => s₁.TypeIs obj "tuple" ∧ Q obj s₁) F.called_tuple (F.typeCall_tuple_1 _) F.entry_object_init
    (code_tuple_new_rt (A := A.in1) hh hit hl hne hn fun h' tk acc hk hacc => ⟨⟨_, Heap.get?_push_size _ rfl, rfl⟩, hQ h' tk acc hk hacc⟩) fun obj s₁ h₁ => ?_
  exact ⟨h₁.1, F.args_object_init_2 obj _, object_init_meets F.called_tuple.init.lookup F.called_tuple.made (by decide) prog w A.in1 _ s₁ ⟨h₁.1, rfl, h₁.2⟩⟩
end
open L2
/-- tuple(reversed(x)), x a list or a tuple -/
def tTupRevA (K : PySem.W.Frag) (te : TE) : TE := fun σ H Q => te σ H fun v H1 => ∃ (a : Addr) (xs : List V), v = .ref a ∧ (SqL K H1 a xs ∨ SqT K H1 a xs) ∧ ∀ q, H1 q = none → Q (.ref q) (upd H1 q (.tup xs.reverse))
section
variable {X : Cx}
theorem pe_tupRevA {e : Expr} {te : TE} {p p2 pos pos2 : Pos} (hc : X.calm = true) (hg : Gl X "tuple") (hm : X.mg "tuple" = none) (hg2 : Gl X "reversed") (hm2 : X.mg "reversed" = none) (he : PE X e te)
    (hs : starEach [e] X.env = (false, eval e X.env) :: starEach [] X.env)
    (hs2 : starEach [.Call (.Name "reversed" p2) [e] [] pos2] X.env = (false, eval (.Call (.Name "reversed" p2) [e] [] pos2) X.env) :: starEach [] X.env) :
    PE X (.Call (.Name "tuple" p) [.Call (.Name "reversed" p2) [e] [] pos2] [] pos) (tTupRevA X.K te) := by
  refine ⟨fun pins s σ H Q I h => ?_⟩
  refine Call_ (ld_blt I hg hm boot_tuple (PyProof.Rows.callWith_type1 (args_cons (Call_ (ld_blt I hg2 hm2 PyProof.Rows.boot_reversed (PyProof.Rows.callWith_type1 (args_cons (thn (he.run pins s σ H _ I h) fun u s1 ⟨v, H1, I1, r1, q1⟩ => args_nil ?_) hs) hs rfl))) hs2) hs2 rfl))
  obtain ⟨a, xs, ev, hq, q⟩ := q1
  subst ev
  obtain rfl : u = Value.ref a := r1
  rcases hq with hq | hq
  · obtain ⟨its, rv, p', hz⟩ := I1.list hq
    refine call_reversed_list p'.isList (args_nil ?_)
    have k0 : ∀ b o, s1.heap.get? b = some o → (s1.heap.push (revObj a ((its.toArray.size : Int) - 1))).get? b = some o := fun b o e => Heap.get?_push_of_some _ e
    have I2 : Inv X pins σ H1 { s1 with heap := s1.heap.push (revObj a ((its.toArray.size : Int) - 1)) } := I1.kept (t' := s1.toks) k0
    obtain ⟨f0, f1, f2, f3, f4, f5⟩ := I1.fpOk (H' := H1) (b := s1.heap.objs.size) (Nat.le_refl _) (I1.hok.fresh (Nat.le_refl _))
    have hl := p'.isList
    obtain ⟨ol, hol, _⟩ := id hl
    have hne : a ≠ s1.heap.objs.size := Nat.ne_of_lt (Heap.lt_size hol)
    have hn : its.toArray.size ≤ sizeLine := by rw [List.size_toArray, ← rv.length]; exact hz
    refine call_tuple_rev (s := { s1 with heap := s1.heap.push (revObj a ((its.toArray.size : Int) - 1)) }) (I1.ok.hd hc) ⟨_, Heap.get?_push_size _ rfl, rfl, rfl⟩ (hl.push _) hne hn fun h' tk acc hk hi => ?_
    have I3 : Inv X pins σ H1 { s1 with heap := h', toks := tk } := I2.turned (t' := tk) (fun b o hb e => hk b o hb e) f0 f1 f3 f4 f5
    refine ⟨.ref h'.objs.size, upd H1 h'.objs.size (.tup xs.reverse), I3.laid (t' := tk) (fun c o e => Heap.get?_push_of_some _ e) (Nat.le_refl _) (show ObjOk X.prog X.w _ _ _ (.tup xs.reverse) from ⟨by rw [List.length_reverse]; exact hz, acc.toList, vals_rev rv hi, ?_⟩), rfl, q _ (I3.hok.fresh (Nat.le_refl _))⟩
    rw [Array.toArray_toList]
    exact IsTup.new _ _
  · obtain ⟨its, rv, p', hz⟩ := I1.tuple hq
    have hn63 := line63
    have hn : its.toArray.size ≤ sizeLine := by rw [List.size_toArray, ← rv.length]; exact hz
    refine call_reversed_tup p' (fun A E Q k => len_tuple p' (by omega) k) (args_nil ?_)
    have k0 : ∀ b o, s1.heap.get? b = some o → (s1.heap.push (rtObj a ((its.toArray.size : Int) - 1))).get? b = some o := fun b o e => Heap.get?_push_of_some _ e
    have I2 : Inv X pins σ H1 { s1 with heap := s1.heap.push (rtObj a ((its.toArray.size : Int) - 1)), toks := s1.toks + 1 + 1 } := I1.kept (t' := s1.toks + 1 + 1) k0
    obtain ⟨f0, f1, f2, f3, f4, f5⟩ := I1.fpOk (H' := H1) (b := s1.heap.objs.size) (Nat.le_refl _) (I1.hok.fresh (Nat.le_refl _))
    obtain ⟨ol, hol, _⟩ := id p'
    have hne : a ≠ s1.heap.objs.size := Nat.ne_of_lt (Heap.lt_size hol)
    refine call_tuple_rt (s := { s1 with heap := s1.heap.push (rtObj a ((its.toArray.size : Int) - 1)), toks := s1.toks + 1 + 1 }) (I1.ok.hd hc) ⟨_, Heap.get?_push_size _ rfl, rfl, rfl⟩ (isTup_at p' fun o e => Heap.get?_push_of_some _ e) hne hn fun h' tk acc hk hi => ?_
    have I3 : Inv X pins σ H1 { s1 with heap := h', toks := tk } := I2.turned (t' := tk) (fun b o hb e => hk b o hb e) f0 f1 f3 f4 f5
    refine ⟨.ref h'.objs.size, upd H1 h'.objs.size (.tup xs.reverse), I3.laid (t' := tk) (fun c o e => Heap.get?_push_of_some _ e) (Nat.le_refl _) (show ObjOk X.prog X.w _ _ _ (.tup xs.reverse) from ⟨by rw [List.length_reverse]; exact hz, acc.toList, vals_rev rv hi, ?_⟩), rfl, q _ (I3.hok.fresh (Nat.le_refl _))⟩
    rw [Array.toArray_toList]
    exact IsTup.new _ _
end
def mTupRev (m : M) : M := fun env h => (m env h).bind fun d h1 => match look h1 d with
  | .lst xs => mkT xs.reverse h1
  | .tup xs => mkT xs.reverse h1
  | _ => .bad
section
variable {X : Cx} {T : Tb} {W : WX}
theorem den_tupRev {e : Expr} {m : M} {p p2 pos pos2 : Pos} (hc : X.calm = true) (hg : Gl X "tuple") (hm : X.mg "tuple" = none) (hg2 : Gl X "reversed") (hm2 : X.mg "reversed" = none) (he : PE X e (tI X.K T W m))
    (hs : starEach [e] X.env = (false, eval e X.env) :: starEach [] X.env)
    (hs2 : starEach [.Call (.Name "reversed" p2) [e] [] pos2] X.env = (false, eval (.Call (.Name "reversed" p2) [e] [] pos2) X.env) :: starEach [] X.env) :
    PE X (.Call (.Name "tuple" p) [.Call (.Name "reversed" p2) [e] [] pos2] [] pos) (tI X.K T W (mTupRev m)) := by
  refine PE.imp (pe_tupRevA hc hg hm hg2 hm2 he hs hs2) fun σ H Q ⟨ρ, env, h, hw, he, p⟩ => ?_
  unfold mTupRev at p
  refine bindI hw he p fun H1 ρ1 d h1 v x1 w1 e1 r1 p1 => ?_
  split at p1
  · rename_i xs l
    obtain ⟨a, vs, rfl, s, rs⟩ := look_lst w1 l r1
    exact ⟨a, vs, rfl, .inl (.of s), (put_tup (X := X) w1 rs.rev p1).2⟩
  · rename_i xs l
    obtain ⟨a, vs, rfl, s, rs⟩ := look_tup l r1
    exact ⟨a, vs, rfl, .inr s, (put_tup (X := X) w1 rs.rev p1).2⟩
  · exact p1.elim
end
end Iv

set_option maxRecDepth 100000
namespace Iv
open PySem PySem.Spec PyProof.Rows L2
/-! a def that touches nothing that stands, and gives a new list that its caller may change -/
mutual
def noL : D → Bool
  | .tup xs => noLs xs
  | .non => true
  | .bl _ => true
  | .int _ => true
  | .str _ => true
  | _ => false
def noLs : List D → Bool
  | [] => true
  | x :: xs => noL x && noLs xs
end
section
variable {K : PySem.W.Frag} {T T' : Tb} {H H' : Hp} {ρ ρ' : List Addr} {h : Hs} {P : Program} {w : World} {hp : Heap}
mutual
theorem RelD.anyR (sl : Sealed ρ hp H') {d : D} : ∀ {v : V}, noL d = true → RelD K T.no H' ρ' d v → ∀ r, RelD K T (unsl H ρ H') r d v := by
  intro v hl q r
  match d with
  | .non => unfold RelD at q ⊢; exact q
  | .bl b => unfold RelD at q ⊢; exact q
  | .int i => unfold RelD at q ⊢; exact q
  | .str y => unfold RelD at q ⊢; exact q
  | .tup ds =>
    unfold noL at hl
    unfold RelD at q ⊢
    obtain ⟨a, vs, e, s, q⟩ := q
    exact ⟨a, vs, e, un_sqT sl s, RelDs.anyR sl hl q r⟩
  | .lst ds => unfold noL at hl; cases hl
  | .scr ds => unfold noL at hl; cases hl
  | .dct ks ds => unfold noL at hl; cases hl
  | .dcu ks ds => unfold noL at hl; cases hl
  | .ref k => unfold noL at hl; cases hl
  | .ty n => unfold noL at hl; cases hl
  | .own n => unfold noL at hl; cases hl
  | .exc n => unfold noL at hl; cases hl
  | .fn n => unfold noL at hl; cases hl
  | .clo j => unfold noL at hl; cases hl
theorem RelDs.anyR (sl : Sealed ρ hp H') {ds : List D} : ∀ {vs : List V}, noLs ds = true → RelDs K T.no H' ρ' ds vs → ∀ r, RelDs K T (unsl H ρ H') r ds vs := by
  intro vs hl q r
  match ds with
  | [] => unfold RelDs at q ⊢; exact q
  | d :: ds =>
    unfold noLs at hl
    rw [Bool.and_eq_true] at hl
    unfold RelDs at q ⊢
    obtain ⟨v, s, e, q1, q2⟩ := q
    exact ⟨v, s, e, RelD.anyR sl hl.1 q1 r, RelDs.anyR sl hl.2 q2 r⟩
end
end
def thawR (r : R D) (h : Hs) : R D := match r with
  | .ok (.ref k) h' => match h'[k]? with
    | some (.lst xs) => if noLs xs then .ok (.ref h.length) (h ++ [.lst xs]) else .bad
    | _ => .bad
  | .ex c _ => .ex c h
  | _ => .bad
def spT (K : PySem.W.Frag) (T : Tb) (φ : Fm) (n : Nat) : Sp := fun vs H Q E => vs.length = n ∧ ∃ ρ ds h, RelH K T H ρ h ∧ RelDs K T H ρ ds vs ∧ ltDs 0 ds = true ∧ h.all plainO = true ∧ PostV K T (RelD K T) H ρ (thawR (φ ds []) h) Q E
theorem fn_thaw {P : Program} {w : World} {K : PySem.W.Frag} {T : Tb} {mg : Str → Option Value} {base : Heap} {k n : Nat} {f : Addr} {fd : FuncData} {ps : List Str} {φ : Fm} (F : FnOk P w K mg base (L2.CX P w) k f fd ps (spI K T.no φ n)) (hn : ps.length = n := by rfl) :
    FnOk P w K mg base (L2.CX P w) k f fd ps (spT K T φ n) := by
  refine ⟨fun vs H Q E h => h.1.trans hn.symm, fun A outer s H args us vs Q E hr he hb hv hs => ?_⟩
  obtain ⟨hl, ρ, ds, h, R, rs, lt, pl, p⟩ := hs
  have ld := R.ld pl
  have sl0 : Sealed ρ s.heap (sealH H s.heap ρ) := sealed_of he.hok ld
  have he2 : Env0 P w K mg base A outer s (sealH H s.heap ρ) := ⟨he.frames, he.mod, fun b o e => ⟨(he.bs b o e).1, by rw [seal_out (ld.noneOut (he.bs b o e).2)]; exact (he.bs b o e).2⟩, he.bsz, he.funs,
    fun b hb => by rw [seal_out (ld.noneOut (he.frf b hb))]; exact he.frf b hb, seal_hok he.hok ld, he.bare⟩
  have keepS : ∀ {H' : Hp}, (∀ b o u, sealH H s.heap ρ b = some (.frz o u) → H' b = some (.frz o u)) → Sealed ρ s.heap H' := fun k a ha => by
    obtain ⟨o, e, q⟩ := sl0 a ha
    exact ⟨o, e, k a o _ q⟩
  refine codeAny_mono (F.run A outer s (sealH H s.heap ρ) args us vs (fun v H' => Q v (unsl H ρ H')) (fun c d H' => E c d (unsl H ρ H')) hr he2 hb hv ⟨hl, [], ds, [], ?_, RelDs.sealed ld lt rs, ?_⟩) fun r s' hc => ?_
  · exact ⟨rfl, List.nodup_nil, fun n ob a e => by simp at e, seal_tabs ld R.tab⟩
  · unfold thawR at p
    cases e : φ ds [] with
    | bad => rw [e] at p; exact p
    | ok d h' =>
      rw [e] at p
      skip
      cases d with
      | ref k =>
        dsimp only at p
        split at p
        · rename_i xs ek
          split at p
          · rename_i hx
            intro H' ρ' v x R' q
            have sl := keepS x.frz
            unfold RelD at q
            obtain ⟨a, rfl, ha⟩ := q
            obtain ⟨vs, ea, rs'⟩ := R'.at_ k _ a ek ha
            have na := sl.out ea fun _ _ z => nomatch z
            have am : a ∈ ρ' := List.mem_of_getElem? ha
            have ux := un_ext ld sl x
            have uR := un_relH R ld sl x R'.tab
            have ex : Ext H ρ (unsl H ρ H') (ρ ++ [a]) := by
              refine ⟨⟨[a], rfl⟩, fun b u e f n => ⟨(ux.stay b u e f n).1, ?_⟩, fun b kvs e n => ⟨(ux.dict b kvs e n).1, ?_⟩, ux.tup, ux.obj, ux.frz⟩
              · have := (x.stay b u (by rw [seal_out n]; exact e) f (by simp)).2
                intro z
                rcases List.mem_append.mp z with z | z
                · exact n z
                · rw [List.mem_singleton] at z; subst z; exact this am
              · have := (x.dict b kvs (e.elim (fun e => .inl (by rw [seal_out n]; exact e)) fun ⟨o, e⟩ => .inr ⟨o, by rw [seal_out n]; exact e⟩) (by simp)).2
                intro z
                rcases List.mem_append.mp z with z | z
                · exact n z
                · rw [List.mem_singleton] at z; subst z; exact this am
            refine p _ (ρ ++ [a]) (.ref a) ex ⟨by rw [List.length_append, List.length_append, R.len]; rfl, ?_, fun n ob b e1 e2 => ?_, un_tabs sl R'.tab⟩ ?_
            · rw [List.nodup_append]
              exact ⟨R.nd, by simp, fun b hb c hc => by rw [List.mem_singleton] at hc; subst hc; exact fun z => na (z ▸ hb)⟩
            · by_cases hn : n < h.length
              · rw [List.getElem?_append_left hn] at e1
                rw [List.getElem?_append_left (by rw [R.len]; exact hn)] at e2
                exact (R.at_ n ob b e1 e2).mono ex (un_in (List.mem_of_getElem? e2))
              · have hn' : n = h.length := by
                  have := (List.getElem?_eq_some_iff.mp e1).1
                  rw [List.length_append, List.length_singleton] at this
                  omega
                subst hn'
                rw [List.getElem?_append_right (Nat.le_refl _), Nat.sub_self] at e1
                cases e1
                rw [← R.len, List.getElem?_append_right (Nat.le_refl _), Nat.sub_self] at e2
                cases e2
                exact ⟨vs, by rw [un_out na]; exact ea, RelDs.anyR sl hx rs' _⟩
            · unfold RelD
              exact ⟨a, rfl, by rw [← R.len, List.getElem?_append_right (Nat.le_refl _), Nat.sub_self]; rfl⟩
          · exact p.elim
        · exact p.elim
      | _ => exact p.elim
    | ex c h' =>
      rw [e] at p
      intro H' ρ' x R'
      have sl := keepS x.frz
      exact p _ ρ (un_ext ld sl x) (un_relH R ld sl x R'.tab)
  · cases r with
    | error e =>
      obtain ⟨a, B, H', cls, d, rfl, fl, hok, ub, na, os, ag, hE⟩ := hc
      have sl := keepS ub.frzs
      refine ⟨a, B, unsl H ρ H', cls, d, rfl, fl, un_hok he.hok ld sl hok (fun b xs e n => ub.tups b xs (by rw [seal_out n]; exact e)), ⟨fun b o e1 e2 => ub.keep b o e1 (by rw [seal_out (ld.noneOut e2)]; exact e2), ub.slot, fun b o e1 e2 => ?_, ub.there, fun b xs e => ?_, fun b o xs e => ?_, fun b ps e => ?_⟩, by rw [un_out (sl.outN na)]; exact na, os, ag, hE⟩
      · have n := ld.noneOut e2
        rw [un_out n]
        exact ub.free b o e1 (by rw [seal_out n]; exact e2)
      · have n := ld.out e (fun _ z => nomatch z) fun _ z => nomatch z
        rw [un_out n]
        exact ub.tups b xs (by rw [seal_out n]; exact e)
      · have n := ld.out e (fun _ z => nomatch z) fun _ z => nomatch z
        rw [un_out n]
        exact ub.frzs b o xs (by rw [seal_out n]; exact e)
      · have n := ld.out e (fun _ z => nomatch z) fun _ z => nomatch z
        obtain ⟨m, q⟩ := ub.tbls b ps (by rw [seal_out n]; exact e)
        exact ⟨m, by rw [un_out n]; exact q⟩
    | ok fl =>
      cases fl with
      | ret u =>
        obtain ⟨v, H', os, ag, un, hok, rv, q⟩ := hc
        have sl := keepS un.frzs
        refine ⟨v, unsl H ρ H', os, ag, ⟨fun b o e1 e2 => un.keep b o e1 (by rw [seal_out (ld.noneOut e2)]; exact e2), fun b o e1 e2 => un.slot b o e1 (by rw [seal_out (ld.noneOut e2)]; exact e2), fun b o e1 e2 hx => ?_, un.there, fun b xs e => ?_, fun b o xs e => ?_, fun b ps e => ?_⟩, un_hok he.hok ld sl hok (fun b xs e n => un.tups b xs (by rw [seal_out n]; exact e)), rv, q⟩
        · have n := ld.noneOut e2
          rw [un_out n]
          exact un.free b o e1 (by rw [seal_out n]; exact e2) hx
        · have n := ld.out e (fun _ z => nomatch z) fun _ z => nomatch z
          rw [un_out n]
          exact un.tups b xs (by rw [seal_out n]; exact e)
        · have n := ld.out e (fun _ z => nomatch z) fun _ z => nomatch z
          rw [un_out n]
          exact un.frzs b o xs (by rw [seal_out n]; exact e)
        · have n := ld.out e (fun _ z => nomatch z) fun _ z => nomatch z
          obtain ⟨m, q⟩ := un.tbls b ps (by rw [seal_out n]; exact e)
          exact ⟨m, by rw [un_out n]; exact q⟩
      | next => exact False.elim hc
      | brk => exact False.elim hc
      | cont => exact False.elim hc
def mCallT (φ : Fm) (perm : List Nat) (ms mk : Ms) : M := fun env h => (ms env h).bind fun ds h1 => (mk env h1).bind fun es h2 => if ltDs 0 (pick .non perm (ds ++ es)) && h2.all plainO then thawR (φ (pick .non perm (ds ++ es)) []) h2 else .bad
section
variable {X : Cx} {T : Tb} {W : WX}
theorem den_callT {φ : Fm} {k n np : Nat} {f : Addr} {fd : FuncData} {ps ks : List Str} {perm : List Nat} {x : Str} {p pos : Pos} {e : Expr} {r : List Expr} {kws : List Keyword} {ms mk : Ms} (tk : Takes X W) (F : FnOk X.prog X.w X.K X.mg X.base (L2.CX X.prog X.w) k f fd ps (spI X.K T.no φ np)) (hnp : perm.length = np) (hpl' : ps.length = np) (hr : Room k X.A) (hg : Gl X x) (hm : X.mg x = some (.ref f)) (hk : PySem.W.keepIn X.K (.ref f) = true)
    (hb : BindG fd ps n ks perm) (ha : PA X (e :: r) (tIs X.K T W ms)) (hkw : PK X kws (tIs X.K T W mk)) (hall : (backToKw pos (keywordEach kws X.env)).all (·.1.isSome) = true) (hks : (backToKw pos (keywordEach kws X.env)).filterMap (·.1) = ks)
    (hdb : (x == ("__debug__" : Str)) = false) (he : starEach (e :: r) X.env = (false, eval e X.env) :: starEach r X.env)
    (hpl : ((backTo pos (starEach (e :: r) X.env)).any (·.1) || (backToKw pos (keywordEach kws X.env)).any (·.1.isNone)) = false)
    (hl1 : ∀ env h ds h1, ms env h = .ok ds h1 → ds.length = n) (hl2 : ∀ env h ds h1, mk env h = .ok ds h1 → ds.length = ks.length) :
    PE X (.Call (.Name x p) (e :: r) kws pos) (tI X.K T W (mCallT φ perm ms mk)) := by
  subst hnp
  refine PE.imp (pe_callG (fn_thaw (T := T) F hpl') hr hg hm hk hb (passAt tk) ha hkw hall hks hdb he hpl) fun σ H Q ⟨ρ, env, h, hw, he, p⟩ => ?_
  unfold mCallT at p
  refine ⟨ρ, env, h, hw, he, ?_⟩
  cases e1 : ms env h with
  | bad => rw [e1] at p; exact p
  | ex c h1 => rw [e1] at p; exact p
  | ok ds h1 =>
    rw [e1] at p
    intro H1 ρ1 vs x1 w1 r1
    refine ⟨ρ1, env, h1, w1, he.mono x1, ?_⟩
    have p1 := PostV.mono x1 p
    dsimp only [R.bind] at p1
    cases e2 : mk env h1 with
    | bad => rw [e2] at p1; exact p1
    | ex c h2 => rw [e2] at p1; exact p1
    | ok es h2 =>
      rw [e2] at p1
      intro H2 ρ2 zs x2 w2 r2
      have p2 := PostV.mono x2 p1
      dsimp only at p2
      have ra : RelDs X.K T H2 ρ2 (ds ++ es) (vs ++ zs) := (r1.mono x2).app r2
      have l1 := hl1 env h ds h1 e1
      have l2 := hl2 env h1 es h2 e2
      split at p2
      · rename_i c
        rw [Bool.and_eq_true] at c
        refine ⟨by rw [← RelDs.len r1]; exact l1, by rw [← RelDs.len r2]; exact l2, by unfold pick; rw [List.length_map], ρ2, _, h2, w2, RelDs.pick ra (fun i hi => ?_), c.1, c.2, p2⟩
        rw [← RelDs.len ra, List.length_append, l1, l2]
        exact hb.1 i hi
      · exact p2.elim
theorem den_callT0 {φ : Fm} {k np : Nat} {f : Addr} {fd : FuncData} {ps ks : List Str} {perm : List Nat} {x : Str} {p pos : Pos} {kws : List Keyword} {mk : Ms} (tk : Takes X W) (F : FnOk X.prog X.w X.K X.mg X.base (L2.CX X.prog X.w) k f fd ps (spI X.K T.no φ np)) (hnp : perm.length = np) (hpl' : ps.length = np) (hr : Room k X.A) (hg : Gl X x) (hm : X.mg x = some (.ref f)) (hk : PySem.W.keepIn X.K (.ref f) = true)
    (hb : BindG fd ps 0 ks perm) (hkw : PK X kws (tIs X.K T W mk)) (hall : (backToKw pos (keywordEach kws X.env)).all (·.1.isSome) = true) (hks : (backToKw pos (keywordEach kws X.env)).filterMap (·.1) = ks)
    (hdb : (x == ("__debug__" : Str)) = false) (hpl : ((backTo pos (starEach [] X.env)).any (·.1) || (backToKw pos (keywordEach kws X.env)).any (·.1.isNone)) = false)
    (hl2 : ∀ env h ds h1, mk env h = .ok ds h1 → ds.length = ks.length) :
    PE X (.Call (.Name x p) [] kws pos) (tI X.K T W (mCallT φ perm mNil mk)) := by
  subst hnp
  refine PE.imp (pe_callG0 (fn_thaw (T := T) F hpl') hr hg hm hk hb (passAt tk) hkw hall hks hdb hpl) fun σ H Q ⟨ρ, env, h, hw, he, p⟩ => ?_
  unfold mCallT mNil at p
  dsimp only [R.bind] at p
  refine ⟨ρ, env, h, hw, he, ?_⟩
  cases e2 : mk env h with
  | bad => rw [e2] at p; exact p
  | ex c h2 => rw [e2] at p; exact p
  | ok es h2 =>
    rw [e2] at p
    intro H2 ρ2 zs x2 w2 r2
    have p2 := PostV.mono x2 p
    dsimp only at p2
    have l2 := hl2 env h es h2 e2
    rw [List.nil_append] at p2
    split at p2
    · rename_i c
      rw [Bool.and_eq_true] at c
      refine ⟨by rw [← RelDs.len r2]; exact l2, by unfold pick; rw [List.length_map], ρ2, _, h2, w2, RelDs.pick r2 (fun i hi => ?_), c.1, c.2, p2⟩
      rw [← RelDs.len r2, l2]
      have := hb.1 i hi
      omega
    · exact p2.elim
end
end Iv

set_option maxRecDepth 100000
namespace Iv
open PySem PySem.Spec PyProof.Rows L2
/-! sorted(x), x a list, a tuple, or a dict whose keys are ints -/
def iLe (a b : Int) : Bool := decide (a ≤ b)
def keysI : List Key → Option (List Int)
  | [] => some []
  | .inl i :: r => (keysI r).map (i :: ·)
  | _ => none
theorem keysI_map : ∀ {ks : List Key} {ns : List Int}, keysI ks = some ns → ks = ns.map Sum.inl
  | [], ns, e => by cases e; rfl
  | .inl i :: r, ns, e => by
    unfold keysI at e
    obtain ⟨m, e1, rfl⟩ := map_some e
    rw [keysI_map e1]; rfl
  | .inr _ :: _, ns, e => by cases e
theorem ins_perm (x : Int) : ∀ ys : List Int, (ins iLe x ys).Perm (x :: ys)
  | [] => by unfold ins; exact .refl _
  | y :: r => by
    unfold ins
    split
    · exact .refl _
    · exact (List.Perm.cons y (ins_perm x r)).trans (.swap x y r)
theorem isort_perm : ∀ xs : List Int, (isort iLe xs).Perm xs
  | [] => by unfold isort; exact .refl _
  | x :: r => by unfold isort; exact (ins_perm x _).trans (List.Perm.cons x (isort_perm r))
theorem ins_mem {x z : Int} {ys : List Int} : z ∈ ins iLe x ys ↔ z = x ∨ z ∈ ys := by
  rw [(ins_perm x ys).mem_iff, List.mem_cons]
theorem ins_sorted (x : Int) : ∀ {ys : List Int}, ys.Pairwise (· ≤ ·) → (ins iLe x ys).Pairwise (· ≤ ·)
  | [], _ => by unfold ins; exact List.pairwise_singleton _ _
  | y :: r, h => by
    have h' := List.pairwise_cons.mp h
    unfold ins
    by_cases hxy : x ≤ y
    · rw [if_pos (show iLe x y = true from decide_eq_true hxy)]
      refine List.pairwise_cons.mpr ⟨fun z hz => ?_, h⟩
      rcases List.mem_cons.mp hz with rfl | hz
      · exact hxy
      · exact Int.le_trans hxy (h'.1 z hz)
    · rw [if_neg (by unfold iLe; simpa using hxy)]
      refine List.pairwise_cons.mpr ⟨fun z hz => ?_, ins_sorted x h'.2⟩
      rcases ins_mem.mp hz with rfl | hz
      · exact Int.le_of_lt (Int.not_le.mp hxy)
      · exact h'.1 z hz
theorem isort_sorted : ∀ xs : List Int, (isort iLe xs).Pairwise (· ≤ ·)
  | [] => by unfold isort; exact List.Pairwise.nil
  | x :: r => by unfold isort; exact ins_sorted x (isort_sorted r)
theorem sorted_one {xs ys zs : List Int} (p : ys.Perm xs) (q : zs.Perm xs) (h1 : ys.Pairwise (· ≤ ·)) (h2 : zs.Pairwise (· ≤ ·)) : ys = zs :=
  List.Perm.eq_of_pairwise (fun a b _ _ x y => Int.le_antisymm x y) h1 h2 (p.trans q.symm)
def sortedA (m : Bool) (d : D) (h : Hs) : R D := match look h d with
  | .dct ks _ => match keysI ks with
    | some ns => if ns.length < 64 then mkL m ((isort iLe ns).map .int) h else .bad
    | none => .bad
  | _ => sortedB m d h
section
variable {X : Cx} {T : Tb} {W : WX}
theorem relInts {K : PySem.W.Frag} {H : Hp} {ρ : List Addr} : ∀ ns : List Int, RelDs K T H ρ (ns.map .int) (ns.map V.int) := by
  intro ns
  induction ns with
  | nil => unfold RelDs; rfl
  | cons x r ih => rw [List.map_cons, List.map_cons]; unfold RelDs; exact ⟨_, _, rfl, by unfold RelD; rfl, ih⟩
theorem snd_sortedA {m : Bool} : BiSound X T (b1 (sortedA m)) (fun xs H Q => rSortA X.K xs H Q ∨ (∃ (a : Addr) (kvs : List (Key × V)) (ks : List Int), xs = [.ref a] ∧ Rd H a (.dK kvs) ∧ kvs.map (·.1) = ks.map Sum.inl ∧ ks.length < 64 ∧
    ∀ (ys : List Int) (p : Addr), ys.Perm ks → ys.Pairwise (· ≤ ·) → H p = none → Q (.ref p) (upd H p (.lst (ys.map V.int))))) := one_arg' fun H ρ h d v Q Wx hw r p => by
  unfold sortedA at p
  split at p
  · rename_i ks ds l
    split at p
    · rename_i ns e
      split at p
      · rename_i hl
        obtain ⟨a, kvs, rfl, s, ek, rs⟩ := look_dct hw l r
        refine .inr ⟨a, kvs, ns, rfl, s, ek.trans (keysI_map e), hl, fun ys q py sy nq => ?_⟩
        have ey := sorted_one py (isort_perm ns) sy (isort_sorted ns)
        subst ey
        exact (put_lst (X := X) hw (relInts _) p).2 q nq
      · exact p.elim
    · exact p.elim
  · exact .inl (snd_sorted (X := X) H ρ h [d] [v] Q Wx hw (RelDs.mk1 r) p)
def mSortedA (m : Bool) (ms : Ms) : M := fun env h => (ms env h).bind (b1 (sortedA m))
theorem bt_sorted' : bootBuiltins "sorted" = some (.builtin "sorted") := by decide +kernel
theorem den_sortedA {m : Bool} {e : Expr} {es : List Expr} {p pos : Pos} {ms : Ms} (hu : X.A.units + 65 < cLine) (hcalm : X.calm = true) (hg : Gl X "sorted") (hm : X.mg "sorted" = none) (ha : PA X (e :: es) (tIs X.K T W ms))
    (he : starEach (e :: es) X.env = (false, eval e X.env) :: starEach es X.env) (hpl : (backTo pos (starEach es X.env)).any (·.1) = false) : PE X (.Call (.Name "sorted" p) (e :: es) [] pos) (tI X.K T W (mSortedA m ms)) :=
  den_callB ((cr_sortA hu).or (call_sortedDI hcalm)) snd_sortedA hg hm bt_sorted' ha (by decide) (by decide) he hpl
end
end Iv

set_option maxRecDepth 100000
namespace Iv
open PySem PySem.Spec PyProof.Rows L2
/-! the end: what the top has left -/
/-- the def x stands at f -/
def DF (K : PySem.W.Frag) (x : Str) (st : Stmt) (f : Addr) : Prop := ∃ (oc : Value) (od : Option Addr) (kV doc pm : Value) (an : Option Addr) (cdv ct : Value) (osl : Array (Option Value)),
  PySem.W.nsIn K mainGlobals x = some (some (.ref f)) ∧ K.lookup f = some ⟨oc, od, .func (PySem.W.fnOf x x (defArgs st) (defBody st) (defScope st) .none kV doc pm an cdv ct), osl⟩ ∧ PySem.W.codeIn K cdv x = true ∧ PySem.W.keepIn K (.ref f) = true
/-- its code object and the table of the lambdas made in it -/
def DFC (K : PySem.W.Frag) (x : Str) (st : Stmt) (f c p : Addr) : Prop := ∃ (oc : Value) (od : Option Addr) (kV doc pm : Value) (an : Option Addr) (ct : Value) (osl : Array (Option Value)),
  PySem.W.nsIn K mainGlobals x = some (some (.ref f)) ∧ K.lookup f = some ⟨oc, od, .func (PySem.W.fnOf x x (defArgs st) (defBody st) (defScope st) .none kV doc pm an (.ref c) ct), osl⟩ ∧ PySem.W.codeIn K (.ref c) x = true ∧ PySem.W.keepIn K (.ref f) = true ∧ ((K.lookup c).bind fun o => match o.data with | .fields vs => (vs[11]? : Option Value) | _ => none) = some (.ref p) ∧ PySem.W.codeHdIn K c p = true ∧ K.lookup p = none
section
variable {K : PySem.W.Frag} {x : Str} {st : Stmt} {f c p : Addr} {h : Heap} {mg : Str → Option Value}
theorem DF.fn (F : DF K x st f) : ∃ fd, Fun K x x st f fd := let ⟨oc, od, kV, doc, pm, an, cdv, ct, osl, _, l, c, k⟩ := F; ⟨_, fun_mk (st := st) l c k⟩
theorem DF.gm (F : DF K x st f) (X : K.In h) (G : h.Ns mainGlobals mg) : mg x = some (.ref f) := let ⟨_, _, _, _, _, _, _, _, _, a, _⟩ := F; PySem.W.mg_of X G a
theorem DFC.fn (F : DFC K x st f c p) : ∃ fd, FunC K x x st f fd c := let ⟨oc, od, kV, doc, pm, an, ct, osl, _, l, cd, k, _⟩ := F; ⟨_, ⟨oc, od, kV, doc, pm, an, ct, osl, rfl, l, cd⟩, k⟩
theorem DFC.gm (F : DFC K x st f c p) (X : K.In h) (G : h.Ns mainGlobals mg) : mg x = some (.ref f) := let ⟨_, _, _, _, _, _, _, _, a, _⟩ := F; PySem.W.mg_of X G a
theorem DFC.hd (F : DFC K x st f c p) (X : K.In h) : PySem.W.CodeHd h c p := let ⟨_, _, _, _, _, _, _, _, _, _, _, _, _, e, _⟩ := F; PySem.W.codeHd_of_K X e
theorem DFC.no (F : DFC K x st f c p) : K.lookup p = none := let ⟨_, _, _, _, _, _, _, _, _, _, _, _, _, _, e⟩ := F; e
end
/-- an own error at C, below the one at C0 -/
structure ClsF (K : PySem.W.Frag) (x : Str) (bmB : List Value) (newB : String) (C0 C : Addr) : Prop where
  a : PySem.W.nsIn K mainGlobals x = some (some (.ref C))
  ex : PySem.W.excIn K C bmB newB = true
  kp : PySem.W.keepIn K (.ref C) = true
  ty : PySem.W.typeIn K (.ref C) = some (.type "type")
  is : PySem.W.isClsIn K C = true
  ga : PySem.W.findIn K (.ref C) "__getattribute__" = some (some (.builtin "BaseException.__getattribute__"))
  gt : PySem.W.findIn K (.ref C) "__getattr__" = some none
  sub : PySem.W.subIn K (.ref C) (.type "BaseException") = some true
  ca : PySem.W.findIn K (.ref C) "__class__" = some (some (.builtin "object.__class__"))
  mr : PySem.W.mroIn K C (.type "object") = some true
  up : PySem.W.subIn K (.ref C) (.ref C0) = some true
  me : PySem.W.subIn K (.ref C) (.ref C) = some true
  b0 : PySem.W.subIn K (.type "NoneType") (.ref C) = some false
  b1 : PySem.W.subIn K (.type "bool") (.ref C) = some false
  b2 : PySem.W.subIn K (.type "int") (.ref C) = some false
  b3 : PySem.W.subIn K (.type "str") (.ref C) = some false
  b4 : PySem.W.subIn K (.type "tuple") (.ref C) = some false
  b5 : PySem.W.subIn K (.type "list") (.ref C) = some false
  b6 : PySem.W.subIn K (.type "dict") (.ref C) = some false
section
variable {K : PySem.W.Frag} {x : Str} {bmB : List Value} {newB : String} {C0 C C' : Addr}
theorem ClsF.excK (F : ClsF K x bmB newB C0 C) (cn : PySem.W.specialIn K (.builtin "object.__class__") "__get__" = some (some (.builtin "getset_descriptor.__get__"))) (tk : PySem.W.takesIn K (.builtin "object.__class__") = some true) : ExcK K C :=
  ⟨F.is, F.ga, F.gt, F.sub, F.ca, cn, tk, F.mr⟩
theorem ClsF.raises (F : ClsF K x bmB newB C0 C) (X : Cx) (e : X.K = K) : Raises X (.ref C) := by subst e; exact raises_own F.sub F.ty
theorem kit_ref {t : Value} {b : Bool} (ty : PySem.W.typeIn K (.ref C) = some (.type "type")) (is : PySem.W.isClsIn K C = true) (s : PySem.W.subIn K t (.ref C) = some b) : PySem.W.kitCls K t (.ref C) = some b := by
  show (if ((PySem.W.clsIn K C).isSome && PySem.W.typeIn K (.ref C) == some (.type "type")) = true then PySem.W.subIn K t (.ref C) else none) = some b
  rw [if_pos, s]
  rw [Bool.and_eq_true]
  exact ⟨is, by rw [ty]; rfl⟩
theorem ClsF.kitT (F : ClsF K x bmB newB C0 C) {a : String} (h : known.contains a = true) : PySem.W.kitOne K (.type a) (.ref C) = some false := by
  have hs : PySem.W.subIn K (.type a) (.ref C) = some false := by
    have hm : a ∈ known := List.contains_iff_mem.mp h
    unfold known at hm
    simp only [List.mem_cons, List.not_mem_nil, or_false] at hm
    rcases hm with rfl | rfl | rfl | rfl | rfl | rfl | rfl
    · exact F.b0
    · exact F.b1
    · exact F.b2
    · exact F.b3
    · exact F.b4
    · exact F.b5
    · exact F.b6
  show (if (Value.type a == Value.ref C) = true then some true else PySem.W.kitCls K (.type a) (.ref C)) = some false
  rw [if_neg (by intro z; exact nomatch (eq_of_beq z))]
  exact kit_ref F.ty F.is hs
theorem kit_own {b : Bool} (ty : PySem.W.typeIn K (.ref C') = some (.type "type")) (is : PySem.W.isClsIn K C' = true) (s : PySem.W.subIn K (.ref C) (.ref C') = some b) (hb : C = C' → b = true) : PySem.W.kitOne K (.ref C) (.ref C') = some b := by
  show (if (Value.ref C == Value.ref C') = true then some true else PySem.W.kitCls K (.ref C) (.ref C')) = some b
  by_cases e : (Value.ref C == Value.ref C') = true
  · rw [if_pos e]
    have e' := eq_of_beq e
    cases e'
    rw [hb rfl]
  · rw [if_neg e]
    exact kit_ref ty is s
theorem ClsF.exm {C : Addr} {x0 : Str} (F0 : ClsF K x0 bmB newB C0 C0) (F : ClsF K x bmB newB C0 C) : PySem.W.exmOne K (.ref C) (.ref C0) = some true := by
  show (if (PySem.W.subIn K (.ref C0) (.type "BaseException") == some true) = true then PySem.W.kitCls K (.ref C) (.ref C0) else none) = some true
  rw [if_pos (by rw [F0.sub]; rfl)]
  exact kit_ref F0.ty F0.is F.up
end
abbrev mkTb (C0 : Addr) (cs fs : List Addr) (tbs : List (Addr × Str)) : Tb := ⟨fun c => cs.getD c C0, fun i => fs.getD i 0, tbs, fun _ _ => none⟩
/-- the own errors 1, 2, .. stand below the error 0 -/
def subN (n c d : Nat) : Bool := let c := if c < n then c else 0; let d := if d < n then d else 0; d == 0 || c == d
theorem getD_norm {cs : List Addr} {C0 : Addr} (h0 : cs.getD 0 C0 = C0) (c : Nat) : cs.getD c C0 = cs.getD (if c < cs.length then c else 0) C0 := by
  by_cases h : c < cs.length
  · rw [if_pos h]
  · rw [if_neg h, h0, List.getD_eq_getElem?_getD, List.getElem?_eq_none (Nat.le_of_not_lt h)]; rfl
section
variable {K : PySem.W.Frag} {T : Tb} {bmB : List Value} {newB : String} {C0 : Addr} {cs : List Addr}
theorem norm_lt (hn : 0 < cs.length) (c : Nat) : (if c < cs.length then c else 0) < cs.length := by
  by_cases h : c < cs.length
  · rw [if_pos h]; exact h
  · rw [if_neg h]; exact hn
theorem cls_all (h0 : cs.getD 0 C0 = C0) (hn : 0 < cs.length) (F : ∀ i, i < cs.length → ∃ x, ClsF K x bmB newB C0 (cs.getD i C0)) (c : Nat) : ∃ x, ClsF K x bmB newB C0 (cs.getD c C0) := by
  rw [getD_norm h0 c]
  exact F _ (norm_lt hn c)
theorem kw_of (h0 : cs.getD 0 C0 = C0) (hn : 0 < cs.length) (hT : T.cls = fun c => cs.getD c C0) (F : ∀ i, i < cs.length → ∃ x, ClsF K x bmB newB C0 (cs.getD i C0))
    (pr : ∀ i j, i < cs.length → j < cs.length → i ≠ j → j ≠ 0 → PySem.W.subIn K (.ref (cs.getD i C0)) (.ref (cs.getD j C0)) = some false)
    (cn : PySem.W.specialIn K (.builtin "object.__class__") "__get__" = some (some (.builtin "getset_descriptor.__get__"))) (tk : PySem.W.takesIn K (.builtin "object.__class__") = some true) : KwOk K T (subN cs.length) := by
  refine ⟨fun a c h => ?_, fun c c' => ?_, fun c => ?_⟩
  · rw [hT]
    obtain ⟨x, f⟩ := cls_all h0 hn F c
    exact f.kitT h
  · rw [hT]
    show PySem.W.kitOne K (.ref (cs.getD c C0)) (.ref (cs.getD c' C0)) = _
    rw [getD_norm h0 c, getD_norm h0 c']
    show _ = some ((if c' < cs.length then c' else 0) == 0 || (if c < cs.length then c else 0) == (if c' < cs.length then c' else 0))
    have l1 := norm_lt hn c
    have l2 := norm_lt hn c'
    generalize (if c < cs.length then c else 0) = i at l1 ⊢
    generalize (if c' < cs.length then c' else 0) = j at l2 ⊢
    obtain ⟨x, fi⟩ := F i l1
    obtain ⟨y, fj⟩ := F j l2
    by_cases e0 : j = 0
    · subst e0
      rw [h0] at fj ⊢
      exact kit_own fj.ty fj.is (by rw [fi.up]; rfl) fun _ => rfl
    · by_cases eij : i = j
      · subst eij
        have e : (i == 0 || i == i) = true := by simp
        rw [e]
        exact kit_own fj.ty fj.is fj.me fun _ => rfl
      · have e : (j == 0 || i == j) = false := by simp [e0, eij]
        rw [e]
        have p := pr i j l1 l2 eij e0
        refine kit_own fj.ty fj.is p fun z => ?_
        rw [z, fj.me] at p
        cases p
  · rw [hT]
    obtain ⟨x, f⟩ := cls_all h0 hn F c
    exact f.excK cn tk
theorem exm_all (h0 : cs.getD 0 C0 = C0) (hn : 0 < cs.length) (F : ∀ i, i < cs.length → ∃ x, ClsF K x bmB newB C0 (cs.getD i C0)) (c : Nat) : PySem.W.exmOne K (.ref (cs.getD c C0)) (.ref (cs.getD 0 C0)) = some true := by
  obtain ⟨x, f⟩ := cls_all h0 hn F c
  obtain ⟨y, f0⟩ := cls_all h0 hn F 0
  rw [h0] at f0 ⊢
  exact f0.exm f
end
/-- the law's own start -/
theorem law_start {K : PySem.W.Frag} {T : Tb} {H : Hp} {φ : Fm} {a : Addr} {ns : List Int} (ht : LamX.Tabs T.tbs H) (hS : SqL K H a (ns.map V.int)) (hlaw : ∀ d, d = .scr (ns.map .int) ∨ d = .lst (ns.map .int) → ∃ h', φ [d] [] = .ok (.bl true) h') :
    spI K T φ 1 [.ref a] H (fun v _ => v = .bl true) fun _ _ _ => False := by
  have fin : ∀ d, (d = .scr (ns.map .int) ∨ d = .lst (ns.map .int)) → RelD K T H [] d (.ref a) → spI K T φ 1 [.ref a] H (fun v _ => v = .bl true) fun _ _ _ => False := fun d hd r => by
    obtain ⟨h', e⟩ := hlaw d hd
    refine ⟨rfl, [], [d], [], ⟨rfl, List.nodup_nil, fun n ob b e => by simp at e, ht⟩, by unfold RelDs; exact ⟨_, [], rfl, r, by unfold RelDs; rfl⟩, ?_⟩
    rw [e]
    exact fun H' ρ' v _ _ q => relBl q
  rcases hS with (h | h) | h
  · exact fin (.lst (ns.map .int)) (.inr rfl) (by unfold RelD; exact ⟨a, _, rfl, h, by simp, relInts ns⟩)
  · exact fin (.scr (ns.map .int)) (.inl rfl) (by unfold RelD; exact ⟨a, _, rfl, .inl h, relInts ns⟩)
  · exact fin (.scr (ns.map .int)) (.inl rfl) (by unfold RelD; exact ⟨a, _, rfl, .inr h, relInts ns⟩)
theorem cx_false {P : Program} {w : World} {H : Hp} {s : Shared} {e : Value} {s' : Shared} (h : L2.CX P w [] H s (fun _ _ _ => False) e s') : False := let ⟨_, _, _, _, _, _, _, _, _, _, _, _, q⟩ := h; q
end Iv

set_option maxRecDepth 100000
namespace Iv
open PySem L2
/-! the draws of all laws: what they give -/
abbrev kLarge : Str := "large"
abbrev kCells : Str := "cells"
abbrev kRest : Str := "rest"
abbrev kTurn : Str := "turn"
def dKeys : List Key := [.inr kLarge, .inr kCells, .inr kRest, .inr kTurn]
/-- the heap with the draws' dict at 1, its list at 0, and what else is alive -/
def drH (L cs : List Int) (r t : Int) (tl : Hs) : Hs := .lst (L.map .int) :: .dic dKeys [.ref 0, .lst (cs.map .int), .int r, .int t] :: tl
section
variable {L cs : List Int} {r t : Int} {tl : Hs}
theorem ix_large : ixD (.ref 1) (.str kLarge) (drH L cs r t tl) = .ok (.ref 0) (drH L cs r t tl) := by rfl
theorem ix_cells : ixD (.ref 1) (.str kCells) (drH L cs r t tl) = .ok (.lst (cs.map .int)) (drH L cs r t tl) := by rfl
theorem ix_rest : ixD (.ref 1) (.str kRest) (drH L cs r t tl) = .ok (.int r) (drH L cs r t tl) := by rfl
theorem ix_turn : ixD (.ref 1) (.str kTurn) (drH L cs r t tl) = .ok (.int t) (drH L cs r t tl) := by rfl
theorem st_rest (v : Int) : storeD (.ref 1) (.str kRest) (.int v) (drH L cs r t tl) = some (drH L cs v t tl) := by rfl
theorem st_turn (v : Int) : storeD (.ref 1) (.str kTurn) (.int v) (drH L cs r t tl) = some (drH L cs r v tl) := by rfl
end
def mBlend : MS := (sCons (sPar [2, 3] (mCons (mOp false .Add (mIx (mVar 0) (mCon (.str ("turn" : Str)))) (mCon (.int 1))) (mCons (mCon (.int 0)) mNil))) (sCons (sPut (mVar 0) (mCon (.str ("turn" : Str))) (mVar 2)) (sCons (sFor (mSrc (mLst false (mCons (mCon (.int 2147483629)) (mCons (mCon (.int 2147483587)) (mCons (mCon (.int 2147483579)) mNil))))) (gNm 1) (sCons (sSet 4 (mOp false .Mod (mBi false .int (mCons (mOp false .Add (mOp false .Mult (mVar 2) (mCon (.int 69621))) (mOp false .FloorDiv (mVar 1) (mCon (.int 7)))) mNil)) (mVar 1))) (sCons (sFor (mSrc (mIx (mVar 0) (mCon (.str ("cells" : Str))))) (gNm 5) (sCons (sSet 4 (mOp false .Mod (mBi false .int (mCons (mOp false .Add (mOp false .Add (mOp false .Mult (mVar 4) (mCon (.int 48271))) (mBi false .int (mCons (mVar 5) mNil))) (mCon (.int 1))) mNil)) (mVar 1))) sNil)) (sCons (sSet 3 (mOp false .Add (mOp false .Mult (mVar 3) (mCon (.int 2147483647))) (mOp false .Mod (mBi false .int (mCons (mOp false .Pow (mVar 4) (mCon (.int 5))) mNil)) (mVar 1)))) sNil)))) (sCons (sRet (mVar 3)) sNil))))
def blendF : Fm := defR mBlend 5
theorem sCons_nx {s ss : MS} {e e' : Env} {h h' : Hs} (q : s e h = .nx e' h') : sCons s ss e h = ss e' h' := by
  unfold sCons
  rw [q]; rfl
theorem sCons_rt {s ss : MS} {e : Env} {h h' : Hs} {d : D} (q : s e h = .rt d h') : sCons s ss e h = .rt d h' := by
  unfold sCons
  rw [q]; rfl
/-- symbolic turns -/
theorem mul_small {m : Bool} {i j : Int} {h : Hs} (hj : small j = true) : mulD m (.int i) (.int j) h = .ok (.int (i * j)) h := by
  unfold mulD
  dsimp only
  rw [if_pos (by rw [hj, Bool.or_true])]
theorem mod_pos {i j : Int} {h : Hs} (hj : 0 < j) : modD (.int i) (.int j) h = .ok (.int (i % j)) h := by
  unfold modD
  dsimp only
  rw [if_pos (by rw [decide_eq_true_eq]; exact hj)]
theorem fdiv_pos {i j : Int} {h : Hs} (hj : 0 < j) (hk : j < 1073741824) : fdivD (.int i) (.int j) h = .ok (.int (i / j)) h := by
  unfold fdivD
  dsimp only
  rw [if_pos (by rw [Bool.and_eq_true, decide_eq_true_eq, decide_eq_true_eq]; exact ⟨hj, hk⟩)]
theorem pow_small {i : Int} {h : Hs} (h0 : 0 ≤ i) (h1 : i < 2 ^ 63) : powD (.int i) (.int 5) h = .ok (.int (i ^ 5)) h := by
  unfold powD
  dsimp only
  rw [if_pos (by simp only [Bool.and_eq_true, decide_eq_true_eq]; omega)]
  rfl
abbrev bCell : MS := (sCons (sSet 4 (mOp false .Mod (mBi false .int (mCons (mOp false .Add (mOp false .Add (mOp false .Mult (mVar 4) (mCon (.int 48271))) (mBi false .int (mCons (mVar 5) mNil))) (mCon (.int 1))) mNil)) (mVar 1))) sNil)
theorem cell_step {a x2 x3 : Option D} {p S c : Int} {h : Hs} (hp : 0 < p) : bCell [a, some (.int p), x2, x3, some (.int S), some (.int c)] h = .nx [a, some (.int p), x2, x3, some (.int ((S * 48271 + c + 1) % p)), some (.int c)] h := by
  have e1 := mul_small (m := false) (i := S) (j := 48271) (h := h) rfl
  have e2 := mod_pos (i := S * 48271 + c + 1) (h := h) hp
  simp [bCell, sCons, sSet, mOp, mBi, biF, b1, intB, mVar, mCon, mCons, mNil, R.bind, R.seq, RS.then_, sNil, opD, addD, e1, e2]
theorem cells_loop {a x2 x3 : Option D} {p : Int} {h : Hs} (hp : 0 < p) : ∀ (cs : List Int) (S : Int) (x5 : Option D), 0 ≤ S → S < p → ∃ S' x5', 0 ≤ S' ∧ S' < p ∧
    forL (gNm 5) bCell (cs.map .int) [a, some (.int p), x2, x3, some (.int S), x5] h = .nx [a, some (.int p), x2, x3, some (.int S'), x5'] h
  | [], S, x5, h0, h1 => ⟨S, x5, h0, h1, rfl⟩
  | c :: cs, S, x5, h0, h1 => by
    obtain ⟨S', x5', g0, g1, e⟩ := cells_loop hp cs ((S * 48271 + c + 1) % p) (some (.int c)) (Int.emod_nonneg _ (by omega)) (Int.emod_lt_of_pos _ hp)
    refine ⟨S', x5', g0, g1, ?_⟩
    have q : forL (gNm 5) bCell ((c :: cs).map .int) [a, some (.int p), x2, x3, some (.int S), x5] h = (bCell [a, some (.int p), x2, x3, some (.int S), some (.int c)] h).loop (forL (gNm 5) bCell (cs.map .int)) := rfl
    rw [q, cell_step hp]
    exact e
abbrev bPrime : MS := (sCons (sSet 4 (mOp false .Mod (mBi false .int (mCons (mOp false .Add (mOp false .Mult (mVar 2) (mCon (.int 69621))) (mOp false .FloorDiv (mVar 1) (mCon (.int 7)))) mNil)) (mVar 1))) (sCons (sFor (mSrc (mIx (mVar 0) (mCon (.str ("cells" : Str))))) (gNm 5) bCell) (sCons (sSet 3 (mOp false .Add (mOp false .Mult (mVar 3) (mCon (.int 2147483647))) (mOp false .Mod (mBi false .int (mCons (mOp false .Pow (mVar 4) (mCon (.int 5))) mNil)) (mVar 1)))) sNil)))
theorem prime_step {L cs : List Int} {r t : Int} {tl : Hs} {x4 x5 : Option D} {p T F : Int} (hp : 0 < p) (hp2 : p < 2 ^ 32) (hF : 0 ≤ F) : ∃ F' x4' x5', 0 ≤ F' ∧
    bPrime [some (.ref 1), some (.int p), some (.int T), some (.int F), x4, x5] (drH L cs r t tl) = .nx [some (.ref 1), some (.int p), some (.int T), some (.int F'), x4', x5'] (drH L cs r t tl) := by
  have e1 := mul_small (m := false) (i := T) (j := 69621) (h := drH L cs r t tl) rfl
  have e2 := mod_pos (i := T * 69621 + p / 7) (h := drH L cs r t tl) hp
  have e3 := fdiv_pos (i := p) (j := 7) (h := drH L cs r t tl) (by decide) (by decide)
  have s1 : (sSet 4 (mOp false .Mod (mBi false .int (mCons (mOp false .Add (mOp false .Mult (mVar 2) (mCon (.int 69621))) (mOp false .FloorDiv (mVar 1) (mCon (.int 7)))) mNil)) (mVar 1))) [some (.ref 1), some (.int p), some (.int T), some (.int F), x4, x5] (drH L cs r t tl) =
      .nx [some (.ref 1), some (.int p), some (.int T), some (.int F), some (.int ((T * 69621 + p / 7) % p)), x5] (drH L cs r t tl) := by
    simp [sSet, mOp, mBi, biF, b1, intB, mVar, mCon, mCons, mNil, R.bind, R.seq, opD, addD, e1, e2, e3]
  obtain ⟨S, y5, g0, g1, e⟩ := cells_loop (a := some (.ref 1)) (x2 := some (.int T)) (x3 := some (.int F)) (h := drH L cs r t tl) hp cs ((T * 69621 + p / 7) % p) x5 (Int.emod_nonneg _ (by omega)) (Int.emod_lt_of_pos _ hp)
  have s2 : (sFor (mSrc (mIx (mVar 0) (mCon (.str ("cells" : Str))))) (gNm 5) bCell) [some (.ref 1), some (.int p), some (.int T), some (.int F), some (.int ((T * 69621 + p / 7) % p)), x5] (drH L cs r t tl) =
      .nx [some (.ref 1), some (.int p), some (.int T), some (.int F), some (.int S), y5] (drH L cs r t tl) := e
  have e4 := mul_small (m := false) (i := F) (j := 2147483647) (h := drH L cs r t tl) rfl
  have e5 := pow_small (i := S) (h := drH L cs r t tl) g0 (by omega)
  have e6 := mod_pos (i := S ^ 5) (h := drH L cs r t tl) hp
  refine ⟨F * 2147483647 + S ^ 5 % p, some (.int S), y5, ?_, ?_⟩
  · have := Int.emod_nonneg (S ^ 5) (show p ≠ 0 by omega)
    have := Int.mul_nonneg hF (show (0 : Int) ≤ 2147483647 by decide)
    omega
  · show ((sSet 4 _ _ _).then_ _) = _
    rw [s1]
    show ((sFor _ _ _ _ _).then_ _) = _
    rw [s2]
    simp [sCons, sSet, mOp, mBi, biF, b1, intB, mVar, mCon, mCons, mNil, R.bind, R.seq, RS.then_, sNil, opD, addD, e4, e5, e6]
theorem defR_rt {m : MS} {k : Nat} {ds : List D} {h h' : Hs} {d : D} (e : m (ds.map some ++ List.replicate k none) h = .rt d h') : defR m k ds h = .ok d h' := by
  unfold defR
  rw [e]
theorem blend_ok {L cs : List Int} {r t : Int} {tl : Hs} : ∃ n : Int, 0 ≤ n ∧ blendF [.ref 1] (drH L cs r t tl) = .ok (.int n) (drH L cs r (t + 1) tl) := by
  obtain ⟨F1, a4, a5, h1, q1⟩ := prime_step (L := L) (cs := cs) (r := r) (t := t + 1) (tl := tl) (x4 := none) (x5 := none) (p := 2147483629) (T := t + 1) (F := 0) (by decide) (by decide) (by decide)
  obtain ⟨F2, b4, b5, h2, q2⟩ := prime_step (L := L) (cs := cs) (r := r) (t := t + 1) (tl := tl) (x4 := a4) (x5 := a5) (p := 2147483587) (T := t + 1) (F := F1) (by decide) (by decide) h1
  obtain ⟨F3, c4, c5, h3, q3⟩ := prime_step (L := L) (cs := cs) (r := r) (t := t + 1) (tl := tl) (x4 := b4) (x5 := b5) (p := 2147483579) (T := t + 1) (F := F2) (by decide) (by decide) h2
  refine ⟨F3, h3, ?_⟩
  have s1 : (sPar [2, 3] (mCons (mOp false .Add (mIx (mVar 0) (mCon (.str ("turn" : Str)))) (mCon (.int 1))) (mCons (mCon (.int 0)) mNil))) [some (.ref 1), none, none, none, none, none] (drH L cs r t tl) = .nx [some (.ref 1), none, some (.int (t + 1)), some (.int 0), none, none] (drH L cs r t tl) := rfl
  have s2 : (sPut (mVar 0) (mCon (.str ("turn" : Str))) (mVar 2)) [some (.ref 1), none, some (.int (t + 1)), some (.int 0), none, none] (drH L cs r t tl) = .nx [some (.ref 1), none, some (.int (t + 1)), some (.int 0), none, none] (drH L cs r (t + 1) tl) := rfl
  have s3 : (sFor (mSrc (mLst false (mCons (mCon (.int 2147483629)) (mCons (mCon (.int 2147483587)) (mCons (mCon (.int 2147483579)) mNil))))) (gNm 1) bPrime) [some (.ref 1), none, some (.int (t + 1)), some (.int 0), none, none] (drH L cs r (t + 1) tl) = .nx [some (.ref 1), some (.int 2147483579), some (.int (t + 1)), some (.int F3), c4, c5] (drH L cs r (t + 1) tl) := by
    show ((bPrime [some (.ref 1), some (.int 2147483629), some (.int (t + 1)), some (.int 0), none, none] (drH L cs r (t + 1) tl)).loop _) = _
    rw [q1]
    show ((bPrime [some (.ref 1), some (.int 2147483587), some (.int (t + 1)), some (.int F1), a4, a5] (drH L cs r (t + 1) tl)).loop _) = _
    rw [q2]
    show ((bPrime [some (.ref 1), some (.int 2147483579), some (.int (t + 1)), some (.int F2), b4, b5] (drH L cs r (t + 1) tl)).loop _) = _
    rw [q3]
    rfl
  have e : mBlend [some (.ref 1), none, none, none, none, none] (drH L cs r t tl) = .rt (.int F3) (drH L cs r (t + 1) tl) := by
    unfold mBlend
    rw [sCons_nx s1, sCons_nx s2, sCons_nx s3]
    rfl
  exact defR_rt e
end Iv
namespace Iv
open PySem L2
theorem toPys_ints : ∀ ns : List Int, toPys (ns.map .int) = some (ns.map .int)
  | [] => rfl
  | x :: r => by
    show (match toPy (.int x), toPys (r.map .int) with | some p, some ps => some (p :: ps) | _, _ => none) = _
    rw [toPys_ints r]; rfl
theorem lay_ints : ∀ ns : List Int, PyData.canLayAll0 (ns.map .int) = true
  | [] => rfl
  | x :: r => by
    show (PyData.canLay0 (.int x) && PyData.canLayAll0 (r.map .int)) = true
    rw [lay_ints r]; rfl
theorem dep_ints : ∀ ns : List Int, PyData.depthAll (ns.map .int) ≤ 1
  | [] => by decide
  | x :: r => by
    have := dep_ints r
    simp only [List.map_cons, PyData.depthAll, PyData.depth]
    omega
theorem shp_intsL (ns : List Int) : shp (.list (ns.map .int)) = true := by
  show (PyData.canLayAll0 (ns.map .int) && decide (PyData.depth (.list (ns.map .int)) ≤ 64)) = true
  rw [lay_ints, Bool.true_and, decide_eq_true_eq]
  have := dep_ints ns
  simp only [PyData.depth]
  omega
theorem eqv_intsL_nil (ns : List Int) : PyData.eqv (.list (ns.map .int)) (.list []) = ns.isEmpty := by
  cases ns <;> rfl
theorem look_live {h : Hs} {n : Nat} {xs : List D} (e : h[n]? = some (.lst xs)) : look h (.ref n) = .lst xs := by
  unfold look
  dsimp only
  rw [e]
theorem ne_nilL {h : Hs} {x y : D} {ns : List Int} (e : look h x = .lst (ns.map .int)) (ey : look h y = .lst []) : cmpD .NotEq x y h = some (!ns.isEmpty) := by
  suffices e2 : (eqO x y h).map (!·) = some (!ns.isEmpty) by
    show orO ((eqO x y h).map (!·)) _ = _
    rw [e2]; rfl
  unfold eqO
  rw [e, ey]
  have e1 : toPy (.lst (ns.map .int)) = some (.list (ns.map .int)) := by
    show (toPys (ns.map .int)).map PyData.list = _
    rw [toPys_ints]; rfl
  rw [e1]
  show (if (shp (.list (ns.map .int)) && shp (.list [])) = true then some (PyData.eqv (.list (ns.map .int)) (.list [])) else none).map (!·) = _
  rw [shp_intsL, if_pos (by rfl), eqv_intsL_nil]; rfl
theorem pop0_ints {x : Int} {L : List Int} (hL : L.length < 1000) : popAtF ((x :: L).map .int) [.int 0] h = some (.int x, L.map .int) := by
  unfold popAtF
  have e : ixN ((x :: L).map D.int).length 0 = some 0 := by
    simp [ixN]
  dsimp only
  rw [e]
  have hm : ((x :: L).map D.int).length ≤ most := by simp [most]; omega
  show (if ((x :: L).map D.int).length ≤ most then some (D.int x, L.map D.int) else none) = _
  rw [if_pos hm]
end Iv
namespace Iv
open PySem L2
/-- a call whose result is frozen: what is new is forgotten -/
theorem callX_ok {φ : Fm} {m : Bool} {perm : List Nat} {ms mk : Ms} {env : Env} {h h1 h2 h' j : Hs} {ds es : List D} {d : D} (e1 : ms env h = .ok ds h1) (e2 : mk env h1 = .ok es h2) (e3 : φ (pick .non perm (ds ++ es)) h2 = .ok d (h' ++ j)) (hl : h'.length = h2.length) (hc : h'.all (ltO h2.length) = true) (hd : ltD h2.length d = true) :
    mCallX φ m perm ms mk env h = .ok d h' := by
  unfold mCallX
  rw [e1]
  dsimp only [R.bind]
  rw [e2]
  dsimp only [R.bind]
  rw [e3]
  have et : (h' ++ j).take h2.length = h' := by rw [← hl]; exact List.take_left
  unfold gcR
  dsimp only
  rw [et, if_pos hc, if_pos hd]
  unfold chkR
  dsimp only
  rw [hl, hc, hd]
  rfl
theorem ltD_mono {n k : Nat} (hk : n ≤ k) : ∀ d : D, ltD n d = true → ltD k d = true := by
  intro d
  refine D.rec (motive_1 := fun d => ltD n d = true → ltD k d = true) (motive_2 := fun ds => ltDs n ds = true → ltDs k ds = true) ?_ ?_ ?_ ?_ ?_ ?_ ?_ ?_ ?_ ?_ ?_ ?_ ?_ ?_ ?_ ?_ ?_ d
  · intro h; rfl
  · intro b h; rfl
  · intro b h; rfl
  · intro b h; rfl
  · intro xs ih h; unfold ltD at h ⊢; exact ih h
  · intro xs ih h; unfold ltD at h ⊢; exact ih h
  · intro ks xs ih h; unfold ltD at h ⊢; exact ih h
  · intro ks xs ih h; unfold ltD at h ⊢; exact ih h
  · intro xs ih h; unfold ltD at h ⊢; exact ih h
  · intro j h; unfold ltD at h ⊢; rw [decide_eq_true_eq] at h ⊢; omega
  · intro b h; rfl
  · intro b h; rfl
  · intro b h; rfl
  · intro b h; rfl
  · intro b h; unfold ltD at h; cases h
  · intro h; rfl
  · intro x xs ih1 ih2 h
    unfold ltDs at h ⊢
    rw [Bool.and_eq_true] at h ⊢
    exact ⟨ih1 h.1, ih2 h.2⟩
theorem ltDs_mono {n k : Nat} (hk : n ≤ k) : ∀ ds : List D, ltDs n ds = true → ltDs k ds = true
  | [], _ => rfl
  | x :: xs, h => by
    unfold ltDs at h ⊢
    rw [Bool.and_eq_true] at h ⊢
    exact ⟨ltD_mono hk x h.1, ltDs_mono hk xs h.2⟩
theorem ltDs_ints (n : Nat) : ∀ ns : List Int, ltDs n (ns.map .int) = true
  | [] => rfl
  | x :: r => by
    show (ltD n (.int x) && ltDs n (r.map .int)) = true
    rw [ltDs_ints n r]; rfl
/-- what else is alive is closed -/
def Cl (tl : Hs) : Prop := tl.all (ltO (tl.length + 2)) = true ∧ tl.all plainO = true
theorem cl_drH {L cs : List Int} {r t : Int} {tl : Hs} (h : Cl tl) : (drH L cs r t tl).all (ltO (tl.length + 2)) = true := by
  show (ltDs _ (L.map .int) && (ltDs _ [.ref 0, .lst (cs.map .int), .int r, .int t] && tl.all (ltO (tl.length + 2)))) = true
  rw [ltDs_ints, h.1]
  show (true && ((decide (0 < tl.length + 2) && (ltDs (tl.length + 2) (cs.map .int) && (true && (true && true)))) && true)) = true
  rw [ltDs_ints, decide_eq_true (Nat.succ_pos _)]
  rfl
theorem len_drH {L cs : List Int} {r t : Int} {tl : Hs} : (drH L cs r t tl).length = tl.length + 2 := rfl
def mTake : MS := (sCons (whileM (mAnd (mCmp .Eq (mIx (mVar 0) (mCon (.str ("rest" : Str)))) (mCon (.int 0))) (mCmp .NotEq (mIx (mVar 0) (mCon (.str ("large" : Str)))) (mLst false mNil))) (sCons (sPut (mVar 0) (mCon (.str ("rest" : Str))) (mLM .popAt (mIx (mVar 0) (mCon (.str ("large" : Str)))) (mCons (mCon (.int 0)) mNil))) sNil) most) (sCons (sIf (mCmp .Eq (mIx (mVar 0) (mCon (.str ("rest" : Str)))) (mCon (.int 0))) (sCons (sPut (mVar 0) (mCon (.str ("rest" : Str))) (mCallX blendF false [0] (mCons (mVar 0) mNil) mNil)) sNil) sNil) (sCons (sSet 2 (mOp false .Mod (mBi false .int (mCons (mIx (mVar 0) (mCon (.str ("rest" : Str)))) mNil)) (mVar 1))) (sCons (sPut (mVar 0) (mCon (.str ("rest" : Str))) (mOp false .FloorDiv (mBi false .int (mCons (mIx (mVar 0) (mCon (.str ("rest" : Str)))) mNil)) (mVar 1))) (sCons (sRet (mVar 2)) sNil)))))
def takeF : Fm := defR mTake 1
abbrev cRest : M := (mCmp .Eq (mIx (mVar 0) (mCon (.str ("rest" : Str)))) (mCon (.int 0)))
abbrev cLarge : M := (mCmp .NotEq (mIx (mVar 0) (mCon (.str ("large" : Str)))) (mLst false mNil))
abbrev bPop : MS := (sCons (sPut (mVar 0) (mCon (.str ("rest" : Str))) (mLM .popAt (mIx (mVar 0) (mCon (.str ("large" : Str)))) (mCons (mCon (.int 0)) mNil))) sNil)
section
variable {L cs : List Int} {r t : Int} {tl : Hs} {x1 x2 : Option D}
theorem rest_ok : cRest [some (.ref 1), x1, x2] (drH L cs r t tl) = .ok (.bl (r == 0)) (drH L cs r t tl) := by rfl
theorem large_ok : cLarge [some (.ref 1), x1, x2] (drH L cs r t tl) = .ok (.bl (!L.isEmpty)) (drH L cs r t tl) := by
  show ans (cmpD .NotEq (.ref 0) (.lst []) (drH L cs r t tl)) (drH L cs r t tl) = _
  rw [ne_nilL (ns := L) rfl rfl]
  rfl
theorem pop_ok {x : Int} (hL : L.length < 1000) : bPop [some (.ref 1), x1, x2] (drH (x :: L) cs r t tl) = .nx [some (.ref 1), x1, x2] (drH L cs x t tl) := by
  have e : (mLM .popAt (mIx (mVar 0) (mCon (.str ("large" : Str)))) (mCons (mCon (.int 0)) mNil)) [some (.ref 1), x1, x2] (drH (x :: L) cs r t tl) = .ok (.int x) (drH L cs r t tl) := by
    show lmD .popAt (.ref 0) [.int 0] (drH (x :: L) cs r t tl) = _
    show (match popAtF ((x :: L).map .int) [.int 0] (drH (x :: L) cs r t tl) with | some (r', ys) => R.ok r' ((drH (x :: L) cs r t tl).set 0 (.lst ys)) | none => .bad) = _
    rw [pop0_ints hL]
    rfl
  refine (sCons_nx (e' := [some (.ref 1), x1, x2]) (h' := drH L cs x t tl) ?_).trans rfl
  unfold sPut
  rw [e]
  rfl
theorem whileT {c : M} {b : MS} {n : Nat} {e e' : Env} {h h1 h2 : Hs} (hc : mT c e h = .ok (.bl true) h1) (hb : b e h1 = .nx e' h2) : whileM c b (n + 1) e h = whileM c b n e' h2 := by
  show (mT c e h).seq e _ = _
  rw [hc]
  show (b e h1).loop _ = _
  rw [hb]; rfl
theorem whileF {c : M} {b : MS} {n : Nat} {e : Env} {h h1 : Hs} (hc : mT c e h = .ok (.bl false) h1) : whileM c b (n + 1) e h = .nx e h1 := by
  show (mT c e h).seq e _ = _
  rw [hc]; rfl
theorem and_ok {c d : M} {e : Env} {h : Hs} {x y : Bool} (h1 : c e h = .ok (.bl x) h) (h2 : d e h = .ok (.bl y) h) : mT (mAnd c d) e h = .ok (.bl (x && y)) h := by
  unfold mT mAnd
  rw [h1]
  cases x with
  | false => rfl
  | true =>
    dsimp only [R.bind]
    rw [h2]; rfl
theorem pops_ok : ∀ (L : List Int) (r : Int) (n : Nat), L.length < n → L.length < 1000 → ∃ L' r', L'.length ≤ L.length ∧ whileM (mAnd cRest cLarge) bPop n [some (.ref 1), x1, x2] (drH L cs r t tl) = .nx [some (.ref 1), x1, x2] (drH L' cs r' t tl)
  | L, r, 0, h, _ => absurd h (Nat.not_lt_zero _)
  | [], r, n + 1, _, _ => ⟨[], r, Nat.le_refl _, whileF (by rw [and_ok rest_ok large_ok]; cases (r == 0) <;> rfl)⟩
  | x :: L, r, n + 1, h, hk => by
    by_cases hr : (r == 0) = true
    · obtain ⟨L', r', hl, e⟩ := pops_ok L x n (by simpa using h) (by simp at hk; omega)
      refine ⟨L', r', by simp; omega, ?_⟩
      rw [whileT (h1 := drH (x :: L) cs r t tl) (by rw [and_ok rest_ok large_ok, hr]; rfl) (pop_ok (by simp at hk; omega))]
      exact e
    · refine ⟨x :: L, r, Nat.le_refl _, whileF ?_⟩
      rw [and_ok rest_ok large_ok]
      rw [Bool.not_eq_true] at hr
      rw [hr]; rfl
theorem take_ok {size : Int} (hL : L.length ≤ 63) (h0 : 0 < size) (h1 : size < 1073741824) (hc : Cl tl) : ∃ (L' : List Int) (r' t' n : Int), L'.length ≤ 63 ∧ 0 ≤ n ∧ n < size ∧
    takeF [.ref 1, .int size] (drH L cs r t tl) = .ok (.int n) (drH L' cs r' t' tl) := by
  obtain ⟨L1, r1, hl1, s1⟩ := pops_ok (x1 := some (.int size)) (x2 := none) (cs := cs) (t := t) (tl := tl) L r most (by unfold most; omega) (by omega)
  have s2 : ∃ r2 t2, (sIf cRest (sCons (sPut (mVar 0) (mCon (.str ("rest" : Str))) (mCallX blendF false [0] (mCons (mVar 0) mNil) mNil)) sNil) sNil) [some (.ref 1), some (.int size), none] (drH L1 cs r1 t tl) = .nx [some (.ref 1), some (.int size), none] (drH L1 cs r2 t2 tl) := by
    obtain ⟨n, _, eb⟩ := blend_ok (L := L1) (cs := cs) (r := r1) (t := t) (tl := tl)
    have ec : (mCallX blendF false [0] (mCons (mVar 0) mNil) mNil) [some (.ref 1), some (.int size), none] (drH L1 cs r1 t tl) = .ok (.int n) (drH L1 cs r1 (t + 1) tl) :=
      callX_ok (j := []) (ds := [.ref 1]) (es := []) rfl rfl (eb.trans (congrArg (R.ok (D.int n)) (List.append_nil _).symm)) rfl (cl_drH hc) rfl
    have et : mT cRest [some (.ref 1), some (.int size), none] (drH L1 cs r1 t tl) = .ok (.bl (r1 == 0)) (drH L1 cs r1 t tl) := by
      unfold mT
      rw [rest_ok]; rfl
    by_cases hr : (r1 == 0) = true
    · refine ⟨n, t + 1, ?_⟩
      unfold sIf
      rw [et, hr]
      show (sCons (sPut _ _ _) sNil) _ _ = _
      refine (sCons_nx (e' := [some (.ref 1), some (.int size), none]) (h' := drH L1 cs n (t + 1) tl) ?_).trans rfl
      unfold sPut
      rw [ec]
      rfl
    · refine ⟨r1, t, ?_⟩
      rw [Bool.not_eq_true] at hr
      unfold sIf
      rw [et, hr]
      rfl
  obtain ⟨r2, t2, s2⟩ := s2
  have e1 := mod_pos (i := r2) (h := drH L1 cs r2 t2 tl) h0
  have e2 := fdiv_pos (i := r2) (h := drH L1 cs r2 t2 tl) h0 h1
  have s3 : (sSet 2 (mOp false .Mod (mBi false .int (mCons (mIx (mVar 0) (mCon (.str ("rest" : Str)))) mNil)) (mVar 1))) [some (.ref 1), some (.int size), none] (drH L1 cs r2 t2 tl) = .nx [some (.ref 1), some (.int size), some (.int (r2 % size))] (drH L1 cs r2 t2 tl) := by
    show (modD (.int r2) (.int size) (drH L1 cs r2 t2 tl)).seq _ _ = _
    rw [e1]; rfl
  have s4 : (sPut (mVar 0) (mCon (.str ("rest" : Str))) (mOp false .FloorDiv (mBi false .int (mCons (mIx (mVar 0) (mCon (.str ("rest" : Str)))) mNil)) (mVar 1))) [some (.ref 1), some (.int size), some (.int (r2 % size))] (drH L1 cs r2 t2 tl) = .nx [some (.ref 1), some (.int size), some (.int (r2 % size))] (drH L1 cs (r2 / size) t2 tl) := by
    show (fdivD (.int r2) (.int size) (drH L1 cs r2 t2 tl)).seq _ _ = _
    rw [e2]; rfl
  refine ⟨L1, r2 / size, t2, r2 % size, by omega, Int.emod_nonneg _ (by omega), Int.emod_lt_of_pos _ h0, defR_rt ?_⟩
  show mTake [some (.ref 1), some (.int size), none] _ = _
  unfold mTake
  rw [sCons_nx s1, sCons_nx s2, sCons_nx s3, sCons_nx s4]
  rfl
end
end Iv

set_option maxRecDepth 100000
namespace Iv
open PySem L2
/-- the draws' state -/
structure St where
  L : List Int
  cs : List Int
  r : Int
  t : Int
def St.ok (s : St) : Prop := s.L.length ≤ 63
def St.hp (s : St) (tl : Hs) : Hs := drH s.L s.cs s.r s.t tl
theorem St.len {s : St} {tl : Hs} : (s.hp tl).length = tl.length + 2 := rfl
theorem St.cl {s : St} {tl : Hs} (h : Cl tl) : (s.hp tl).all (ltO (tl.length + 2)) = true := cl_drH h
theorem ltO_mono {n k : Nat} (hk : n ≤ k) (o : Ob) (h : ltO n o = true) : ltO k o = true := by
  cases o with
  | lst xs => exact ltDs_mono hk xs h
  | dic ks xs => exact ltDs_mono hk xs h
  | dit ks xs => exact ltDs_mono hk xs h
  | ins c ns xs => exact ltDs_mono hk xs h
theorem Cl.app {tl os : Hs} (h : Cl tl) (ho : ∀ o ∈ os, ltO (tl.length + os.length + 2) o = true) (hp : os.all plainO = true := by rfl) : Cl (tl ++ os) := by
  refine ⟨?_, by rw [List.all_append, h.2, hp]; rfl⟩
  have h := h.1
  rw [List.all_append, List.length_append, Bool.and_eq_true]
  refine ⟨List.all_eq_true.mpr fun o hm => ltO_mono (by omega) o (List.all_eq_true.mp h o hm), List.all_eq_true.mpr fun o hm => ho o hm⟩
theorem St.at_ {s : St} {tl os : Hs} {i : Nat} : (s.hp (tl ++ os))[tl.length + 2 + i]? = os[i]? := by
  show (Ob.lst _ :: Ob.dic _ _ :: (tl ++ os))[tl.length + 2 + i]? = _
  rw [show tl.length + 2 + i = (tl.length + i) + 1 + 1 by omega, List.getElem?_cons_succ, List.getElem?_cons_succ, List.getElem?_append_right (by omega)]
  congr 1
  omega
theorem St.set_ {s : St} {tl os : Hs} {i : Nat} {o : Ob} : (s.hp (tl ++ os)).set (tl.length + 2 + i) o = s.hp (tl ++ os.set i o) := by
  show (Ob.lst _ :: Ob.dic _ _ :: (tl ++ os)).set (tl.length + 2 + i) o = Ob.lst _ :: Ob.dic _ _ :: (tl ++ os.set i o)
  rw [show tl.length + 2 + i = (tl.length + i) + 1 + 1 by omega, List.set_cons_succ, List.set_cons_succ]
  have e : (tl ++ os).set (tl.length + i) o = tl ++ os.set i o := by
    rw [List.set_append_right _ _ (by omega)]
    congr 2
    omega
  rw [e]
theorem Cl.plain {s : St} {tl : Hs} (h : Cl tl) : (s.hp tl).all plainO = true := h.2
theorem St.push {s : St} {tl os : Hs} : s.hp tl ++ os = s.hp (tl ++ os) := rfl
/-- called while any draws and anything closed stand: a frozen result, the draws changed, all else as it was -/
def Con (φ : Fm) (as : List D) (Post : D → Prop) : Prop := ∀ (s : St) (tl : Hs), s.ok → Cl tl → ∃ (s' : St) (d : D), s'.ok ∧ ltD 0 d = true ∧ Post d ∧ chkR (gcR false (tl.length + 2) (φ as (s.hp tl))) = .ok d (s'.hp tl)
theorem chk_of {s : St} {tl : Hs} {d : D} (hc : Cl tl) (hd : ltD 0 d = true) : chkR (.ok d (s.hp tl)) = .ok d (s.hp tl) := by
  unfold chkR
  dsimp only
  rw [St.len, St.cl hc, ltD_mono (Nat.zero_le _) d hd]; rfl
/-- a frozen value -/
theorem gc_frozen {r : R D} {s' : St} {tl j : Hs} {d : D} (hc : Cl tl) (hd : ltD 0 d = true) (e : r = .ok d (s'.hp tl ++ j)) : chkR (gcR false (tl.length + 2) r) = .ok d (s'.hp tl) := by
  rw [e]
  have et : (s'.hp tl ++ j).take (tl.length + 2) = s'.hp tl := by rw [← St.len (s := s') (tl := tl)]; exact List.take_left
  unfold gcR
  dsimp only
  rw [et, if_pos (St.cl hc), if_pos (ltD_mono (Nat.zero_le _) d hd)]
  exact chk_of hc hd
/-- a list that was made here -/
theorem gc_list {r : R D} {s' : St} {tl j : Hs} {k : Nat} {xs : List D} (hc : Cl tl) (hk : tl.length + 2 ≤ k) (hx : (s'.hp tl ++ j)[k]? = some (.lst xs)) (hd : ltDs 0 xs = true) (e : r = .ok (.ref k) (s'.hp tl ++ j)) : chkR (gcR false (tl.length + 2) r) = .ok (.lst xs) (s'.hp tl) := by
  rw [e]
  have et : (s'.hp tl ++ j).take (tl.length + 2) = s'.hp tl := by rw [← St.len (s := s') (tl := tl)]; exact List.take_left
  have hi : ∀ ys : List D, ltDs 0 ys = true → iceL (ice (s'.hp tl ++ j) (tl.length + 2) 8) ys = some ys := by
    intro ys
    induction ys with
    | nil => intro _; rfl
    | cons y ys ih =>
      intro h
      unfold ltDs at h
      rw [Bool.and_eq_true] at h
      have e1 : ice (s'.hp tl ++ j) (tl.length + 2) 8 y = some y := by
        unfold ice
        dsimp only
        rw [if_pos (ltD_mono (Nat.zero_le _) y h.1)]
      unfold iceL
      rw [e1, ih h.2]
  unfold gcR
  dsimp only
  rw [et, if_pos (St.cl hc), if_neg (by unfold ltD; rw [decide_eq_true_eq]; omega)]
  have e2 : ice (s'.hp tl ++ j) (tl.length + 2) 9 (.ref k) = some (.lst xs) := by
    unfold ice
    dsimp only
    rw [if_neg (by unfold ltD; rw [decide_eq_true_eq]; omega), hx]
    dsimp only
    rw [hi xs hd]; rfl
  rw [if_neg (by decide), e2]
  exact chk_of hc (show ltDs 0 xs = true from hd)
/-- the call -/
theorem callX_con {φ : Fm} {perm : List Nat} {ms mk : Ms} {env : Env} {h : Hs} {s : St} {tl : Hs} {ds es : List D} {Post : D → Prop} (C : Con φ (pick .non perm (ds ++ es)) Post) (e1 : ms env h = .ok ds (s.hp tl)) (e2 : mk env (s.hp tl) = .ok es (s.hp tl)) (hs : s.ok) (hc : Cl tl) :
    ∃ (s' : St) (d : D), s'.ok ∧ ltD 0 d = true ∧ Post d ∧ mCallX φ false perm ms mk env h = .ok d (s'.hp tl) := by
  obtain ⟨s', d, h1, h2, h3, e⟩ := C s tl hs hc
  refine ⟨s', d, h1, h2, h3, ?_⟩
  unfold mCallX
  rw [e1]
  dsimp only [R.bind]
  rw [e2]
  exact e
theorem take_con {size : Int} (h0 : 0 < size) (h1 : size < 1073741824) : Con takeF [.ref 1, .int size] fun d => ∃ n : Int, d = .int n ∧ 0 ≤ n ∧ n < size := fun s tl hs hc => by
  obtain ⟨L', r', t', n, g1, g2, g3, e⟩ := take_ok (L := s.L) (cs := s.cs) (r := s.r) (t := s.t) hs h0 h1 hc
  exact ⟨⟨L', s.cs, r', t'⟩, .int n, g1, rfl, ⟨n, rfl, g2, g3⟩, gc_frozen (j := []) hc rfl (by rw [List.append_nil]; exact e)⟩
def mPick : MS := (sCons (sRet (mIx (mVar 1) (mCallX takeF false [0, 1] (mCons (mVar 0) (mCons (mBi false .len (mCons (mVar 1) mNil)) mNil)) mNil))) sNil)
def pickF : Fm := defR mPick 0
theorem atI_nat {xs : List D} {n : Int} (h0 : 0 ≤ n) (h1 : n < xs.length) : ∃ d, d ∈ xs ∧ atI xs n = some d := by
  have hl : n.toNat < xs.length := by omega
  refine ⟨xs[n.toNat], List.getElem_mem hl, ?_⟩
  unfold atI ixN
  rw [if_pos h0, if_pos h1]
  exact List.getElem?_eq_getElem hl
theorem mem_lt {xs : List D} {d : D} {n : Nat} (h : ltDs n xs = true) (hm : d ∈ xs) : ltD n d = true := by
  induction xs with
  | nil => cases hm
  | cons x xs ih =>
    unfold ltDs at h
    rw [Bool.and_eq_true] at h
    rcases List.mem_cons.mp hm with rfl | hm
    · exact h.1
    · exact ih h.2 hm
theorem pick_con {xs : List D} (h0 : 0 < xs.length) (h1 : xs.length < 1000000) (hx : ltDs 0 xs = true) : Con pickF [.ref 1, .lst xs] fun d => d ∈ xs := fun s tl hs hc => by
  obtain ⟨s', d, g1, g2, ⟨n, rfl, g3, g4⟩, e⟩ := callX_con (φ := takeF) (perm := [0, 1]) (ms := mCons (mVar 0) (mCons (mBi false .len (mCons (mVar 1) mNil)) mNil)) (mk := mNil) (env := [some (.ref 1), some (.lst xs)]) (h := s.hp tl) (ds := [.ref 1, .int xs.length]) (es := [])
    (take_con (by omega) (by omega)) rfl rfl hs hc
  obtain ⟨d, hm, ea⟩ := atI_nat g3 g4
  refine ⟨s', d, g1, mem_lt hx hm, hm, gc_frozen (j := []) hc (mem_lt hx hm) ?_⟩
  rw [List.append_nil]
  refine defR_rt (k := 0) ?_
  show (sCons (sRet _) sNil) [some (.ref 1), some (.lst xs)] _ = _
  refine sCons_rt ?_
  unfold sRet mIx
  show ((((mCallX takeF false [0, 1] (mCons (mVar 0) (mCons (mBi false .len (mCons (mVar 1) mNil)) mNil)) mNil) [some (.ref 1), some (.lst xs)] (s.hp tl)).bind fun y h2 => ixD (.lst xs) y h2).seq _ _) = _
  rw [e]
  show ((match atI xs n with | some d => R.ok d (s'.hp tl) | none => .bad).seq _ _) = _
  rw [ea]; rfl
end Iv

set_option maxRecDepth 100000
namespace Iv
open PySem L2
theorem mCons_ok {m : M} {ms : Ms} {env : Env} {h h1 h2 : Hs} {d : D} {ds : List D} (e1 : m env h = .ok d h1) (e2 : ms env h1 = .ok ds h2) : mCons m ms env h = .ok (d :: ds) h2 := by
  unfold mCons
  rw [e1]
  show (ms env h1).bind _ = _
  rw [e2]
def mShuf : MS := (sCons (sPar [2, 3] (mCons (mListA true (mCons (mVar 1) mNil)) (mCons (mLst true mNil) mNil))) (sCons (whileM (mCmp .NotEq (mVar 2) (mLst false mNil)) (sCons (sDrop (mLM .append (mVar 3) (mCons (mLM .popAt (mVar 2) (mCons (mCallX takeF false [0, 1] (mCons (mVar 0) (mCons (mBi false .len (mCons (mVar 2) mNil)) mNil)) mNil) mNil)) mNil))) sNil) most) (sCons (sRet (mVar 3)) sNil)))
def shufF : Fm := defR mShuf 2
/-- all sequences that are got by taking out one after another -/
def shufs : Nat → List Int → List (List Int)
  | 0, _ => [[]]
  | n + 1, xs => (List.range xs.length).flatMap fun i => (shufs n (xs.eraseIdx i)).map fun ys => xs.getD i 0 :: ys
abbrev bShuf : MS := (sCons (sDrop (mLM .append (mVar 3) (mCons (mLM .popAt (mVar 2) (mCons (mCallX takeF false [0, 1] (mCons (mVar 0) (mCons (mBi false .len (mCons (mVar 2) mNil)) mNil)) mNil) mNil)) mNil))) sNil)
abbrev cShuf : M := (mCmp .NotEq (mVar 2) (mLst false mNil))
abbrev eShuf (x1 : Option D) (n : Nat) : Env := [some (.ref 1), x1, some (.ref n), some (.ref (n + 1))]
abbrev shT (tl : Hs) (xs ys : List Int) : Hs := tl ++ [.lst (xs.map .int), .lst (ys.map .int)]
theorem shT_cl {tl : Hs} {xs ys : List Int} (hc : Cl tl) : Cl (shT tl xs ys) := hc.app fun o ho => by
  simp only [List.mem_cons, List.not_mem_nil, or_false] at ho
  rcases ho with rfl | rfl <;> exact ltDs_ints _ _
theorem sh_at0 {s : St} {tl : Hs} {xs ys : List Int} : (s.hp (shT tl xs ys))[tl.length + 2]? = some (.lst (xs.map .int)) := St.at_ (i := 0)
theorem sh_at1 {s : St} {tl : Hs} {xs ys : List Int} : (s.hp (shT tl xs ys))[tl.length + 2 + 1]? = some (.lst (ys.map .int)) := St.at_ (i := 1)
theorem sh_cond {s : St} {tl : Hs} {x1 : Option D} {xs ys : List Int} : mT cShuf (eShuf x1 (tl.length + 2)) (s.hp (shT tl xs ys)) = .ok (.bl (!xs.isEmpty)) (s.hp (shT tl xs ys)) := by
  have e : cShuf (eShuf x1 (tl.length + 2)) (s.hp (shT tl xs ys)) = .ok (.bl (!xs.isEmpty)) (s.hp (shT tl xs ys)) := by
    show ans (cmpD .NotEq (.ref (tl.length + 2)) (.lst []) (s.hp (shT tl xs ys))) _ = _
    rw [ne_nilL (ns := xs) (look_live sh_at0) rfl]; rfl
  unfold mT
  rw [e]; rfl
theorem map_erase (xs : List Int) (i : Nat) : (xs.map D.int).eraseIdx i = (xs.eraseIdx i).map D.int := by
  induction xs generalizing i with
  | nil => rfl
  | cons x xs ih => cases i with
    | zero => rfl
    | succ i => show D.int x :: _ = D.int x :: _; rw [ih]
theorem pop_ints {xs : List Int} {n : Int} {h : Hs} (h0 : 0 ≤ n) (h1 : n < xs.length) (hx : xs.length < 1000) : popAtF (xs.map .int) [.int n] h = some (.int (xs.getD n.toNat 0), (xs.eraseIdx n.toNat).map .int) := by
  have hl : n.toNat < xs.length := by omega
  have e1 : ixN (xs.map D.int).length n = some n.toNat := by
    unfold ixN
    rw [List.length_map, if_pos h0, if_pos h1]
  have e2 : (xs.map D.int)[n.toNat]? = some (.int (xs.getD n.toNat 0)) := by
    rw [List.getElem?_map, List.getElem?_eq_getElem hl, List.getD_eq_getElem?_getD, List.getElem?_eq_getElem hl]; rfl
  unfold popAtF
  dsimp only
  rw [e1]
  dsimp only
  rw [e2]
  dsimp only
  rw [if_pos (by rw [List.length_map]; unfold most; omega), map_erase]
abbrev tkLen2 : M := (mCallX takeF false [0, 1] (mCons (mVar 0) (mCons (mBi false .len (mCons (mVar 2) mNil)) mNil)) mNil)
theorem shuf_turn {s : St} {tl : Hs} {x1 : Option D} {xs ys : List Int} (hs : s.ok) (hc : Cl tl) (hx : 0 < xs.length) (hx2 : xs.length < 100) (hy : ys.length < 1000) : ∃ (s' : St) (i : Nat), s'.ok ∧ i < xs.length ∧
    bShuf (eShuf x1 (tl.length + 2)) (s.hp (shT tl xs ys)) = .nx (eShuf x1 (tl.length + 2)) (s'.hp (shT tl (xs.eraseIdx i) (ys ++ [xs.getD i 0]))) := by
  have e0 : (mBi false .len (mCons (mVar 2) mNil)) (eShuf x1 (tl.length + 2)) (s.hp (shT tl xs ys)) = .ok (.int xs.length) (s.hp (shT tl xs ys)) := by
    show lenB (.ref (tl.length + 2)) (s.hp (shT tl xs ys)) = _
    unfold lenB
    rw [look_live sh_at0]
    dsimp only
    rw [List.length_map]
  have e1 : (mCons (mVar 0) (mCons (mBi false .len (mCons (mVar 2) mNil)) mNil)) (eShuf x1 (tl.length + 2)) (s.hp (shT tl xs ys)) = .ok [.ref 1, .int xs.length] (s.hp (shT tl xs ys)) := mCons_ok rfl (mCons_ok e0 rfl)
  obtain ⟨s', d, g1, g2, ⟨n, rfl, g3, g4⟩, e⟩ := callX_con (φ := takeF) (perm := [0, 1]) (ms := mCons (mVar 0) (mCons (mBi false .len (mCons (mVar 2) mNil)) mNil)) (mk := mNil) (env := eShuf x1 (tl.length + 2)) (h := s.hp (shT tl xs ys)) (ds := [.ref 1, .int xs.length]) (es := [])
    (take_con (by omega) (by omega)) e1 rfl hs (shT_cl hc)
  refine ⟨s', n.toNat, g1, by omega, ?_⟩
  have p1 : (mLM .popAt (mVar 2) (mCons tkLen2 mNil)) (eShuf x1 (tl.length + 2)) (s.hp (shT tl xs ys)) = .ok (.int (xs.getD n.toNat 0)) (s'.hp (shT tl (xs.eraseIdx n.toNat) ys)) := by
    have i1 : isL (.ref (tl.length + 2)) (s.hp (shT tl xs ys)) = true := by
      unfold isL
      dsimp only
      rw [sh_at0]
    have ea : (mCons tkLen2 mNil) (eShuf x1 (tl.length + 2)) (s.hp (shT tl xs ys)) = .ok [.int n] (s'.hp (shT tl xs ys)) := mCons_ok e rfl
    show (if isL (.ref (tl.length + 2)) (s.hp (shT tl xs ys)) = true then ((mCons tkLen2 mNil) (eShuf x1 (tl.length + 2)) (s.hp (shT tl xs ys))).bind (fun ds h2 => lmD .popAt (.ref (tl.length + 2)) ds h2) else .bad) = _
    rw [if_pos i1, ea]
    show lmD .popAt (.ref (tl.length + 2)) [.int n] (s'.hp (shT tl xs ys)) = _
    unfold lmD
    dsimp only
    rw [sh_at0]
    show (match popAtF (xs.map .int) [.int n] (s'.hp (shT tl xs ys)) with | some (r', zs) => R.ok r' ((s'.hp (shT tl xs ys)).set (tl.length + 2) (.lst zs)) | none => .bad) = _
    rw [pop_ints g3 g4 (by omega)]
    exact congrArg (R.ok _) (St.set_ (i := 0))
  have i2 : isL (.ref (tl.length + 2 + 1)) (s.hp (shT tl xs ys)) = true := by
    unfold isL
    dsimp only
    rw [sh_at1]
  refine (sCons_nx (e' := eShuf x1 (tl.length + 2)) (h' := s'.hp (shT tl (xs.eraseIdx n.toNat) (ys ++ [xs.getD n.toNat 0]))) ?_).trans rfl
  unfold sDrop
  have p2 : (mLM .append (mVar 3) (mCons (mLM .popAt (mVar 2) (mCons tkLen2 mNil)) mNil)) (eShuf x1 (tl.length + 2)) (s.hp (shT tl xs ys)) = .ok .non (s'.hp (shT tl (xs.eraseIdx n.toNat) (ys ++ [xs.getD n.toNat 0]))) := by
    have ea : (mCons (mLM .popAt (mVar 2) (mCons tkLen2 mNil)) mNil) (eShuf x1 (tl.length + 2)) (s.hp (shT tl xs ys)) = .ok [.int (xs.getD n.toNat 0)] (s'.hp (shT tl (xs.eraseIdx n.toNat) ys)) := mCons_ok p1 rfl
    show (if isL (.ref (tl.length + 2 + 1)) (s.hp (shT tl xs ys)) = true then ((mCons (mLM .popAt (mVar 2) (mCons tkLen2 mNil)) mNil) (eShuf x1 (tl.length + 2)) (s.hp (shT tl xs ys))).bind (fun ds h2 => lmD .append (.ref (tl.length + 2 + 1)) ds h2) else .bad) = _
    rw [if_pos i2, ea]
    show lmD .append (.ref (tl.length + 2 + 1)) [.int (xs.getD n.toNat 0)] (s'.hp (shT tl (xs.eraseIdx n.toNat) ys)) = _
    unfold lmD
    dsimp only
    rw [sh_at1]
    show (match (if (ys.map D.int).length < most then some (D.non, ys.map D.int ++ [D.int (xs.getD n.toNat 0)]) else none) with | some (r', zs) => R.ok r' ((s'.hp (shT tl (xs.eraseIdx n.toNat) ys)).set (tl.length + 2 + 1) (.lst zs)) | none => .bad) = _
    rw [if_pos (by rw [List.length_map]; unfold most; omega)]
    dsimp only
    rw [St.set_]
    show R.ok D.non (s'.hp (tl ++ [.lst ((xs.eraseIdx n.toNat).map .int), .lst (ys.map D.int ++ [D.int (xs.getD n.toNat 0)])])) = R.ok D.non (s'.hp (tl ++ [.lst ((xs.eraseIdx n.toNat).map .int), .lst ((ys ++ [xs.getD n.toNat 0]).map .int)]))
    rw [List.map_append]; rfl
  rw [p2]; rfl
theorem shuf_loop {tl : Hs} {x1 : Option D} (hc : Cl tl) : ∀ (k : Nat) (s : St) (xs ys : List Int) (n : Nat), xs.length = k → k < n → k < 100 → k + ys.length < 1000 → s.ok → ∃ (s' : St) (zs : List Int), s'.ok ∧ zs ∈ shufs k xs ∧
    whileM cShuf bShuf n (eShuf x1 (tl.length + 2)) (s.hp (shT tl xs ys)) = .nx (eShuf x1 (tl.length + 2)) (s'.hp (shT tl [] (ys ++ zs)))
  | 0, s, xs, ys, 0, _, hn, _, _, _ => absurd hn (Nat.not_lt_zero _)
  | 0, s, xs, ys, n + 1, hk, hn, _, _, hs => by
    have : xs = [] := List.eq_nil_of_length_eq_zero hk
    subst this
    refine ⟨s, [], hs, by simp [shufs], ?_⟩
    rw [List.append_nil]
    exact whileF sh_cond
  | k + 1, s, xs, ys, 0, _, hn, _, _, _ => absurd hn (Nat.not_lt_zero _)
  | k + 1, s, xs, ys, n + 1, hk, hn, h1, h2, hs => by
    obtain ⟨s1, i, g1, gi, e⟩ := shuf_turn (x1 := x1) (xs := xs) (ys := ys) hs hc (by omega) (by omega) (by omega)
    have hl : (xs.eraseIdx i).length = k := by rw [List.length_eraseIdx, if_pos gi]; omega
    obtain ⟨s2, zs, g2, gz, e2⟩ := shuf_loop hc k s1 (xs.eraseIdx i) (ys ++ [xs.getD i 0]) n hl (by omega) (by omega) (by rw [List.length_append, List.length_singleton]; omega) g1
    refine ⟨s2, xs.getD i 0 :: zs, g2, ?_, ?_⟩
    · unfold shufs
      rw [List.mem_flatMap]
      exact ⟨i, List.mem_range.mpr gi, List.mem_map.mpr ⟨zs, gz, rfl⟩⟩
    · have hb : (!xs.isEmpty) = true := by cases xs <;> simp at hk ⊢
      rw [whileT (h1 := s.hp (shT tl xs ys)) (by rw [sh_cond, hb]) e, e2, List.append_assoc]
      rfl
theorem shuf_con {xs : List Int} (hx : xs.length < 100) : Con shufF [.ref 1, .lst (xs.map .int)] fun d => ∃ ys, d = .lst (ys.map .int) ∧ ys ∈ shufs xs.length xs := fun s tl hs hc => by
  obtain ⟨s', zs, g1, gz, e⟩ := shuf_loop (x1 := some (.lst (xs.map .int))) hc xs.length s xs [] most rfl (by unfold most; omega) hx (by simp; omega) hs
  refine ⟨s', .lst (zs.map .int), g1, ltDs_ints _ _, ⟨zs, rfl, gz⟩, gc_list (k := tl.length + 2 + 1) (j := [.lst [], .lst (zs.map .int)]) hc (by omega) (sh_at1 (xs := [])) (ltDs_ints _ _) ?_⟩
  have s1 : (sPar [2, 3] (mCons (mListA true (mCons (mVar 1) mNil)) (mCons (mLst true mNil) mNil))) [some (.ref 1), some (.lst (xs.map .int)), none, none] (s.hp tl) = .nx (eShuf (some (.lst (xs.map .int))) (tl.length + 2)) (s.hp (shT tl xs [])) := by
    have hm : (xs.map D.int).length ≤ most := by rw [List.length_map]; unfold most; omega
    have e1 : (mListA true (mCons (mVar 1) mNil)) [some (.ref 1), some (.lst (xs.map .int)), none, none] (s.hp tl) = .ok (.ref (tl.length + 2)) (s.hp (tl ++ [.lst (xs.map .int)])) := by
      show mkL true (xs.map .int) (s.hp tl) = _
      unfold mkL
      rw [if_pos hm]; rfl
    have e2 : (mCons (mListA true (mCons (mVar 1) mNil)) (mCons (mLst true mNil) mNil)) [some (.ref 1), some (.lst (xs.map .int)), none, none] (s.hp tl) = .ok [.ref (tl.length + 2), .ref ((tl ++ [Ob.lst (xs.map .int)]).length + 2)] (s.hp (tl ++ [.lst (xs.map .int)] ++ [.lst []])) := mCons_ok e1 rfl
    unfold sPar
    rw [e2]
    show RS.nx [some (.ref 1), some (.lst (xs.map .int)), some (.ref (tl.length + 2)), some (.ref ((tl ++ [Ob.lst (xs.map .int)]).length + 2))] (s.hp (tl ++ [.lst (xs.map .int)] ++ [.lst []])) = _
    rw [List.append_assoc, List.length_append]; rfl
  refine defR_rt (d := .ref (tl.length + 2 + 1)) (k := 2) ?_
  show mShuf [some (.ref 1), some (.lst (xs.map .int)), none, none] _ = _
  unfold mShuf
  rw [sCons_nx s1, sCons_nx e]
  rfl
end Iv

set_option maxRecDepth 100000
namespace Iv
open PySem L2
/-- what is frozen is handed on as it is -/
theorem gc_same {m : Bool} {h : Hs} {d : D} (hd : ltD h.length d = true) : gcR m h.length (.ok d h) = .ok d h := by
  unfold gcR
  dsimp only
  rw [List.take_length]
  split
  · first
    | rfl
    | rw [if_pos hd]
  · rfl
theorem gc_int {m : Bool} {h : Hs} {i : Int} : gcR m h.length (.ok (.int i) h) = .ok (.int i) h := gc_same rfl
theorem gc_bl {m : Bool} {h : Hs} {b : Bool} : gcR m h.length (.ok (.bl b) h) = .ok (.bl b) h := gc_same rfl
theorem ice_frozen {h : Hs} {n f : Nat} {d : D} (hd : ltD 0 d = true) : ice h n f d = some d := by
  cases f with
  | zero => unfold ice; rw [if_pos (ltD_mono (Nat.zero_le _) d hd)]
  | succ f => unfold ice; rw [if_pos (ltD_mono (Nat.zero_le _) d hd)]
theorem iceL_frozen {h : Hs} {n f : Nat} : ∀ {ys : List D}, ltDs 0 ys = true → iceL (ice h n f) ys = some ys := by
  intro ys
  induction ys with
  | nil => intro _; rfl
  | cons y ys ih =>
    intro h
    unfold ltDs at h
    rw [Bool.and_eq_true] at h
    unfold iceL
    rw [ice_frozen h.1, ih h.2]
theorem gc_live {n : Nat} {h : Hs} : gcR true n (.ok (.ref n) h) = .ok (.ref n) h := by
  unfold gcR
  dsimp only
  rw [if_neg (show ¬ (ltD n (.ref n) = true) by unfold ltD; rw [decide_eq_true_eq]; omega), if_pos rfl]
  split <;> rfl
/-- a new list, a new dict, frozen -/
theorem gc_lst {h : Hs} {xs : List D} (hc : h.all (ltO h.length) = true) (hd : ltDs 0 xs = true) : gcR false h.length (.ok (.ref h.length) (h ++ [.lst xs])) = .ok (.lst xs) h := by
  unfold gcR
  dsimp only
  rw [List.take_left, if_pos hc, if_neg (by unfold ltD; rw [decide_eq_true_eq]; omega), if_neg (by decide)]
  have e2 : ice (h ++ [.lst xs]) h.length 9 (.ref h.length) = some (.lst xs) := by
    unfold ice
    dsimp only
    rw [if_neg (by unfold ltD; rw [decide_eq_true_eq]; omega), List.getElem?_append_right (Nat.le_refl _), Nat.sub_self]
    show (iceL _ xs).map _ = _
    rw [iceL_frozen hd]; rfl
  rw [e2]
theorem gc_dct {h : Hs} {ks : List Key} {xs : List D} (hc : h.all (ltO h.length) = true) (hd : ltDs 0 xs = true) : gcR false h.length (.ok (.ref h.length) (h ++ [.dic ks xs])) = .ok (.dct ks xs) h := by
  unfold gcR
  dsimp only
  rw [List.take_left, if_pos hc, if_neg (by unfold ltD; rw [decide_eq_true_eq]; omega), if_neg (by decide)]
  have e2 : ice (h ++ [.dic ks xs]) h.length 9 (.ref h.length) = some (.dct ks xs) := by
    unfold ice
    dsimp only
    rw [if_neg (by unfold ltD; rw [decide_eq_true_eq]; omega), List.getElem?_append_right (Nat.le_refl _), Nat.sub_self]
    show (iceL _ xs).map _ = _
    rw [iceL_frozen hd]; rfl
  rw [e2]
theorem push_ok {h : Hs} {acc : List D} {y : D} (hl : acc.length < most) : push h.length (some y) (h ++ [.lst acc]) = some (h ++ [.lst (acc ++ [y])]) := by
  unfold push
  dsimp only
  rw [List.getElem?_append_right (Nat.le_refl _), Nat.sub_self]
  dsimp only [List.getElem?_cons_zero]
  rw [if_pos hl, List.set_append_right _ _ (Nat.le_refl _), Nat.sub_self]; rfl
/-- a comprehension whose turns change nothing -/
theorem comp_run {mt : MTg} {mc me : M} {env : Env} {h : Hs} {g : D → Option D} : ∀ (xs acc : List D), (∀ x ∈ xs, ∀ acc, step mt mc me env x (h ++ [.lst acc]) = .ok (g x) (h ++ [.lst acc])) → acc.length + xs.length < most →
    compL (turnL h.length (step mt mc me env)) xs (h ++ [.lst acc]) = some (h ++ [.lst (acc ++ xs.filterMap g)])
  | [], acc, _, _ => by rw [List.filterMap_nil, List.append_nil]; rfl
  | x :: xs, acc, hx, hl => by
    have hx1 := hx x List.mem_cons_self acc
    rw [List.length_cons] at hl
    unfold compL turnL
    rw [hx1]
    cases eg : g x with
    | none =>
      show (push h.length none (h ++ [.lst acc])).bind _ = _
      show compL (turnL h.length (step mt mc me env)) xs (h ++ [.lst acc]) = _
      rw [comp_run xs acc (fun y hy => hx y (List.mem_cons_of_mem _ hy)) (by omega), List.filterMap_cons_none eg]
    | some y =>
      show (push h.length (some y) (h ++ [.lst acc])).bind _ = _
      rw [push_ok (by omega)]
      show compL (turnL h.length (step mt mc me env)) xs (h ++ [.lst (acc ++ [y])]) = _
      rw [comp_run xs (acc ++ [y]) (fun z hz => hx z (List.mem_cons_of_mem _ hz)) (by rw [List.length_append, List.length_singleton]; omega), List.filterMap_cons_some eg, List.append_assoc]
      rfl
theorem comp_ok {m : Bool} {mi : MI} {mt : MTg} {mc me : M} {own : List Nat} {env : Env} {h h1 : Hs} {xs : List D} (g : D → Option D) (hs : mi env h = .ok (.fix xs) h1) (hx : ∀ x ∈ xs, ∀ acc, step mt mc me (wipeE env own) x (h1 ++ [.lst acc]) = .ok (g x) (h1 ++ [.lst acc])) (hl : xs.length < most) :
    mComp m mi mt mc me own env h = gcR m h1.length (.ok (.ref h1.length) (h1 ++ [.lst (xs.filterMap g)])) := by
  unfold mComp
  rw [hs]
  show fin m h1.length (compL (turnL h1.length (step mt mc me (wipeE env own))) xs (h1 ++ [.lst []])) = _
  rw [comp_run xs [] hx (by simp; exact hl)]
  rfl
theorem step_t {mt : MTg} {mc me : M} {env e : Env} {x y : D} {h : Hs} (ht : mt x env = some e) (hc : mc e h = .ok (.bl true) h) (he : me e h = .ok y h) (hy : ltD h.length y = true) : step mt mc me env x h = .ok (some y) h := by
  unfold step
  rw [ht]
  dsimp only
  rw [hc, gc_bl]
  dsimp only
  rw [he, gc_same hy]
theorem step_f {mt : MTg} {mc me : M} {env e : Env} {x : D} {h : Hs} (ht : mt x env = some e) (hc : mc e h = .ok (.bl false) h) : step mt mc me env x h = .ok none h := by
  unfold step
  rw [ht]
  dsimp only
  rw [hc, gc_bl]
def mBegun : MS := (sCons (sSet 1 (mComp true (mSrc (mVar 0)) (gNm 2) (mT (mCmp .GtE (mBi false .abs (mCons (mVar 2) mNil)) (mOp false .Pow (mCon (.int 10)) (mCon (.int 18))))) (mOp false .Sub (mBi false .abs (mCons (mVar 2) mNil)) (mOp false .Pow (mCon (.int 10)) (mCon (.int 18)))) [2])) (sCons (sRet (mDict true (((mCon (.str ("large" : Str))), (mVar 1)) :: (((mCon (.str ("cells" : Str))), (mComp false (mSrc (mVar 0)) (gNm 2) mYesT (mBi false .abs (mCons (mVar 2) mNil)) [2])) :: (((mCon (.str ("rest" : Str))), (mCon (.int 0))) :: (((mCon (.str ("turn" : Str))), (mCon (.int 0))) :: [])))))) sNil))
def begunF : Fm := defR mBegun 2
abbrev tBig : M := (mT (mCmp .GtE (mBi false .abs (mCons (mVar 2) mNil)) (mOp false .Pow (mCon (.int 10)) (mCon (.int 18)))))
abbrev eBig : M := (mOp false .Sub (mBi false .abs (mCons (mVar 2) mNil)) (mOp false .Pow (mCon (.int 10)) (mCon (.int 18))))
theorem absA {a : Int} {x0 x1 : Option D} {h : Hs} : (mBi false .abs (mCons (mVar 2) mNil)) [x0, x1, some (.int a)] h = .ok (.int (if a < 0 then -a else a)) h := rfl
theorem pow18 {e : Env} {h : Hs} : (mOp false .Pow (mCon (.int 10)) (mCon (.int 18))) e h = .ok (.int (10 ^ 18)) h := rfl
def gBig (x : D) : Option D := match x with
  | .int a => let b := if a < 0 then -a else a; if 10 ^ 18 ≤ b then some (.int (b - 10 ^ 18)) else none
  | _ => none
def gAbs (x : D) : Option D := match x with
  | .int a => some (.int (if a < 0 then -a else a))
  | _ => none
theorem big_step {env : Env} {x0 x1 x2 : Option D} {a : Int} {h : Hs} : step (gNm 2) tBig eBig [x0, x1, x2] (.int a) h = .ok (gBig (.int a)) h := by
  have hb : tBig [x0, x1, some (.int a)] h = .ok (.bl (decide (10 ^ 18 ≤ (if a < 0 then -a else a)))) h := rfl
  by_cases hq : (10 : Int) ^ 18 ≤ (if a < 0 then -a else a)
  · have e : gBig (.int a) = some (.int ((if a < 0 then -a else a) - 10 ^ 18)) := by
      unfold gBig
      dsimp only
      rw [if_pos hq]
    rw [e]
    exact step_t (e := [x0, x1, some (.int a)]) rfl (by rw [hb, decide_eq_true hq]) rfl rfl
  · have e : gBig (.int a) = none := by
      unfold gBig
      dsimp only
      rw [if_neg hq]
    rw [e]
    exact step_f (e := [x0, x1, some (.int a)]) rfl (by rw [hb, decide_eq_false hq])
theorem big_list (ns : List Int) : ∃ L : List Int, (ns.map D.int).filterMap gBig = L.map .int ∧ L.length ≤ ns.length := by
  induction ns with
  | nil => exact ⟨[], rfl, Nat.le_refl _⟩
  | cons a ns ih =>
    obtain ⟨L, e, hl⟩ := ih
    rw [List.map_cons]
    by_cases hq : (10 : Int) ^ 18 ≤ (if a < 0 then -a else a)
    · refine ⟨((if a < 0 then -a else a) - 10 ^ 18) :: L, ?_, by simp; omega⟩
      rw [List.filterMap_cons_some (b := .int ((if a < 0 then -a else a) - 10 ^ 18)) (by unfold gBig; dsimp only; rw [if_pos hq]), e]; rfl
    · refine ⟨L, ?_, by simp; omega⟩
      rw [List.filterMap_cons_none (by unfold gBig; dsimp only; rw [if_neg hq]), e]
theorem abs_list (ns : List Int) : (ns.map D.int).filterMap gAbs = (ns.map fun a : Int => if a < 0 then -a else a).map .int := by
  induction ns with
  | nil => rfl
  | cons a ns ih =>
    rw [List.map_cons, List.filterMap_cons_some (f := gAbs) (b := D.int (if a < 0 then -a else a)) rfl, ih]; rfl
theorem begun_ok {ns : List Int} {d : D} (hl : ns.length ≤ 63) (hd : d = .scr (ns.map .int) ∨ d = .lst (ns.map .int)) : ∃ s : St, s.ok ∧ begunF [d] [] = .ok (.ref 1) (s.hp []) := by
  have hsrc : ∀ (x1 x2 : Option D) (h : Hs), (mSrc (mVar 0)) [some d, x1, x2] h = .ok (.fix (ns.map .int)) h := by
    intro x1 x2 h
    rcases hd with rfl | rfl <;> rfl
  obtain ⟨L, eL, hL⟩ := big_list ns
  have hm : (ns.map D.int).length < most := by rw [List.length_map]; unfold most; omega
  have e1 : (mComp true (mSrc (mVar 0)) (gNm 2) tBig eBig [2]) [some d, none, none] [] = .ok (.ref 0) [.lst (L.map .int)] := by
    rw [comp_ok gBig (hsrc none none []) (fun x hx acc => by
      obtain ⟨a, _, rfl⟩ := List.mem_map.mp hx
      exact big_step (env := [])) hm, eL]
    rfl
  have e2 : (mComp false (mSrc (mVar 0)) (gNm 2) mYesT (mBi false .abs (mCons (mVar 2) mNil)) [2]) [some d, some (.ref 0), none] [.lst (L.map .int), .dic [] []] = .ok (.lst ((ns.map fun a : Int => if a < 0 then -a else a).map .int)) [.lst (L.map .int), .dic [] []] := by
    rw [comp_ok gAbs (hsrc _ _ _) (fun x hx acc => by
      obtain ⟨a, _, rfl⟩ := List.mem_map.mp hx
      exact step_t (e := [some d, some (.ref 0), some (.int a)]) rfl rfl rfl rfl) hm, abs_list]
    exact gc_lst (by show (ltDs 2 (L.map .int) && (true && true)) = true; rw [ltDs_ints]; rfl) (ltDs_ints _ _)
  refine ⟨⟨L, ns.map fun a : Int => if a < 0 then -a else a, 0, 0⟩, by show L.length ≤ 63; omega, ?_⟩
  refine defR_rt (k := 2) ?_
  show mBegun [some d, none, none] [] = _
  unfold mBegun
  rw [sCons_nx (e' := [some d, some (.ref 0), none]) (h' := [.lst (L.map .int)]) (by unfold sSet; rw [e1]; rfl)]
  refine sCons_rt ?_
  unfold sRet mDict
  have e3 : mPairs (((mCon (.str ("large" : Str))), (mVar 1)) :: (((mCon (.str ("cells" : Str))), (mComp false (mSrc (mVar 0)) (gNm 2) mYesT (mBi false .abs (mCons (mVar 2) mNil)) [2])) :: (((mCon (.str ("rest" : Str))), (mCon (.int 0))) :: (((mCon (.str ("turn" : Str))), (mCon (.int 0))) :: [])))) [some d, some (.ref 0), none] ([.lst (L.map .int)] ++ [.dic [] []]) =
      .ok [(.str kLarge, .ref 0), (.str kCells, .lst ((ns.map fun a : Int => if a < 0 then -a else a).map .int)), (.str kRest, .int 0), (.str kTurn, .int 0)] [.lst (L.map .int), .dic [] []] := by
    show ((((mComp false (mSrc (mVar 0)) (gNm 2) mYesT (mBi false .abs (mCons (mVar 2) mNil)) [2]) [some d, some (.ref 0), none] [.lst (L.map .int), .dic [] []]).bind _).bind _) = _
    rw [e2]; rfl
  rw [e3]
  show (gcR true 1 (.ok (.ref 1) [Ob.lst (L.map .int), .dic dKeys [.ref 0, .lst ((ns.map fun a : Int => if a < 0 then -a else a).map .int), .int 0, .int 0]])).seq _ _ = _
  rw [gc_live]
  rfl
end Iv

set_option maxRecDepth 100000
namespace Iv
open PySem L2
/-! how the programs of defs run: words for their steps -/
section
variable {env e' : Env} {h h1 h2 : Hs} {d : D} {m a b c : M} {s ss : MS}
theorem sRet_ok (q : m env h = .ok d h1) : sRet m env h = .rt d h1 := by unfold sRet; rw [q]; rfl
theorem sSet_ok {i : Nat} (q : m env h = .ok d h1) : sSet i m env h = .nx (env.set i (some d)) h1 := by unfold sSet; rw [q]; rfl
theorem sSet_to {i : Nat} (q : m env h = .ok d h1) (he : env.set i (some d) = e') : sSet i m env h = .nx e' h1 := by rw [sSet_ok q, he]
theorem sDrop_ok (q : m env h = .ok d h1) : sDrop m env h = .nx env h1 := by unfold sDrop; rw [q]; rfl
theorem defR_ret {ds : List D} {k : Nat} (q : m (ds.map some ++ List.replicate k none) h = .ok d h1) : defR (sCons (sRet m) sNil) k ds h = .ok d h1 := defR_rt (sCons_rt (sRet_ok q))
theorem mAnd_t (q : a env h = .ok (.bl true) h1) : mAnd a b env h = b env h1 := by unfold mAnd; rw [q]
theorem mAnd_f (q : a env h = .ok (.bl false) h1) : mAnd a b env h = .ok (.bl false) h1 := by unfold mAnd; rw [q]
theorem mOr_t (q : a env h = .ok (.bl true) h1) : mOr a b env h = .ok (.bl true) h1 := by unfold mOr; rw [q]
theorem mOr_f (q : a env h = .ok (.bl false) h1) : mOr a b env h = b env h1 := by unfold mOr; rw [q]
theorem mTbl {x : Bool} (q : a env h = .ok (.bl x) h1) : mT a env h = .ok (.bl x) h1 := by unfold mT; rw [q]; rfl
theorem mNotb {x : Bool} (q : a env h = .ok (.bl x) h1) : mNot a env h = .ok (.bl (!x)) h1 := by unfold mNot; rw [mTbl q]
theorem sIf_t {x y : MS} (q : a env h = .ok (.bl true) h1) : sIf a x y env h = x env h1 := by unfold sIf; rw [mTbl q]; rfl
theorem sIf_f {x y : MS} (q : a env h = .ok (.bl false) h1) : sIf a x y env h = y env h1 := by unfold sIf; rw [mTbl q]; rfl
theorem sIf_nx {x : MS} (q : a env h = .ok (.bl false) h1) : sIf a x sNil env h = .nx env h1 := by unfold sIf; rw [mTbl q]; rfl
theorem sIf_rt {x y : MS} {j : Hs} (q : a env h = .ok (.bl true) h1) (p : x env h1 = .rt d j) : sIf a x y env h = .rt d j := by unfold sIf; rw [mTbl q]; exact p
theorem mIfe_t (q : a env h = .ok (.bl true) h1) : mIfe a b c env h = b env h1 := by unfold mIfe; rw [mTbl q]; rfl
theorem mIfe_f (q : a env h = .ok (.bl false) h1) : mIfe a b c env h = c env h1 := by unfold mIfe; rw [mTbl q]; rfl
theorem chain_le {x y z : Int} (q1 : a env h = .ok (.int x) h) (q2 : b env h = .ok (.int y) h) (q3 : c env h = .ok (.int z) h) : mChain .LtE .LtE a b c env h = .ok (.bl (decide (x ≤ y) && decide (y ≤ z))) h := by
  unfold mChain
  rw [q1]
  dsimp only [R.bind]
  rw [q2]
  dsimp only [R.bind]
  have e : cmpD .LtE (.int x) (.int y) h = some (decide (x ≤ y)) := rfl
  rw [e]
  cases hd : decide (x ≤ y) with
  | true =>
    dsimp only
    rw [q3]
    rfl
  | false => rfl
theorem mCmp_ok {o : CmpOp} {x y : D} {v : Bool} (q1 : a env h = .ok x h1) (q2 : b env h1 = .ok y h2) (q3 : cmpD o x y h2 = some v) : mCmp o a b env h = .ok (.bl v) h2 := by
  unfold mCmp
  rw [q1]
  dsimp only [R.bind]
  rw [q2]
  dsimp only [R.bind]
  rw [q3]; rfl
theorem mOp_ok {o : Operator} {k : Bool} {x y : D} {r : R D} (q1 : a env h = .ok x h1) (q2 : b env h1 = .ok y h2) (q3 : opD k o x y h2 = r) : mOp k o a b env h = r := by
  unfold mOp
  rw [q1]
  dsimp only [R.bind]
  rw [q2]
  exact q3
theorem mBi_ok {f : Bi} {k : Bool} {ms : Ms} {ds : List D} {r : R D} (q1 : ms env h = .ok ds h1) (q2 : biF k f ds h1 = r) : mBi k f ms env h = r := by
  unfold mBi
  rw [q1]
  exact q2
theorem mLst_ok {ms : Ms} {ds : List D} (q : ms env h = .ok ds h1) (hl : ds.length ≤ most) : mLst false ms env h = .ok (.lst ds) h1 := by
  unfold mLst
  rw [q]
  show mkL false ds h1 = _
  unfold mkL
  rw [if_pos hl]; rfl
theorem mTup_ok {ms : Ms} {ds : List D} (q : ms env h = .ok ds h1) (hl : ds.length ≤ most) : mTup ms env h = .ok (.tup ds) h1 := by
  unfold mTup
  rw [q]
  show mkT ds h1 = _
  unfold mkT
  rw [if_pos hl]
theorem pure_ok {r : R D} {d : D} {h j : Hs} (e : r = .ok d j) (hd : ltD 0 d = true) : pureR r h = .ok d h := by
  subst e
  unfold pureR gcR
  dsimp only
  rw [List.take_zero]
  show (match (if true = true then (if ltD 0 d = true then R.ok d [] else if false = true then .ok d j else match ice j 0 9 d with | some d' => .ok d' [] | none => .ok d j) else .ok d j) with | .ok d _ => if ltD 0 d = true then R.ok d h else .bad | .ex c _ => .ex c h | .bad => .bad) = _
  rw [if_pos rfl, if_pos hd]
  dsimp only
  rw [if_pos hd]
theorem pure_ex {r : R D} {c : Nat} {h j : Hs} (e : r = .ex c j) : pureR r h = .ex c h := by
  subst e
  unfold pureR gcR
  rfl
theorem callP_r {φ : Fm} {perm : List Nat} {ms mk : Ms} {ds es : List D} (q1 : ms env h = .ok ds h1) (q2 : mk env h1 = .ok es h2) (q3 : ltDs 0 (pick .non perm (ds ++ es)) = true) (q4 : h2.all plainO = true) :
    mCallP φ perm ms mk env h = pureR (φ (pick .non perm (ds ++ es)) []) h2 := by
  unfold mCallP
  rw [q1]
  dsimp only [R.bind]
  rw [q2]
  dsimp only [R.bind]
  rw [if_pos (by rw [q3, q4]; rfl)]
theorem callP_ok {φ : Fm} {perm : List Nat} {ms mk : Ms} {ds es : List D} {j : Hs} (q1 : ms env h = .ok ds h1) (q2 : mk env h1 = .ok es h2) (q3 : ltDs 0 (pick .non perm (ds ++ es)) = true) (q4 : h2.all plainO = true) (q5 : φ (pick .non perm (ds ++ es)) [] = .ok d j) (q6 : ltD 0 d = true) :
    mCallP φ perm ms mk env h = .ok d h2 := by rw [callP_r q1 q2 q3 q4, pure_ok q5 q6]
end
theorem plain_hp {s : St} {tl : Hs} (h : tl.all plainO = true) : (s.hp tl).all plainO = true := h
/-! plain values: frozen, no list in them longer than b -/
mutual
def pl (b : Nat) : D → Bool
  | .tup xs => decide (xs.length ≤ b) && pls b xs
  | .lst xs => decide (xs.length ≤ b) && pls b xs
  | .dct _ xs => pls b xs
  | .dcu _ xs => pls b xs
  | .non => true
  | .bl _ => true
  | .int _ => true
  | .str _ => true
  | _ => false
def pls (b : Nat) : List D → Bool
  | [] => true
  | x :: xs => pl b x && pls b xs
end
theorem pl_lt {b : Nat} : ∀ d : D, pl b d = true → ltD 0 d = true := by
  intro d
  refine D.rec (motive_1 := fun d => pl b d = true → ltD 0 d = true) (motive_2 := fun ds => pls b ds = true → ltDs 0 ds = true) ?_ ?_ ?_ ?_ ?_ ?_ ?_ ?_ ?_ ?_ ?_ ?_ ?_ ?_ ?_ ?_ ?_ d
  · intro h; rfl
  · intro _ h; rfl
  · intro _ h; rfl
  · intro _ h; rfl
  · intro xs ih h; unfold pl at h; rw [Bool.and_eq_true] at h; exact ih h.2
  · intro xs ih h; unfold pl at h; rw [Bool.and_eq_true] at h; exact ih h.2
  · intro ks xs ih h; unfold pl at h; exact ih h
  · intro ks xs ih h; unfold pl at h; exact ih h
  · intro xs ih h; unfold pl at h; cases h
  · intro j h; unfold pl at h; cases h
  · intro b h; rfl
  · intro b h; rfl
  · intro b h; rfl
  · intro b h; rfl
  · intro b h; unfold pl at h; cases h
  · intro h; rfl
  · intro x xs ih1 ih2 h
    unfold pls at h
    unfold ltDs
    rw [Bool.and_eq_true] at h ⊢
    exact ⟨ih1 h.1, ih2 h.2⟩
theorem pls_lt {b : Nat} : ∀ ds : List D, pls b ds = true → ltDs 0 ds = true
  | [], _ => rfl
  | x :: xs, h => by
    unfold pls at h
    unfold ltDs
    rw [Bool.and_eq_true] at h ⊢
    exact ⟨pl_lt x h.1, pls_lt xs h.2⟩
theorem pl_mono {b c : Nat} (hb : b ≤ c) : ∀ d : D, pl b d = true → pl c d = true := by
  intro d
  refine D.rec (motive_1 := fun d => pl b d = true → pl c d = true) (motive_2 := fun ds => pls b ds = true → pls c ds = true) ?_ ?_ ?_ ?_ ?_ ?_ ?_ ?_ ?_ ?_ ?_ ?_ ?_ ?_ ?_ ?_ ?_ d
  · intro h; rfl
  · intro _ h; rfl
  · intro _ h; rfl
  · intro _ h; rfl
  · intro xs ih h; unfold pl at h ⊢; rw [Bool.and_eq_true, decide_eq_true_eq] at h ⊢; exact ⟨Nat.le_trans h.1 hb, ih h.2⟩
  · intro xs ih h; unfold pl at h ⊢; rw [Bool.and_eq_true, decide_eq_true_eq] at h ⊢; exact ⟨Nat.le_trans h.1 hb, ih h.2⟩
  · intro ks xs ih h; unfold pl at h ⊢; exact ih h
  · intro ks xs ih h; unfold pl at h ⊢; exact ih h
  · intro xs ih h; unfold pl at h; cases h
  · intro j h; unfold pl at h; cases h
  · intro b h; unfold pl at h; cases h
  · intro b h; unfold pl at h; cases h
  · intro b h; unfold pl at h; cases h
  · intro b h; unfold pl at h; cases h
  · intro b h; unfold pl at h; cases h
  · intro h; rfl
  · intro x xs ih1 ih2 h
    unfold pls at h ⊢
    rw [Bool.and_eq_true] at h ⊢
    exact ⟨ih1 h.1, ih2 h.2⟩
theorem pls_iff {b : Nat} {xs : List D} : pls b xs = true ↔ ∀ x ∈ xs, pl b x = true := by
  induction xs with
  | nil => exact ⟨fun _ x h => (nomatch h), fun _ => rfl⟩
  | cons x xs ih =>
    unfold pls
    rw [Bool.and_eq_true, ih]
    constructor
    · intro h y hy
      rcases List.mem_cons.mp hy with e | hy
      · rw [e]; exact h.1
      · exact h.2 y hy
    · intro h
      exact ⟨h x List.mem_cons_self, fun y hy => h y (List.mem_cons_of_mem _ hy)⟩
theorem ltDs_of {n : Nat} : ∀ xs : List D, (∀ x ∈ xs, ltD n x = true) → ltDs n xs = true
  | [], _ => rfl
  | x :: xs, h => by
    unfold ltDs
    rw [Bool.and_eq_true]
    exact ⟨h x List.mem_cons_self, ltDs_of xs fun y hy => h y (List.mem_cons_of_mem _ hy)⟩
theorem pls_mono {b c : Nat} (hb : b ≤ c) {xs : List D} (h : pls b xs = true) : pls c xs = true := pls_iff.mpr fun x hx => pl_mono hb x (pls_iff.mp h x hx)
end Iv

set_option maxRecDepth 100000
namespace Iv
open PySem PySem.Spec PyProof.Rows L2
/-! comprehensions of dicts with two clauses; keys that are tuples -/
/-- one turn at a clause: the item, its store, the tests, what stands within -/
def clTree (p : Pos) (tg : Expr) (cs : List Expr) (j : Value) (en : PySem.Env) (within : Sem PySem.Fin → Sem PySem.Fin) (c : Code) : Sem PySem.Fin := do
  standAt p
  match (← pyNext j) with
  | none => pure (.done .next)
  | some u =>
    letOwnedTupleGo tg j u; assign tg en u
    let mut good := true
    for t in cs do
      if good then good ← isTrue t en (eval t en)
    if good then within (again c) else again c
abbrev NoX : Value → Shared → Prop := fun _ _ => False
section
variable {prog : Program} {w : World} {A : Around} {R : Result → Shared → Prop} {s : Shared} {e : Expr} {d : Nat} {j acc : Value} {en : PySem.Env} {p : Pos} {tg : Expr} {cs : List Expr} {within : Sem PySem.Fin → Sem PySem.Fin}
/-- the tests of a clause, one behind the other -/
abbrev goodTests (cs : List Expr) (en : PySem.Env) : Sem Bool := forIn cs true fun t r => if r = true then do let b ← isTrue t en (eval t en); pure (ForInStep.yield b) else pure (ForInStep.yield r)
theorem cl_code (hden : (model prog w).den (.compLoop e d j acc en) = (compTurn e d j acc en).onRaise fun x => do noteFrame x en; theTreesLotGoes x) (hq : (Code.compLoop e d j acc en).quiet = true) (hun : A.under (.compLoop e d j acc en) = A) (heq : compTurn e d j acc en = clTree p tg cs j en within (.compLoop e d j acc en)) (I : Nat → Shared → Prop)
    (turn : ∀ n s, I n s → wpAny (model prog w) A (pyNext j) (fun r s1 => match r with
      | none => R (.ok .next) s1
      | some u => wpAny (model prog w) A (letOwnedTupleGo tg j u) (fun _ s2 => wpAny (model prog w) A (assign tg en u) (fun _ s3 => wpAny (model prog w) A (goodTests cs en) (fun b s4 =>
          if b = true then ∀ P : PySem.Fin → Shared → Prop, (∀ s5, (∃ m, m < n ∧ I m s5) → P (.again (.compLoop e d j acc en)) s5) → wpAny (model prog w) A (within (again (.compLoop e d j acc en))) P NoX s4 else ∃ m, m < n ∧ I m s4) NoX s3) NoX s2) NoX s1) NoX s)
    (n : Nat) (h : I n s) : codeAny (model prog w) A (.compLoop e d j acc en) R s := by
  refine codeAny_loop hq I (fun n s hI => ?_) n h
  rw [hun, hden]
  refine wpAny_noted ?_
  rw [heq]
  unfold clTree
  refine wpAny_bind (wpAny_standAt (wpAny_bind (thnF (turn n s hI) fun r s1 h1 => ?_)))
  match r, h1 with
  | none, h1 => exact wpAny_pure h1
  | some u, h1 =>
    refine wpAny_bind (thnF h1 fun _ s2 h2 => wpAny_bind (thnF h2 fun _ s3 h3 => wpAny_bind (thnF h3 fun b s4 h4 => ?_)))
    cases b with
    | false => exact wpAny_pure ⟨rfl, h4⟩
    | true => exact thnF (h4 (fun f s' => match f with
      | .done f => R (.ok f) s'
      | .again c' => c' = .compLoop e d j acc en ∧ ∃ m, m < n ∧ I m s') fun s5 h5 => ⟨rfl, h5⟩) fun _ _ z => z
end
/-- what the reading of a clause gives for its turns -/
def clAsk (J : It) (g : TG) (tt : TT) (own : List Nat) (σ0 : Sg) (B : Sg → Hp → (Hp → Prop) → Prop) (Fin : Hp → Prop) (W : Nat → Nat → Hp → Prop) : Prop :=
  ∀ i m H, W i m H → (J.stop i H ∧ Fin H) ∨ (J.go i H ∧ ∃ Nx : Hp → Prop, (∀ H', Nx H' → ∃ m', m' < m ∧ W (i + 1) m' H') ∧
    ∀ x H', J.yld i H x H' → g x σ0 H' fun σ2 H2 => L2.wipe σ2 own = σ0 ∧ tt σ2 H2 fun b H3 => if b = true then B σ2 H3 Nx else Nx H3)
/-- all that σ0 knows -/
def Over (σ0 σ' : Sg) : Prop := σ'.length = σ0.length ∧ ∀ (k : Nat) v, σ0[k]? = some (some v) → σ'[k]? = some (some v)
theorem over_wipe {σ σ0 : Sg} {own : List Nat} (h : L2.wipe σ own = σ0) : Over σ0 σ := by
  subst h
  exact ⟨(L2.wipe_length σ own).symm, fun _ _ e => (L2.wipe_some e).1⟩
theorem cl_walk {Y : Cx} {pins : List (Addr × Obj)} {fp : List Addr} {tn : Nat → Heap → Prop} {J : It} {it : Addr} {tg : Expr} {cs : List Expr} {g : TG} {tt : TT} {own : List Nat} {σ0 : Sg} {B : Sg → Hp → (Hp → Prop) → Prop} {Fin : Hp → Prop} {W : Nat → Nat → Hp → Prop}
    {R : Result → Shared → Prop} {s : Shared} {H : Hp} {m : Nat} {e : Expr} {d : Nat} {acc : Value} {p : Pos} {within : Sem PySem.Fin → Sem PySem.Fin} (hc : Y.calm = true) (hx : Y.xe = NoX) (T : Turn Y.prog Y.w Y.K tg J fp it tn) (pg : PG Y tg g) (pt : PTs Y cs tt) (stat : ∀ H', (∀ b ∈ fp, H' b = none) → ∀ b ∈ fp, FpOk Y pins H' b)
    (hq : (Code.compLoop e d (.ref it) acc Y.env).quiet = true) (hun : Y.A.under (.compLoop e d (.ref it) acc Y.env) = Y.A)
    (hden : (model Y.prog Y.w).den (.compLoop e d (.ref it) acc Y.env) = (compTurn e d (.ref it) acc Y.env).onRaise fun x => do noteFrame x Y.env; theTreesLotGoes x) (heq : compTurn e d (.ref it) acc Y.env = clTree p tg cs (.ref it) Y.env within (.compLoop e d (.ref it) acc Y.env))
    (ask : clAsk J g tt own σ0 B Fin W) (hB : ∀ pn s σ2 H3 Nx, L2.wipe σ2 own = σ0 → Inv Y (pins ++ pn) σ2 H3 s → B σ2 H3 Nx → ∀ P : PySem.Fin → Shared → Prop, (∀ s', (∃ σ' H', Inv Y (pins ++ pn) σ' H' s' ∧ Over σ0 σ' ∧ Nx H') → P (.again (.compLoop e d (.ref it) acc Y.env)) s') → wpAny (model Y.prog Y.w) Y.A (within (again (.compLoop e d (.ref it) acc Y.env))) P NoX s)
    (hF : ∀ s H, Inv Y pins σ0 H s → Fin H → R (.ok .next) s) (I : Inv Y pins σ0 H s) (st : tn 0 s.heap) (nf : ∀ b ∈ fp, H b = none) (w0 : W 0 m H) :
    codeAny (model Y.prog Y.w) Y.A (.compLoop e d (.ref it) acc Y.env) R s := by
  refine cl_code hden hq hun heq (fun n s' => ∃ i H', Inv Y pins σ0 H' s' ∧ tn i s'.heap ∧ (∀ b ∈ fp, H' b = none) ∧ W i n H') (fun n s1 h => ?_) m ⟨0, H, I, st, nf, w0⟩
  obtain ⟨i, H1, I1, st1, nf1, w1⟩ := h
  rcases ask i n H1 w1 with ⟨stop, fin⟩ | ⟨go, Nx, less, body⟩
  · refine thnF (T.done Y rfl rfl rfl hc i pins s1 σ0 H1 NoX I1 (stat H1 nf1) st1 stop) fun r s2 ⟨er, I2⟩ => ?_
    subst er
    exact hF s2 H1 I2 fin
  · refine thnF (T.item Y rfl rfl rfl hc i pins s1 σ0 H1 NoX I1 (stat H1 nf1) st1 go) fun r s2 ⟨u, er, h2⟩ => ?_
    subst er
    refine thnF h2 fun _ s3 ⟨x, H3, I3, rx, yx, st3, nf3⟩ => ?_
    have back : ∀ {s' : Shared} {σ' : Sg} {H' : Hp}, Inv Y (pins ++ pinsAt fp s3.heap) σ' H' s' → Over σ0 σ' → Nx H' → ∃ k, k < n ∧ ∃ i H', Inv Y pins σ0 H' s' ∧ tn i s'.heap ∧ (∀ b ∈ fp, H' b = none) ∧ W i k H' := fun {s' σ' H'} J' ov nx => by
      obtain ⟨k, hk, wk⟩ := less H' nx
      have stay : ∀ b ∈ fp, ∀ o, s3.heap.get? b = some o → s'.heap.get? b = some o ∧ H' b = none := fun b hb o eo =>
        ⟨(J'.pin (b, o) (List.mem_append_right _ (List.mem_append_right _ (mem_pinsAt hb eo)))).1, (J'.pin (b, o) (List.mem_append_right _ (List.mem_append_right _ (mem_pinsAt hb eo)))).2.1⟩
      refine ⟨k, hk, i + 1, H', J'.unpinned.weak ov.1.symm ov.2, T.keep _ _ _ st3 fun b hb o eo => (stay b hb o eo).1, fun b hb => ?_, wk⟩
      obtain ⟨o, eo, _⟩ := T.obj _ _ st3 b hb
      exact (stay b hb o eo).2
    have I3' := I3.pinned (stat H3 nf3) (T.obj _ _ st3)
    have kg := pg.run _ s3 σ0 H3 x u _ I3' rx (body x H3 yx)
    rw [hx] at kg
    refine thnF kg fun _ s4 ⟨σ4, H4, I4, hw4, q4⟩ => ?_
    have kt := pt.run _ s4 σ4 H4 _ I4 q4
    rw [hx] at kt
    refine thnF kt fun b s5 ⟨H5, I5, q5⟩ => ?_
    cases b with
    | false => exact back I5 (over_wipe hw4) q5
    | true => exact fun P hP => hB _ s5 σ4 H5 Nx hw4 I5 q5 P fun s6 ⟨σ6, H6, I6, ov, nx⟩ => hP s6 (back I6 ov nx)
/-! the store of a dict comprehension -/
theorem put_dset {X : Cx} {pins : List (Addr × Obj)} {σ : Sg} {H H' : Hp} {s : Shared} {D : Addr} {y z : V} {u r : Value} (hu : X.A.units < cLine) (I : Inv X pins σ H s) (g : DPut H D y z H') (ry : RelV y u) (rz : RelV z r) :
    wpAny (model X.prog X.w) X.A (dictSet D u r) (fun _ s' => Inv X pins σ H' s') NoX s := by
  rcases g with ⟨kvs, k, e, rfl, l, rfl⟩ | ⟨kvs, k, b, e, rfl, eb, l, rfl⟩
  · exact d_dictSet I e l ry rz fun s' J' => J'
  · cases (show u = Value.ref b from ry)
    obtain ⟨sz, nm, xs, rel, dd⟩ := dt_of I.hok e
    have sx : xs.length ≤ sizeLine := Nat.le_trans (Nat.le_of_eq (Paired.length rel).symm) sz
    have sp : (putK kvs k z).length ≤ sizeLine := Nat.le_trans (length_putK kvs k z) l
    refine wpAny_dictSet_heap (hsz := sx) (knd := tupleKind (mixKind X.prog X.w)) hu (key_of I.hok eb) dd fun h' dd' hs => ?_
    obtain ⟨q, es, ep, hq, a2, a3, a4, _, a5⟩ := dd'
    exact d_write I (by rw [e]; trivial) hs ⟨q, hq⟩ ⟨sp, nm, _, (rel.put k eb rz).keeps fun c ys ec => (upd_ne (ne_of ec e fun z => nomatch z)).trans ec, q, es, ep, hq, a2, a3, a4, a5⟩
def dEmit (D : Addr) (tk tv : TE) : Sg → Hp → (Hp → Prop) → Prop := fun σ H Nx => tk σ H fun y H1 => tv σ H1 fun z H2 => ∃ H3, DPut H2 D y z H3 ∧ Nx H3
theorem dEmit_run {Y : Cx} {pins : List (Addr × Obj)} {σ : Sg} {H : Hp} {s : Shared} {D : Addr} {kx vx : Expr} {tk tv : TE} {Nx : Hp → Prop} (p : Pos) (hx : Y.xe = NoX) (hu : Y.A.units < cLine) (pk : PE Y kx tk) (pv : PE Y vx tv) (I : Inv Y pins σ H s) (q : dEmit D tk tv σ H Nx) :
    wpAny (model Y.prog Y.w) Y.A (do let a ← eval kx Y.env; let b ← holding [a] (eval vx Y.env); standAt p; holding [a, b] (dictSet D a b)) (fun _ s' => ∃ H', Inv Y pins σ H' s' ∧ Nx H') NoX s := by
  have wk := pk.run _ s σ H _ I q
  rw [hx] at wk
  refine wpAny_bind (thnF wk fun a s1 ⟨y, H1, I1, ry, q1⟩ => ?_)
  have wv := pv.run _ s1 σ H1 _ I1 q1
  rw [hx] at wv
  refine wpAny_bind (wpAny_holding (thnF wv fun b s2 ⟨z, H2, I2, rz, H3, g, nx⟩ => ?_))
  exact wpAny_bind (wpAny_standAt (wpAny_holding (thnF (put_dset hu I2 g ry rz) fun _ s3 I3 => ⟨H3, I3, nx⟩)))
section
variable {prog : Program} {w : World} {A : Around} {R : Result → Shared → Prop} {s : Shared} {kx vx t0 i0 t1 i1 : Expr} {f0 f1 : List Expr} {scope : Scope} {pos : Pos} {j acc : Value} {en : PySem.Env}
abbrev dc2 (kx vx t0 i0 t1 i1 : Expr) (f0 f1 : List Expr) (scope : Scope) (pos : Pos) : Expr := .DictComp kx vx [⟨t0, i0, f0, 0⟩, ⟨t1, i1, f1, 0⟩] scope pos
theorem dc2_start (h0 : codeAny (model prog w) A (.compLoop (dc2 kx vx t0 i0 t1 i1 f0 f1 scope pos) 1 j acc en) R s)
    (h : ∀ R' : Value → Shared → Prop, R' j s → wpAny (model prog w) A (pyIter j) R' NoX s) : codeAny (model prog w) A (.compStart (dc2 kx vx t0 i0 t1 i1 f0 f1 scope pos) 1 j acc en) R s := by
  refine codeAny_of_tree ?_
  show wpAny (model prog w) _ ((compStart (dc2 kx vx t0 i0 t1 i1 f0 f1 scope pos) 1 j acc en).onRaise _) _ _ s
  refine wpAny_notedAt ?_
  unfold compStart
  show wpAny (model prog w) _ (ask >>= _) _ _ s
  refine wpAny_bind (wpAny_askSetting (wpAny_ite ?_))
  have fin := thnF (Q' := fun j' s' => codeAny (model prog w) A (.compLoop (dc2 kx vx t0 i0 t1 i1 f0 f1 scope pos) 1 j' acc en) R s') (E := notedBy (model prog w) A en fun x s' => R (.error x) s') (h (fun j' s' => codeAny (model prog w) A (.compLoop (dc2 kx vx t0 i0 t1 i1 f0 f1 scope pos) 1 j' acc en) R s') h0) fun _ _ z => z
  split
  · first
      | exact wpAny_pure ⟨rfl, h0⟩
      | exact wpAny_bind (wpAny_pure (wpAny_pure ⟨rfl, h0⟩))
  · refine wpAny_bind (wpAny_rule ?_)
    first
      | exact wpAny_bind (wpAny_standAt (wpAny_bind (wpAny_mono fin (fun _ _ z => wpAny_pure ⟨rfl, z⟩) fun _ _ z => z)))
      | (show wpAny (model prog w) _ (standAt i1.pos >>= _) _ _ s; exact wpAny_bind (wpAny_standAt (wpAny_bind (wpAny_mono fin (fun _ _ z => wpAny_pure ⟨rfl, z⟩) fun _ _ z => z))))
end
/-- what the second clause's source asks -/
def dIn (g1 : TG) (tt1 : TT) (vs1 : List Nat) (wi1 : TI) (D : Addr) (tk tv : TE) : Sg → Hp → (Hp → Prop) → Prop := fun σ H Nx => wi1 σ H fun J1 H4 => ∃ W1 : Nat → Nat → Hp → Prop, (∃ m, W1 0 m H4) ∧ clAsk J1 g1 tt1 vs1 (L2.wipe σ vs1) (dEmit D tk tv) Nx W1
/-- {k: v for t0 in i0 if .. for t1 in i1 if ..}, the new dict beginning as o -/
def tDc2 (o : HO) (wi : TI) (g : TG) (tt : TT) (wi1 : TI) (g1 : TG) (tt1 : TT) (tk tv : TE) (vs vs1 : List Nat) : TE := fun σ H Q => wi σ H fun J H1 => ∀ D, H1 D = none → ∃ W : Nat → Nat → Hp → Prop, (∃ m, W 0 m (upd H1 D o)) ∧ clAsk J g tt vs (L2.wipe σ vs) (dIn g1 tt1 vs1 wi1 D tk tv) (fun H => Q (.ref D) H) W
section
variable {X : Cx}
theorem pe_dc2 {o : HO} {kx vx t0 i0 t1 i1 : Expr} {f0 f1 : List Expr} {scope : Scope} {own : List (Str × Nat)} {vs1 : List Nat} {pos : Pos} {wi wi1 : TI} {g g1 : TG} {tt tt1 : TT} {tk tv : TE} (ho : o = .dK [] ∨ o = .dT []) (hu : X.A.units < cLine) (hc : X.calm = true) (hN : X.N.Nodup) (hi : PI X t0 i0 wi) (ok : BlkOk X.N X.env.scope scope own) (hv : ∀ i ∈ vs1, i ∈ own.map (·.2))
    (hg : InBlk X scope fun Y => PG Y t0 g) (ht : InBlk X scope fun Y => PTs Y f0 tt) (hi1 : InBlk X scope fun Y => PI Y t1 i1 wi1) (hg1 : InBlk X scope fun Y => PG Y t1 g1) (ht1 : InBlk X scope fun Y => PTs Y f1 tt1)
    (hk : InBlk X scope fun Y => PE Y kx tk) (he : InBlk X scope fun Y => PE Y vx tv) (hs : ∀ x, foldedSetIterable i0 X.env x = pure x) (hs1 : ∀ en x, foldedSetIterable i1 en x = pure x) :
    PE X (dc2 kx vx t0 i0 t1 i1 f0 f1 scope pos) (tDc2 o wi g tt wi1 g1 tt1 tk tv (own.map (·.2)) vs1) := by
  refine ⟨fun pins s σ H Q I q => ?_⟩
  rw [arm_eval_DictComp]
  have cl : closureFor scope X.env = pure (cloFrom X.env.cells scope.names []) := closure_ok fun y hy e => (ok.free y hy e).elim (fun k => I.ok.has _ (.inl k)) fun k => I.ok.has _ (.inr k)
  refine wpAny_comprehension_free (use := none) rfl hs cl ok.kind (fun y hy e => (ok.uniq y hy).trans (by rw [e])) (thn (hi.run pins s σ H _ I q) fun _ s1 q1 => thn q1 fun _ s2 q2 => ?_)
  obtain ⟨it, fp, tn, J, H2, rfl, I2, T, st2, f2, q2⟩ := q2
  refine wpAny_newObj_type (newEnv_comp ?_)
  obtain ⟨D, hD⟩ : ∃ D, s2.heap.objs.size = D := ⟨_, rfl⟩
  obtain ⟨W, ⟨m0, w0⟩, ask⟩ := q2 D (I2.hok.fresh (Nat.le_of_eq hD))
  obtain ⟨s3, hs3⟩ : ∃ s3 : Shared, s3 = { s2 with heap := s2.heap.push { cls := .type "dict", data := .dict #[] } } := ⟨_, rfl⟩
  have up : ∀ b u, s2.heap.get? b = some u → s3.heap.get? b = some u := fun b u e => by rw [hs3]; exact Heap.get?_push_of_some _ e
  have I3 : Inv X pins σ (upd H2 D o) s3 := by
    rw [hs3]
    refine I2.laid (t' := s2.toks) (fun b u e => Heap.get?_push_of_some _ e) (Nat.le_of_eq hD) ?_
    rw [← hD]
    rcases ho with rfl | rfl
    · exact dk_empty s2.heap I2.big
    · exact dt_empty s2.heap I2.big
  have f3 : ∀ b ∈ fp, FpOk X pins (upd H2 D o) b ∧ b < s3.heap.objs.size := fun b hb => by
    obtain ⟨u, e, _⟩ := T.obj _ _ st2 b hb
    exact ⟨⟨(upd_ne (by rw [← hD]; exact Nat.ne_of_lt (Heap.lt_size e))).trans (f2 b hb).1, (f2 b hb).2⟩, Heap.lt_size (up b u e)⟩
  have I4 := block_start I3 ok hN f3
  rw [← hs3]
  obtain ⟨H3, hH3⟩ : ∃ H3, H3 = upd H2 D o := ⟨_, rfl⟩
  rw [← hH3] at I3 I4 f3 w0
  rw [hD]
  show codeAny (model X.prog X.w) X.A (.compStart (dc2 kx vx t0 i0 t1 i1 f0 f1 scope pos) 0 (.ref it) (.ref D) (compEnvC scope (cellsFrom (s3.heap.objs.size + 1) scope.names (cloFrom X.env.cells scope.names [])) s3.heap.objs.size X.env)) (compPost (model X.prog X.w) X.A X.xe none (EP X pins σ Q) (.ref D) s3.heap.objs.size) { s3 with heap := pushCells (s3.heap.push { cls := .type "dict", data := .dict #[] }) scope.names }
  have bg := hg s3 H3 s3.heap.objs.size (cellsFrom (s3.heap.objs.size + 1) scope.names (cloFrom X.env.cells scope.names [])) fp
  have bt := ht s3 H3 s3.heap.objs.size (cellsFrom (s3.heap.objs.size + 1) scope.names (cloFrom X.env.cells scope.names [])) fp
  have bi := hi1 s3 H3 s3.heap.objs.size (cellsFrom (s3.heap.objs.size + 1) scope.names (cloFrom X.env.cells scope.names [])) fp
  have bg1 := hg1 s3 H3 s3.heap.objs.size (cellsFrom (s3.heap.objs.size + 1) scope.names (cloFrom X.env.cells scope.names [])) fp
  have bt1 := ht1 s3 H3 s3.heap.objs.size (cellsFrom (s3.heap.objs.size + 1) scope.names (cloFrom X.env.cells scope.names [])) fp
  have bk := hk s3 H3 s3.heap.objs.size (cellsFrom (s3.heap.objs.size + 1) scope.names (cloFrom X.env.cells scope.names [])) fp
  have bv := he s3 H3 s3.heap.objs.size (cellsFrom (s3.heap.objs.size + 1) scope.names (cloFrom X.env.cells scope.names [])) fp
  obtain ⟨ce, hce⟩ : ∃ ce, compEnvC scope (cellsFrom (s3.heap.objs.size + 1) scope.names (cloFrom X.env.cells scope.names [])) s3.heap.objs.size X.env = ce := ⟨_, rfl⟩
  have lc : ce.locals = s3.heap.objs.size := by rw [← hce]; rfl
  rw [hce] at I4 bg bt bi bg1 bt1 bk bv ⊢
  obtain ⟨s4, hs4⟩ : ∃ s4 : Shared, s4 = { s3 with heap := pushCells (s3.heap.push { cls := .type "dict", data := .dict #[] }) scope.names } := ⟨_, rfl⟩
  rw [← hs4] at I4 ⊢
  have st4 : tn 0 s4.heap := T.keep _ _ _ st2 fun b _ u e => by rw [hs4]; exact pushCells_keeps _ _ _ _ (Heap.get?_push_of_some _ (up b u e))
  have stat : ∀ H', (∀ b ∈ fp, H' b = none) → ∀ b ∈ fp, FpOk (X.blk s3 H3 scope ce fp) [] H' b := fun H' hn b hb =>
    ⟨hn b hb, (I4.ok.exf b hb).1, I4.ok.exfs b hb, .inl hb, fun x c e => (I4.ok.exf b hb).2 x c e, fun p hm => absurd (show p ∈ ([] : List (Addr × Obj)) ++ [] from hm) (by simp)⟩
  have loop : codeAny (model X.prog X.w) X.A (.compLoop (dc2 kx vx t0 i0 t1 i1 f0 f1 scope pos) 0 (.ref it) (.ref D) ce) (compPost (model X.prog X.w) X.A X.xe none (EP X pins σ Q) (.ref D) s3.heap.objs.size) s4 := by
    refine cl_walk (Y := X.blk s3 H3 scope ce fp) (p := i0.pos) (tg := t0) (cs := f0) (within := fun k => do
      let x ← eval i1 ce; standAt i1.pos
      let x ← foldedSetIterable i1 ce x
      let _ ← runOwn (.compStart (dc2 kx vx t0 i0 t1 i1 f0 f1 scope pos) 1 (← holding [x] (pyIter x)) (.ref D) ce) ce
      k) hc rfl T bg bt stat rfl rfl rfl rfl ask (fun pn s5 σ5 H5 Nx hw I5 q5 P hP => ?_) (fun s5 H5 I5 q5 => ?_) I4 st4 (fun b hb => (f3 b hb).1.1) w0
    · -- the second clause
      refine wpAny_bind (thnF (bi.run _ s5 σ5 H5 _ I5 q5) fun x s6 q6 => wpAny_bind (wpAny_standAt (wpAny_bind (wpAny_of_eq (hs1 ce x) (wpAny_bind (wpAny_holding (thnF q6 fun _ s7 q7 => ?_)))))))
      obtain ⟨it1, fp1, tn1, J1, H7, rfl, I7, T1, st7, f7, W1, ⟨m1, w1⟩, ask1⟩ := q7
      refine wpAny_bind (wpAny_runOwn ?_)
      rw [Around.mark_none]
      have ov : Over (L2.wipe σ (own.map (·.2))) (L2.wipe σ5 vs1) := by
        rw [← hw]
        refine ⟨by rw [L2.wipe_length, L2.wipe_length], fun k v e => ?_⟩
        obtain ⟨e1, e2⟩ := L2.wipe_some e
        exact (L2.wipe_out fun z => e2 (hv k z)).trans e1
      have loop1 : codeAny (model X.prog X.w) X.A (.compLoop (dc2 kx vx t0 i0 t1 i1 f0 f1 scope pos) 1 (.ref it1) (.ref D) ce) (fun r s' => match r with
          | .ok _ => ∃ σ' H', Inv (X.blk s3 H3 scope ce fp) ([] ++ pn) σ' H' s' ∧ Over (L2.wipe σ (own.map (·.2))) σ' ∧ Nx H'
          | .error _ => False) s7 := by
        refine cl_walk (Y := X.blk s3 H3 scope ce fp) (pins := [] ++ pn) (p := i1.pos) (tg := t1) (cs := f1) (within := fun k => (do
          let a ← eval kx ce; let b ← holding [a] (eval vx ce)
          standAt { kx.pos with endLine := vx.pos.endLine, endCol := vx.pos.endCol }; holding [a, b] (dictSet D a b)) >>= fun _ => k) hc rfl T1 bg1 bt1 (fun H' hn b hb => ⟨hn b hb, (f7 b hb).2⟩) rfl rfl rfl rfl ask1
          (fun pn1 s8 σ8 H8 Nx1 hw1 I8 q8 P1 hP1 => ?_) (fun s8 H8 I8 q8 => ⟨_, H8, I8, ov, q8⟩) (I7.weak (L2.wipe_length σ5 vs1) fun _ _ e => (L2.wipe_some e).1) st7 (fun b hb => (f7 b hb).1) w1
        exact wpAny_bind (thnF (dEmit_run (Y := X.blk s3 H3 scope ce fp) _ rfl hu bk bv I8 q8) fun _ s9 ⟨H9, I9, nx⟩ => wpAny_pure (hP1 s9 ⟨σ8, H9, I9, over_wipe hw1, nx⟩))
      refine codeAny_mono (dc2_start loop1 fun R' hR => T1.self X.A 0 s7 R' NoX st7 hR) fun r s8 hr => ?_
      cases r with
      | ok f => exact wpAny_pure (hP s8 hr)
      | error e => exact hr.elim
    · -- back in the def
      have I6 : Inv X pins σ H5 s5 := I3.call' (ch := fp) I5.os I5.base I5.hok I5.bare fun b hb => ⟨(f3 b hb).1.2.2.2.1, (f3 b hb).1.2.1, (f3 b hb).1.2.2.2.2.1, (f3 b hb).1.2.2.2.2.2⟩
      obtain ⟨m, hn, _⟩ := I5.loc
      have nC : H5 ce.locals = none := I5.free
      have hn : s5.heap.Ns ce.locals m := hn
      rw [lc] at nC hn
      obtain ⟨a0, a1, a2, a3, a4, a5⟩ := I3.fpOk (H' := H5) (Nat.le_refl _) nC
      exact ⟨m, hn, fun h' sb => ⟨.ref D, H5, I6.turned (t' := s5.toks) (fun b u hb e => (sb.2 b hb).trans e) a0 a1 a3 a4 a5, rfl, q5⟩⟩
  exact codeAny_compStart_dict loop (T.self X.A 0 _ _ _ st4 loop)
end
end Iv

set_option maxRecDepth 100000
namespace Iv
open PySem PySem.Spec PyProof.Rows L2
/-! dicts whose keys are tuples of ints and texts -/
/-- one turn of the inner clause: (keys): value -/
def turnU (n : Nat) (mt : MTg) (mc : M) (mks : Ms) (mv : M) (env : Env) (x : D) (h : Hs) : Option Hs := match mt x env with
  | none => none
  | some e => match gcR false h.length (mc e h) with
    | .ok (.bl true) h1 => match mks e h1 with
      | .ok ks h2 => match gcR false h2.length (mv e h2) with
        | .ok y h3 => match keysU ks, h3[n]? with
          | some kk, some (.dit qs vs) => if ks.length ≤ most ∧ qs.length < most then some (h3.set n (.dit (putD qs vs kk y).1 (putD qs vs kk y).2)) else none
          | _, _ => none
        | _ => none
      | _ => none
    | .ok (.bl false) h1 => some h1
    | _ => none
def turnU2 (n : Nat) (mt : MTg) (mc : M) (mi1 : MI) (mt1 : MTg) (mc1 : M) (mks : Ms) (mv : M) (vs1 : List Nat) (env : Env) (x : D) (h : Hs) : Option Hs := match mt x env with
  | none => none
  | some e => match gcR false h.length (mc e h) with
    | .ok (.bl true) h1 => match mi1 e h1 with
      | .ok s h2 => runC (turnU n mt1 mc1 mks mv (wipeE e vs1)) s h2
      | _ => none
    | .ok (.bl false) h1 => some h1
    | _ => none
def mDCompU (m : Bool) (mi : MI) (mt : MTg) (mc : M) (mi1 : MI) (mt1 : MTg) (mc1 : M) (mks : Ms) (mv : M) (own vs1 : List Nat) : M := fun env h => (mi env h).bind fun s h1 => fin m h1.length (runC (turnU2 h1.length mt mc mi1 mt1 mc1 mks mv vs1 (wipeE env own)) s (h1 ++ [.dit [] []]))
section
variable {X : Cx} {T : Tb} {W : WX}
/-- a tuple's items, the tuple made of them -/
theorem keys_read {K : PySem.W.Frag} {H : Hp} {ρ : List Addr} {h h1 : Hs} {e : Env} {σ : Sg} {mks : Ms} {ks : List D} {kk : List Key} {Q : VK} (hw : RelH K T H ρ h) (he : RelEnv K T H ρ e σ) (ek : mks e h = .ok ks h1) (eu : keysU ks = some kk) (hl : ks.length ≤ most)
    (q : ∀ H1 ρ1 a, Ext H ρ H1 ρ1 → RelH K T H1 ρ1 h1 → H1 a = some (.tup (kk.map kV)) → Q (.ref a) H1) : L2.tTup (tIs K T W0 mks) σ H Q := by
  refine ⟨ρ, e, h, hw, he, ?_⟩
  rw [ek]
  intro H1 ρ1 vs x1 w1 r1
  have ev := keysU_rel eu r1
  subst ev
  exact ⟨by rw [← r1.len]; exact Nat.le_trans hl most_line, fun p hp => q _ ρ1 p (x1.trans (Ext.new hp)) (w1.new hp) upd_same⟩
theorem turn_du {K : PySem.W.Frag} {H : Hp} {ρ : List Addr} {h h3 : Hs} {x : D} {v : V} {env : Env} {σ : Sg} {own : List Nat} {mt : MTg} {g : TG} {mc : M} {mks : Ms} {mv : M} {n : Nat} {dA : Addr} {Nx : Hp → Prop} (sg : TgS K T mt g) (hk : Keeps g own) (hmo : MonoG g)
    (re : RelEnv K T H ρ env (L2.wipe σ own)) (hw : RelH K T H ρ h) (hD : ρ[n]? = some dA) (rx : RelD K T H ρ x v) (ef : turnU n mt mc mks mv env x h = some h3) (hn : ∀ H' ρ', Ext H ρ H' ρ' → RelH K T H' ρ' h3 → ρ'[n]? = some dA → Nx H') :
    g v (L2.wipe σ own) H fun σ2 H2 => L2.wipe σ2 own = L2.wipe σ own ∧ tIT K T W0 mc σ2 H2 fun b H3 => if b = true then dEmit dA (L2.tTup (tIs K T W0 mks)) (tI K T W0 mv) σ2 H3 Nx else Nx H3 := by
  unfold turnU at ef
  cases et : mt x env with
  | none => simp only [et] at ef; cases ef
  | some e' =>
    simp only [et] at ef
    have base : g v (L2.wipe σ own) H fun σ2 H2 => H2 = H ∧ RelEnv K T H ρ e' σ2 := sg H ρ h _ e' _ x v _ hw re rx et fun σ' re => ⟨rfl, re⟩
    refine hmo _ _ _ _ _ (fun σ2 H2 ⟨ew, eH, re⟩ => ⟨by rw [ew, wipe_wipe], ?_⟩) (hk _ _ _ _ base)
    subst eH
    cases eg : gcR false h.length (mc e' h) with
    | bad => simp only [eg] at ef; cases ef
    | ex c h2 => simp only [eg] at ef; cases ef
    | ok dt h2 =>
      cases dt with
      | bl b =>
        cases b with
        | false =>
          simp only [eg] at ef
          cases ef
          refine test_read hw re eg fun H3 ρ3 x3 w3 => ?_
          rw [if_neg (by decide)]
          exact hn H3 ρ3 x3 w3 (x3.get hD)
        | true =>
          simp only [eg] at ef
          refine test_read hw re eg fun H3 ρ3 x3 w3 => ?_
          rw [if_pos rfl]
          cases ek : mks e' h2 with
          | bad => simp only [ek] at ef; cases ef
          | ex c h2 => simp only [ek] at ef; cases ef
          | ok ks h3' =>
            simp only [ek] at ef
            cases ev : gcR false h3'.length (mv e' h3') with
            | bad => simp only [ev] at ef; cases ef
            | ex c h2 => simp only [ev] at ef; cases ef
            | ok y h4 =>
              simp only [ev] at ef
              split at ef
              · rename_i kk qs vs eu en
                split at ef
                · rename_i hl
                  cases ef
                  unfold dEmit
                  refine keys_read w3 (re.mono x3) ek eu hl.1 fun H4 ρ4 a x4 w4 ea => ?_
                  refine val_read w4 ((re.mono x3).mono x4) ev fun H5 ρ5 yv x5 w5 r5 => ?_
                  have hD5 := x5.get (x4.get (x3.get hD))
                  have na : a ∉ ρ4 := fun z => by
                    obtain ⟨o, eo, _⟩ := w4.mem_some z
                    obtain ⟨j, ej⟩ := List.getElem?_of_mem z
                    have hj : j < h3'.length := by rw [← w4.len]; exact (List.getElem?_eq_some_iff.mp ej).1
                    have q := w4.at_ j h3'[j] a (List.getElem?_eq_getElem hj) ej
                    cases eo' : h3'[j] with
                    | lst _ => rw [eo'] at q; obtain ⟨_, q, _⟩ := q; rw [ea] at q; cases q
                    | dic _ _ => rw [eo'] at q; obtain ⟨_, q, _⟩ := q; rw [ea] at q; cases q
                    | dit _ _ => rw [eo'] at q; obtain ⟨_, q, _⟩ := q; rw [ea] at q; cases q
                    | ins _ _ _ => rw [eo'] at q; obtain ⟨_, _, q, _⟩ := q; rw [ea] at q; cases q
                  obtain ⟨kvs, eH, e2, rs⟩ := w5.at_ _ _ dA en hD5
                  subst e2
                  obtain ⟨g1, g2⟩ := putD_rel (x := kk) rs r5
                  have xp : Ext H5 ρ5 (upd H5 dA (.dT (putK kvs kk yv))) ρ5 := Ext.put w5 (List.mem_of_getElem? hD5)
                  have xx := x3.trans (x4.trans (x5.trans xp))
                  exact ⟨_, .inr ⟨kvs, kk, a, eH, rfl, (x5.stay a _ ea trivial na).1, by have := hl.2; rw [List.length_map] at this; exact Nat.lt_of_lt_of_le this most_le, rfl⟩, hn _ ρ5 xx (w5.put hD5 ⟨_, upd_same, g1, g2.mono xp⟩) hD5⟩
                · cases ef
              · cases ef
      | _ => simp only [eg] at ef; cases ef
theorem read_dcompU {K : PySem.W.Frag} {m : Bool} {own vs1 : List Nat} {mi mi1 : MI} {mt mt1 : MTg} {g g1 : TG} {mc mc1 : M} {mks : Ms} {mv : M} {σ : Sg} {H : Hp} {Q : VK} (sg : TgS K T mt g) (hk : Keeps g own) (hmo : MonoG g) (sg1 : TgS K T mt1 g1) (hk1 : Keeps g1 vs1) (hmo1 : MonoG g1) (q : tI K T W (mDCompU m mi mt mc mi1 mt1 mc1 mks mv own vs1) σ H Q) :
    tDc2 (.dT []) (tG K T W (SrcRel K T) mi) g (tIT K T W0 mc) (tG K T W0 (SrcRel K T) mi1) g1 (tIT K T W0 mc1) (L2.tTup (tIs K T W0 mks)) (tI K T W0 mv) own vs1 σ H Q := by
  obtain ⟨ρ, env, h, hw, he, p⟩ := q
  unfold mDCompU at p
  refine bindI hw he p fun H1 ρ1 s h1 J x1 w1 e1 r1 p1 dA hD => ?_
  obtain ⟨hE, er, p1⟩ := fin_post p1
  have w2 : RelH K T (upd H1 dA (.dT [])) (ρ1 ++ [dA]) (h1 ++ [.dit [] []]) := w1.alloc hD ⟨[], upd_same, rfl, by unfold RelDs; rfl⟩
  have xa : Ext H1 ρ1 (upd H1 dA (.dT [])) (ρ1 ++ [dA]) := Ext.alloc hD
  have hDn : (ρ1 ++ [dA])[h1.length]? = some dA := by rw [← w1.len, List.getElem?_append_right (Nat.le_refl _), Nat.sub_self]; rfl
  unfold clAsk
  refine loop_any (B := fun x H' Nx => g x (L2.wipe σ own) H' fun σ2 H2 => L2.wipe σ2 own = L2.wipe σ own ∧ tIT K T W0 mc σ2 H2 fun b H3 => if b = true then dIn g1 (tIT K T W0 mc1) vs1 (tG K T W0 (SrcRel K T) mi1) dA (L2.tTup (tIs K T W0 mks)) (tI K T W0 mv) σ2 H3 Nx else Nx H3)
    (fun H ρ h x v h3 Nx xr hw hD rx ef hn => ?_) (?_ : SrcRel K T (upd H1 dA (.dT [])) (ρ1 ++ [dA]) s J) w2 hDn er fun H ρ xr hw hD => ?_
  · unfold turnU2 at ef
    cases et : mt x (wipeE env own) with
    | none => simp only [et] at ef; cases ef
    | some e' =>
      simp only [et] at ef
      have base : g v (L2.wipe σ own) H fun σ2 H2 => H2 = H ∧ RelEnv K T H ρ e' σ2 := sg H ρ h _ e' _ x v _ hw ((e1.wipe own).mono (xa.trans xr)) rx et fun σ' re => ⟨rfl, re⟩
      refine hmo _ _ _ _ _ (fun σ2 H2 ⟨ew, eH, re⟩ => ⟨by rw [ew, wipe_wipe], ?_⟩) (hk _ _ _ _ base)
      subst eH
      cases eg : gcR false h.length (mc e' h) with
      | bad => simp only [eg] at ef; cases ef
      | ex c h1 => simp only [eg] at ef; cases ef
      | ok d h1' =>
        cases d with
        | bl b =>
          cases b with
          | false =>
            simp only [eg] at ef
            cases ef
            refine test_read hw re eg fun H3 ρ3 x3 w3 => ?_
            rw [if_neg (by decide)]
            exact hn H3 ρ3 (xr.trans x3) x3 w3 (x3.get hD)
          | true =>
            simp only [eg] at ef
            refine test_read hw re eg fun H3 ρ3 x3 w3 => ?_
            rw [if_pos rfl]
            refine ⟨ρ3, e', h1', w3, re.mono x3, ?_⟩
            cases e2 : mi1 e' h1' with
            | bad => simp only [e2] at ef; cases ef
            | ex c h2 => simp only [e2] at ef; cases ef
            | ok s1 h2 =>
              simp only [e2] at ef
              intro H4 ρ4 J1 x4 w4 r4
              unfold clAsk
              refine loop_any (B := fun x H' Nx1 => g1 x (L2.wipe σ2 vs1) H' fun σ3 H5 => L2.wipe σ3 vs1 = L2.wipe σ2 vs1 ∧ tIT K T W0 mc1 σ3 H5 fun b H6 => if b = true then dEmit dA (L2.tTup (tIs K T W0 mks)) (tI K T W0 mv) σ3 H6 Nx1 else Nx1 H6)
                (fun H ρ h x v h3 Nx xr5 hw hD rx ef hn => turn_du sg1 hk1 hmo1 ((re.wipe vs1).mono (x3.trans (x4.trans xr5))) hw hD rx ef fun H' ρ' x' w' d' => hn H' ρ' (xr5.trans x') x' w' d') r4 w4 ((x3.trans x4).get hD) ef fun H5 ρ5 xr5 hw5 hD5 => ?_
              exact hn H5 ρ5 (xr.trans (x3.trans (x4.trans xr5))) (x3.trans (x4.trans xr5)) hw5 hD5
        | _ => simp only [eg] at ef; cases ef
  · cases s with
    | fix xs => obtain ⟨P, hP, S⟩ := r1; exact ⟨P, S.keep _ _ _ _ hP xa, S⟩
    | live k => obtain ⟨a, ha, e⟩ := r1; exact ⟨a, xa.get ha, e⟩
  · exact PostV.gc (n := h1.length) w1.len (res := .ok (.ref h1.length) hE) p1 H ρ (.ref dA) (xa.trans xr) hw (by unfold RelD; exact ⟨dA, rfl, hD⟩)
theorem den_dcompU {m : Bool} {es : List Expr} {kn : Nat} {kp : Pos} {vx tg iter tg1 iter1 : Expr} {ifs ifs1 : List Expr} {scope : Scope} {own : List (Str × Nat)} {vs vs1 : List Nat} {pos : Pos} {mi mi1 : MI} {mt mt1 : MTg} {g g1 : TG} {mc mc1 : M} {mks : Ms} {mv : M} (hu : X.A.units < cLine) (hc : X.calm = true) (hN : X.N.Nodup) (hi : PI X tg iter (tG X.K T W (SrcRel X.K T) mi)) (ok : BlkOk X.N X.env.scope scope own) (hvs : own.map (·.2) = vs) (hv : ∀ i ∈ vs1, i ∈ vs)
    (hg : InBlk X scope fun Y => PTg Y T tg mt g) (hk : Keeps g vs) (hmo : MonoG g) (ht : InBlk X scope fun Y => PTs Y ifs (tIT X.K T W0 mc))
    (hi1 : InBlk X scope fun Y => PI Y tg1 iter1 (tG X.K T W0 (SrcRel X.K T) mi1)) (hg1 : InBlk X scope fun Y => PTg Y T tg1 mt1 g1) (hk1 : Keeps g1 vs1) (hmo1 : MonoG g1) (ht1 : InBlk X scope fun Y => PTs Y ifs1 (tIT X.K T W0 mc1))
    (hkx : InBlk X scope fun Y => PA Y es (tIs X.K T W0 mks)) (hvx : InBlk X scope fun Y => PE Y vx (tI X.K T W0 mv)) (hs : ∀ x, foldedSetIterable iter X.env x = pure x) (hs1 : ∀ env x, foldedSetIterable iter1 env x = pure x) :
    PE X (.DictComp (.Tuple es kn kp) vx [⟨tg, iter, ifs, 0⟩, ⟨tg1, iter1, ifs1, 0⟩] scope pos) (tI X.K T W (mDCompU m mi mt mc mi1 mt1 mc1 mks mv vs vs1)) := by
  subst hvs
  exact PE.imp (pe_dc2 (.inr rfl) hu hc hN hi ok hv (fun s H C cl fp => (hg s H C cl fp).1) ht hi1 (fun s H C cl fp => (hg1 s H C cl fp).1) ht1 (fun s H C cl fp => pe_tup (hkx s H C cl fp)) hvx hs hs1) fun σ H Q q => read_dcompU (hg X.s_0 H 0 [] []).2 hk hmo (hg1 X.s_0 H 0 [] []).2 hk1 hmo1 q
end
end Iv

set_option maxRecDepth 100000
namespace Iv
open PySem PySem.Spec PyProof.Rows L2
open PySem.W (AllAlike Sortable alike KeyedOut KeepsBut)
/-! sorted(xs, key=f), f a def that changes nothing: the frames on the stack may change their slots -/
def KeepF (F : List Addr) (h h' : Heap) : Prop := ∀ b o, h.get? b = some o → (b ∈ F → ∃ sl, h'.get? b = some { o with slots := sl }) ∧ (b ∉ F → h'.get? b = some o)
theorem KeepF.refl (F : List Addr) (h : Heap) : KeepF F h h := fun b o e => ⟨fun _ => ⟨o.slots, e⟩, fun _ => e⟩
theorem KeepF.trans {F : List Addr} {h h1 h2 : Heap} (k : KeepF F h h1) (l : KeepF F h1 h2) : KeepF F h h2 := fun b o e =>
  ⟨fun hb => by obtain ⟨s1, e1⟩ := (k b o e).1 hb; obtain ⟨s2, e2⟩ := (l b _ e1).1 hb; exact ⟨s2, e2⟩, fun hb => (l b o ((k b o e).2 hb)).2 hb⟩
theorem KeepF.of {F : List Addr} {h h' : Heap} (k : ∀ b o, h.get? b = some o → h'.get? b = some o) : KeepF F h h' := fun b o e => ⟨fun _ => ⟨o.slots, k b o e⟩, fun _ => k b o e⟩
theorem KeepF.any {F : List Addr} {h h' : Heap} (k : KeepF F h h') {b : Addr} {o : Obj} (e : h.get? b = some o) : ∃ sl, h'.get? b = some { o with slots := sl } := by
  by_cases hb : b ∈ F
  · exact (k b o e).1 hb
  · exact ⟨o.slots, (k b o e).2 hb⟩
theorem KeepF.put {F : List Addr} {h h' h'' : Heap} {c : Addr} (k : KeepF F h h') (hc : h.get? c = none) (s : ∀ b, b ≠ c → h''.get? b = h'.get? b) : KeepF F h h'' := fun b o e => by
  have hb : b ≠ c := fun z => by rw [z, hc] at e; cases e
  rw [s b hb]
  exact k b o e
mutual
theorem reads_sl {F : List Addr} {h h' : Heap} (k : KeepF F h h') : ∀ {v : Value} {d : PyData} {as : List Addr}, Reads h v d as → Reads h' v d as
  | _, _, _, .none => .none
  | _, _, _, .bool b => .bool b
  | _, _, _, .int i t => .int i t
  | _, _, _, .str x t => .str x t
  | _, _, _, .list e c q r => by obtain ⟨sl, e'⟩ := k.any e; exact .list e' c q (readsAll_sl k r)
  | _, _, _, .tuple e c q r => by obtain ⟨sl, e'⟩ := k.any e; exact .tuple e' c q (readsAll_sl k r)
  | _, _, _, .dict e c q r1 r2 => by obtain ⟨sl, e'⟩ := k.any e; exact .dict e' c q (readsAll_sl k r1) (readsAll_sl k r2)
theorem readsAll_sl {F : List Addr} {h h' : Heap} (k : KeepF F h h') : ∀ {vs : List Value} {ds : List PyData} {as : List Addr}, ReadsAll h vs ds as → ReadsAll h' vs ds as
  | _, _, _, .nil => .nil
  | _, _, _, .cons r rs => .cons (reads_sl k r) (readsAll_sl k rs)
end
/-- the heap of before with the slots of now -/
theorem mid_heap (S : Addr → Array (Option Value)) (h : Heap) : ∀ F : List Addr, ∃ g : Heap, ∀ b, g.get? b = (h.get? b).map fun o => if b ∈ F then { o with slots := S b } else o
  | [] => ⟨h, fun b => by cases h.get? b <;> simp⟩
  | L :: F => by
    obtain ⟨g, hg⟩ := mid_heap S h F
    refine ⟨g.update L fun o => { o with slots := S L }, fun b => ?_⟩
    by_cases hb : L = b
    · subst hb
      cases e : h.get? L with
      | none =>
        have e1 : g.get? L = none := by rw [hg, e]; rfl
        have := Heap.get?_update_isSome g L (fun o => { o with slots := S L }) fun o => rfl
        rw [e1] at this
        cases e2 : (g.update L fun o => { o with slots := S L }).get? L with
        | none => rfl
        | some o => rw [e2] at this; cases this
      | some o =>
        obtain ⟨o', e1, ho⟩ : ∃ o', g.get? L = some o' ∧ ({ o' with slots := S L } : Obj) = { o with slots := S L } := by
          rw [hg, e, Option.map_some]
          refine ⟨_, rfl, ?_⟩
          split <;> rfl
        have hf : ({ o' with slots := S L } : Obj).isFreed = false := by
          rw [ho]
          have := (Heap.get?_some_iff.mp e).2
          obtain ⟨c, d, q, z⟩ := o
          cases q <;> first | rfl | cases this
        rw [Heap.get?_update_self _ e1 hf, ho, Option.map_some, if_pos List.mem_cons_self]
    · rw [Heap.get?_update_other _ _ hb, hg]
      cases h.get? b with
      | none => rfl
      | some o => simp [Ne.symm hb]
open PySem.Calls in
section
variable {prog : Program} {w : World} {A : Around} {s : Shared} {a kS : Addr} {vs : List Value} {e1 : Nat} {f : Value} {F : List Addr} {h₀ : Heap} {kz : List PyData}
/-- a call that keeps all but the frames' slots, and gives such a key -/
def KeyF (F : List Addr) (k : PyData) (s1 : Shared) (v : Value) (s2 : Shared) : Prop := s2.os = s1.os ∧ AllBare s2.gens ∧ KeepF F s1.heap s2.heap ∧ Reads s2.heap v k []
theorem keys_go {P : PySem.Fin → Shared → Prop} {E : Value → Shared → Prop} (bare : AllBare s.gens) (kp : KeepF F h₀ s.heap) (inF : ∀ b ∈ F, h₀.get? b ≠ none) (hS : h₀.get? kS = none) (hA : h₀.get? a = none) (nk : s.heap.get? kS = some (seqObj "list" #[] 0)) (na : s.heap.get? a = some (seqObj "list" #[] e1)) (hka : kS ≠ a)
    (hlen : kz.length = vs.length) (hZ : vs.length ≤ sizeLine) (hal : AllAlike kz) (hsk : Sortable kz) (hu : ∀ d, d ∈ kz → A.units + d.depth < cLine)
    (turn : ∀ (i : Nat) (v : Value) (k : PyData), vs[i]? = some v → kz[i]? = some k → ∀ t : Shared, t.os = s.os → AllBare t.gens → KeepF F h₀ t.heap → wpAny (model prog w) A (call f [v]) (KeyF F k t) (fun _ _ => False) t)
    (fin : ∀ (t : Shared) out c, t.os = s.os → AllBare t.gens → KeepF F h₀ t.heap → t.heap.get? a = some (seqObj "list" (List.toArray out) c) → KeyedOut false kz vs out → P (.done (.ret .none)) t) :
    wpAny (model prog w) A (ksk_rest a f false vs.toArray e1 (.ref kS)) P E s := by
  have outF : ∀ {c : Addr}, h₀.get? c = none → c ∉ F := fun {c} hc z => inF c z hc
  unfold ksk_rest
  refine wpAny_bind (wpAny_rule ?_)
  first
    | rw [List.forIn_toArray]
    | (rw [← Array.forIn_toList]; simp only [List.toList_toArray])
  refine wpAny_bind (ksk_fold (fun i t => ∃ ks c, t.os = s.os ∧ AllBare t.gens ∧ KeepF F h₀ t.heap ∧ t.heap.get? kS = some (seqObj "list" ks c) ∧ t.heap.get? a = some (seqObj "list" #[] e1) ∧ PySem.W.EachIs (fun v k => Reads t.heap v k [] ∧ alike k k = true) ks.toList (kz.take i)) vs 0 s
    ⟨#[], 0, rfl, bare, kp, nk, na, by rw [List.take_zero]; exact .nil⟩ ?_ ?_)
  · rintro j x t hx ⟨ks, c, os, gb, kg, gS, gA, each⟩
    rw [Nat.zero_add] at each ⊢
    have hj : j < vs.length := (List.getElem?_eq_some_iff.mp hx).1
    obtain ⟨k, ek⟩ : ∃ k, kz[j]? = some k := ⟨_, List.getElem?_eq_getElem (hlen ▸ hj)⟩
    have kk : alike k k = true := hal k (List.mem_of_getElem? ek) k (List.mem_of_getElem? ek)
    have few : ks.size ≤ vs.length := by
      have l := each.length
      rw [Array.length_toList, List.length_take] at l
      omega
    refine wpAny_bind (wpAny_attempt (wpAny_mono (turn j x k hx ek t os gb kg) (fun v t2 ⟨os2, gb2, k2, rd⟩ => ?_) fun _ _ z => z.elim))
    have S2 := (k2 kS _ gS).2 (outF hS)
    have A2 := (k2 a _ gA).2 (outF hA)
    have sm := Heap.SameBut.update t2.heap kS (Obj.mapSeq (·.push v))
    obtain ⟨c3, S3⟩ : ∃ c3, (t2.heap.update kS (Obj.mapSeq (·.push v))).get? kS = some (seqObj "list" (ks.push v) c3) := ⟨_, get?_update_seq S2 (·.push v)⟩
    refine wpAny_bind (listUpdate_at S2 rfl ?_ (Nat.le_trans few hZ) (Nat.le_trans (Nat.le_of_eq (Array.size_push ..)) (Nat.succ_le_succ (Nat.le_trans few hZ))))
    have go : ∀ (u : Value) (d : PyData), Reads t2.heap u d [] ∧ alike d d = true → Reads (t2.heap.update kS (Obj.mapSeq (·.push v))) u d [] ∧ alike d d = true := fun u d q =>
      ⟨PySem.W.Reads.keepBut (a := kS) (fun b o hb e => (sm.2 b hb).trans e) (fun o e => by rw [S2] at e; rw [← Option.some.inj e]) d u [] q.2 q.1 (by simp), q.2⟩
    refine wpAny_pure ⟨rfl, ks.push v, c3, os2.trans os, gb2, (kg.trans k2).put hS sm.2, S3, (sm.2 a hka.symm).trans A2, ?_⟩
    rw [show (ks.push v).toList = ks.toList ++ [v] by simp, show kz.take (j + 1) = kz.take j ++ [k] by rw [List.take_add_one, ek]; simp]
    exact PySem.W.each_snoc (R := fun (u : Value) (d : PyData) => Reads (t2.heap.update kS (Obj.mapSeq (·.push v))) u d [] ∧ alike d d = true) (go v k ⟨rd, kk⟩) (each.mono fun u d q => go u d ⟨reads_sl k2 q.1, q.2⟩)
  · rintro t ⟨ks, c, os, gb, kg, gS, gA, each⟩
    have all : PySem.W.EachIs (fun v k => ∃ as, Reads t.heap v k as) ks.toList kz := by
      rw [List.take_of_length_le (by omega)] at each
      exact each.mono fun v k q => ⟨[], q.1⟩
    have size : ks.size = vs.length := by
      have l := all.length
      rw [Array.length_toList] at l
      omega
    refine wpAny_bind (listItems_at gS rfl ?_)
    obtain ⟨m, hm⟩ := mid_heap (fun b => ((t.heap.get? b).map (·.slots)).getD #[]) h₀ F
    have km : KeepsBut a m t.heap := fun b o _ e => by
      rw [hm b] at e
      obtain ⟨o₀, e0, rfl⟩ := Option.map_eq_some_iff.mp e
      by_cases hb : b ∈ F
      · obtain ⟨sl, e2⟩ := (kg b o₀ e0).1 hb
        rw [e2, if_pos hb]; rfl
      · rw [if_neg hb]; exact (kg b o₀ e0).2 hb
    refine PySem.W.keyH_end (κ := PySem.W.dataKind t.heap kz) (h₁ := m) km (by rw [hm kS, hS]; rfl) gS gA hka (PySem.W.SortsAt.data (s := t) all hal hsk hu) size hZ fun h3 tk3 c3 k3 n3 => fin { t with heap := h3, toks := tk3 } _ c3 os gb (fun b o e => ?_) n3 ⟨t.heap, ks.toList, hal, rfl, all⟩
    have nb : b ≠ a := fun z => by rw [z, hA] at e; cases e
    refine ⟨fun hb => ⟨((t.heap.get? b).map (·.slots)).getD #[], k3 b _ nb ?_⟩, fun hb => k3 b _ nb ?_⟩
    · rw [hm b, e, Option.map_some, if_pos hb]
    · rw [hm b, e, Option.map_some, if_neg hb]
end
section
variable {prog : Program} {w : World} {A : Around} {E : Value → Shared → Prop} {s : Shared} {vs : List Value} {q : Addr} {F : List Addr} {kz : List PyData}
theorem sorted_keyF {l : Addr} {Q : Value → Shared → Prop} (bare : AllBare s.gens) (inF : ∀ b ∈ F, s.heap.get? b ≠ none) (hl : s.heap.IsList l vs.toArray) (hlen : kz.length = vs.length) (hZ : vs.length ≤ sizeLine) (hal : AllAlike kz) (hsk : Sortable kz) (hu : ∀ d, d ∈ kz → A.units + 2 + d.depth < cLine)
    (turn : ∀ (i : Nat) (v : Value) (k : PyData), vs[i]? = some v → kz[i]? = some k → ∀ t : Shared, t.os = s.os → AllBare t.gens → KeepF F s.heap t.heap → wpAny (model prog w) A.in1.in1 (call (.ref q) [v]) (KeyF F k t) (fun _ _ => False) t)
    (fin : ∀ (t : Shared) out c, t.os = s.os → AllBare t.gens → KeepF F s.heap t.heap → t.heap.get? (s.heap.objs.size + 1) = some (seqObj "list" (List.toArray out) c) → KeyedOut false kz vs out → Q (.ref (s.heap.objs.size + 1)) t) :
    wpAny (model prog w) A (call (.builtin "sorted") [.ref l] [(Str.ofString "key", .ref q)]) Q E s := by
  refine PySem.W.sorted_of_sort hl hZ (PyProof.Rows.ksk_s1 _ _) (fun _ => PyProof.Rows.ksk_l1 _ _) fun E' => ?_
  rw [PyProof.Rows.ksk_t1]
  have at1 := PySem.W.copyHeap_at s.heap vs
  have new1 : s.heap.get? (s.heap.objs.size + 1) = none := Heap.get?_none_of_le (Nat.le_succ _)
  obtain ⟨g, eg⟩ : ∃ g, g = PySem.W.copyHeap s.heap vs := ⟨_, rfl⟩
  have old : ∀ b o, s.heap.get? b = some o → g.get? b = some o := fun b o e => by rw [eg]; exact PySem.W.copyHeap_old e
  rw [← eg] at at1 ⊢
  have ltg : s.heap.objs.size + 1 < g.objs.size := Heap.lt_size at1
  unfold ksk_tree
  refine wpAny_bind (listItems_at at1 rfl ?_)
  refine wpAny_bind (listUpdate_at at1 rfl ?_ (by rw [List.size_toArray]; exact hZ) (Nat.zero_le _))
  obtain ⟨c1, at2⟩ : ∃ c1, (g.update (s.heap.objs.size + 1) (Obj.mapSeq fun _ => (#[] : Array Value))).get? (s.heap.objs.size + 1) = some (seqObj "list" #[] c1) := ⟨_, get?_update_seq at1 fun _ => #[]⟩
  refine wpAny_bind (seqEpoch_at at2 rfl (wpAny_bind (wpAny_newTuple ?_ (by show vs.length ≤ _; exact hZ))))
  refine wpAny_bind (wpAny_newList (wpAny_holding ?_) (Nat.zero_le _))
  have sz : ((g.update (s.heap.objs.size + 1) (Obj.mapSeq fun _ => (#[] : Array Value))).push (seqObj "tuple" vs.toArray 0)).objs.size = g.objs.size + 1 := by rw [size_push', Heap.size_update]
  refine keys_go (h₀ := s.heap) (F := F) (kz := kz) (s := { s with heap := ((g.update (s.heap.objs.size + 1) (Obj.mapSeq fun _ => (#[] : Array Value))).push (seqObj "tuple" vs.toArray 0)).push (seqObj "list" #[] 0) }) (kS := ((g.update (s.heap.objs.size + 1) (Obj.mapSeq fun _ => (#[] : Array Value))).push (seqObj "tuple" vs.toArray 0)).objs.size)
    bare (KeepF.of fun b o e => ?_) inF (Heap.get?_none_of_le (by rw [sz]; omega)) new1 (Heap.get?_push_size _ rfl) (Heap.get?_push_of_some _ (Heap.get?_push_of_some _ at2)) (by have h2 := ltg; intro z; rw [z] at sz; omega) hlen hZ hal hsk hu turn fun t out c os gb k n ko => ⟨rfl, fin t out c os gb k n ko⟩
  have nb : b ≠ s.heap.objs.size + 1 := fun z => by rw [z, new1] at e; cases e
  exact Heap.get?_push_of_some _ (Heap.get?_push_of_some _ ((Heap.get?_update_ne _ _ _ _ nb).trans (old b o e)))
end
end Iv

set_option maxRecDepth 100000
namespace Iv
open PySem PySem.Spec PyProof.Rows L2
/-! the call of a key function: all that stands is sealed -/
def sealV (h : Heap) (a : Addr) (o : Obj) : HO → HO
  | .tup xs => .frz o (.tup xs)
  | .frz _ (.tup xs) => .frz o (.tup xs)
  | _ => .frz o (.ext fun h' => h'.get? a = some o)
def sealA (H : Hp) (h : Heap) : Hp := fun a => match H a with
  | none => none
  | some u => match h.get? a with
    | none => none
    | some o => some (sealV h a o u)
section
variable {P : Program} {w : World} {K : PySem.W.Frag} {H : Hp} {h h' : Heap} {F : List Addr}
theorem sealA_none {a : Addr} (e : H a = none) : sealA H h a = none := by unfold sealA; rw [e]
theorem hok_some (ok : HOk P w H h) {a : Addr} {u : HO} (e : H a = some u) : ∃ o, h.get? a = some o := by
  have lt := ok.lt e
  have q := ok a u e
  cases u with
  | lst xs => obtain ⟨_, _, _, _, z⟩ := q; exact ⟨_, z⟩
  | tup xs => obtain ⟨_, _, _, o, z, _⟩ := q; exact ⟨o, z⟩
  | dK kvs => obtain ⟨_, _, _, _, o, _, _, z, _⟩ := q; exact ⟨o, z⟩
  | dT kvs => obtain ⟨_, _, _, _, o, _, _, z, _⟩ := q; exact ⟨o, z⟩
  | set S n => obtain ⟨o, _, _, _, z, _⟩ := q; exact ⟨o, z⟩
  | ins C dx fs => obtain ⟨_, _, _, z, _⟩ := q; exact ⟨_, z⟩
  | own y => exact q
  | xd fs => obtain ⟨_, ⟨o, _, _, z, _⟩, _⟩ := q; exact ⟨o, z⟩
  | rng lo hi => obtain ⟨_, _, _, z⟩ := q; exact ⟨_, z⟩
  | frz ob u => exact ⟨ob, q.1⟩
  | tbl ps => exact ⟨_, q⟩
  | met f y => exact ⟨_, q⟩
  | ext φ => exact q.2.1
theorem sealA_some (ok : HOk P w H h) {a : Addr} {u : HO} (e : H a = some u) : ∃ o, h.get? a = some o ∧ sealA H h a = some (sealV h a o u) := by
  obtain ⟨o, z⟩ := hok_some ok e
  exact ⟨o, z, by unfold sealA; rw [e]; dsimp only; rw [z]⟩
theorem sealV_frz (h : Heap) (a : Addr) (o : Obj) (u : HO) : ∃ v, sealV h a o u = .frz o v := by
  unfold sealV
  split <;> exact ⟨_, rfl⟩
theorem sealA_ok (ok : HOk P w H h) (kp : KeepF F h h') (hF : ∀ b ∈ F, H b = none) : HOk P w (sealA H h) h' := fun a x e => by
  cases eu : H a with
  | none => rw [sealA_none eu] at e; cases e
  | some u =>
    obtain ⟨o, z, es⟩ := sealA_some ok eu
    rw [es] at e
    cases e
    have na : a ∉ F := fun hb => by rw [hF a hb] at eu; cases eu
    have z' := (kp a o z).2 na
    have tp : ∀ xs, ObjOk P w H h a (.tup xs) → ObjOk P w (sealA H h) h' a (.frz o (.tup xs)) := fun xs q => by
      obtain ⟨l, its, r, o', g, c⟩ := q
      rw [z] at g
      cases g
      exact ⟨z', l, its, r, o, z', c⟩
    unfold sealV
    split
    · exact tp _ (ok a _ eu)
    · exact tp _ (ok a _ eu).2
    · exact ⟨z', z', ⟨o, z'⟩, fun h1 h2 p k => k o p⟩
theorem sealA_tup (ok : HOk P w H h) {a : Addr} {xs : List V} (s : SqT K H a xs) : SqT K (sealA H h) a xs := by
  rcases s with (s | ⟨o', s⟩) | s
  · obtain ⟨o, _, es⟩ := sealA_some ok s
    exact .inl (.inr ⟨o, es⟩)
  · obtain ⟨o, _, es⟩ := sealA_some ok s
    exact .inl (.inr ⟨o, es⟩)
  · exact .inr s
mutual
theorem sealA_rel {T T' : Tb} {ρ : List Addr} (ok : HOk P w H h) {d : D} : ∀ {v : V}, noL d = true → RelD K T H ρ d v → RelD K T' (sealA H h) [] d v := by
  intro v hl q
  match d with
  | .non => unfold RelD at q ⊢; exact q
  | .bl b => unfold RelD at q ⊢; exact q
  | .int i => unfold RelD at q ⊢; exact q
  | .str y => unfold RelD at q ⊢; exact q
  | .tup ds =>
    unfold noL at hl
    unfold RelD at q ⊢
    obtain ⟨a, vs, e, s, q⟩ := q
    exact ⟨a, vs, e, sealA_tup ok s, sealA_rels ok hl q⟩
  | .lst ds => unfold noL at hl; cases hl
  | .scr ds => unfold noL at hl; cases hl
  | .dct ks ds => unfold noL at hl; cases hl
  | .dcu ks ds => unfold noL at hl; cases hl
  | .ref k => unfold noL at hl; cases hl
  | .ty n => unfold noL at hl; cases hl
  | .own n => unfold noL at hl; cases hl
  | .exc n => unfold noL at hl; cases hl
  | .fn n => unfold noL at hl; cases hl
  | .clo j => unfold noL at hl; cases hl
theorem sealA_rels {T T' : Tb} {ρ : List Addr} (ok : HOk P w H h) {ds : List D} : ∀ {vs : List V}, noLs ds = true → RelDs K T H ρ ds vs → RelDs K T' (sealA H h) [] ds vs := by
  intro vs hl q
  match ds with
  | [] => unfold RelDs at q ⊢; exact q
  | d :: ds =>
    unfold noLs at hl
    rw [Bool.and_eq_true] at hl
    unfold RelDs at q ⊢
    obtain ⟨v, s, e, q1, q2⟩ := q
    exact ⟨v, s, e, sealA_rel ok hl.1 q1, sealA_rels ok hl.2 q2⟩
end
mutual
/-- what reads off the heap -/
theorem rel_reads {T : Tb} {ρ : List Addr} (ok : HOk P w H h) (kin : K.In h) {d : D} : ∀ {v : V} {u : Value} {p : PyData}, noL d = true → toPy d = some p → RelD K T H ρ d v → L2.RelV v u → Reads h u p [] := by
  intro v u p hl e q r
  match d with
  | .non => cases e; unfold RelD at q; subst q; cases r; exact .none
  | .bl b => cases e; unfold RelD at q; subst q; cases r; exact .bool b
  | .int i => cases e; unfold RelD at q; subst q; obtain ⟨t, rfl⟩ := r; exact .int i t
  | .str y => cases e; unfold RelD at q; subst q; obtain ⟨t, rfl⟩ := r; exact .str y t
  | .tup ds =>
    unfold noL at hl
    unfold RelD at q
    obtain ⟨a, vs, rfl, s, q⟩ := q
    cases r
    unfold toPy at e
    obtain ⟨ps, e1, rfl⟩ := map_some e
    have tp : ∃ (its : List Value) (o : Obj) (n : Nat), Vals vs its ∧ h.get? a = some o ∧ o.cls = .type "tuple" ∧ o.data = .seq its.toArray n := by
      rcases s with (s | ⟨o', s⟩) | ⟨o, its, n, lk, c, dt, _, r⟩
      · obtain ⟨_, its, r, o, g, c, n, dt⟩ := ok a _ s; exact ⟨its, o, n, r, g, c, dt⟩
      · obtain ⟨_, _, its, r, o, g, c, n, dt⟩ := ok a _ s; exact ⟨its, o, n, r, g, c, dt⟩
      · exact ⟨its.toList, o, n, r, kin a o lk, c, by simpa using dt⟩
    obtain ⟨its, o, n, rv, g, c, dt⟩ := tp
    exact .tuple g c dt (by rw [List.toList_toArray]; exact rel_readsAll ok kin hl e1 q rv)
  | .lst ds => unfold noL at hl; cases hl
  | .scr ds => unfold noL at hl; cases hl
  | .dct ks ds => unfold noL at hl; cases hl
  | .dcu ks ds => unfold noL at hl; cases hl
  | .ref k => unfold noL at hl; cases hl
  | .ty n => unfold noL at hl; cases hl
  | .own n => unfold noL at hl; cases hl
  | .exc n => unfold noL at hl; cases hl
  | .fn n => unfold noL at hl; cases hl
  | .clo j => unfold noL at hl; cases hl
theorem rel_readsAll {T : Tb} {ρ : List Addr} (ok : HOk P w H h) (kin : K.In h) {ds : List D} : ∀ {vs : List V} {us : List Value} {ps : List PyData}, noLs ds = true → toPys ds = some ps → RelDs K T H ρ ds vs → Vals vs us → ReadsAll h us ps [] := by
  intro vs us ps hl e q r
  match ds with
  | [] => cases e; unfold RelDs at q; subst q; cases r; exact .nil
  | d :: ds =>
    unfold noLs at hl
    rw [Bool.and_eq_true] at hl
    unfold RelDs at q
    obtain ⟨v, s, rfl, q1, q2⟩ := q
    unfold toPys at e
    split at e
    · rename_i p ps' e1 e2
      cases e
      cases r with
      | cons r1 r2 => exact .cons (as := []) (bs := []) (rel_reads ok kin hl.1 e1 q1 r1) (rel_readsAll ok kin hl.2 e2 q2 r2)
    · cases e
end
end
/-- the key that a def gives, if it is plain data -/
def keyD (φ : Fm) (d : D) : Option PyData := match gcR false 0 (φ [d] []) with
  | .ok k _ => if noL k then toPy k else none
  | _ => none
theorem key_call {P : Program} {w : World} {K : PySem.W.Frag} {mg : Str → Option Value} {base : Heap} {A : Around} {outer : List PySem.Env} {s : Shared} {H : Hp} {T T' : Tb} {ρ : List Addr} {k : Nat} {f : Addr} {fd : FuncData} {ps : List Str} {φ : Fm} {d : D} {v : V} {u : Value} {kd : PyData} {t : Shared}
    (F : FnOk P w K mg base (L2.CX P w) k f fd ps (spI K T φ 1)) (ht : T.tbs = []) (hb : BindG fd ps 1 [] [0]) (hr : Room k A) (e0 : Env0 P w K mg base A outer s H) (gb : AllBare t.gens) (kp : KeepF (frs outer) s.heap t.heap) (bsz : base.objs.size ≤ t.heap.objs.size) (rd : RelD K T' H ρ d v) (nd : noL d = true) (rv : L2.RelV v u) (ek : keyD φ d = some kd) :
    wpAny (model P w) A (call (.ref f) [u]) (KeyF (frs outer) kd t) (fun _ _ => False) t := by
  have hF : ∀ b ∈ frs outer, H b = none := e0.frf
  have hok := sealA_ok e0.hok kp hF
  have e1 : Env0 P w K mg base A outer t (sealA H s.heap) := by
    refine ⟨e0.frames, e0.mod, fun b o e => ?_, bsz, Heap.FunFrames.of_keeps (fun b o e _ => ?_) e0.funs, fun b hb => sealA_none (hF b hb), hok, gb⟩
    · obtain ⟨g, n⟩ := e0.bs b o e
      refine ⟨(kp b o g).2 fun z => ?_, sealA_none n⟩
      have := (e0.funs.mem z).1
      rw [e] at this; cases this
    · obtain ⟨sl, q⟩ := kp.any e
      exact ⟨_, q, rfl⟩
  unfold keyD at ek
  have run := F.run A outer t (sealA H s.heap) ⟨[u], []⟩ [u] [v] (fun v' H' => ∃ d' ρ', noL d' = true ∧ toPy d' = some kd ∧ RelD K T H' ρ' d' v') (fun _ _ _ => False) hr e1 (.of_eq (hb.2 [u] [] rfl rfl)) (.cons rv .nil)
    ⟨rfl, [], [d], [], ⟨rfl, List.nodup_nil, fun n ob a e => by simp at e, fun p hp => by rw [ht] at hp; cases hp⟩, by unfold RelDs; exact ⟨v, [], rfl, sealA_rel e0.hok nd rd, by unfold RelDs; rfl⟩, ?_⟩
  · refine wpAny_call (codeAny_mono run fun r s' hc => ?_)
    cases r with
    | error e =>
      obtain ⟨a, B, H', cls, dd, rfl, fl, hok', ub, na, os, ag, hE⟩ := hc
      exact hE.elim
    | ok fl =>
      cases fl with
      | ret u' =>
        obtain ⟨v', H', os, ag, un, hok', rv', d', ρ', n', e', r'⟩ := hc
        have kin : K.In s'.heap := e1.mod.kin.keeps fun b o e => by
          obtain ⟨g, n⟩ := e1.bs b o e
          refine un.keep b o g n (fun z => ?_) (by simp)
          have := (e1.funs.mem z).1
          rw [e] at this; cases this
        refine ⟨os, ag, fun b o e => ?_, rel_reads hok' kin n' e' r' rv'⟩
        cases es : sealA H s.heap b with
        | none => exact ⟨fun hb => un.slot b o e es hb (by simp), fun hb => un.keep b o e es hb (by simp)⟩
        | some x =>
          have nb : b ∉ frs outer := fun z => by rw [sealA_none (hF b z)] at es; cases es
          refine ⟨fun z => absurd z nb, fun _ => ?_⟩
          cases eu : H b with
          | none => rw [sealA_none eu] at es; cases es
          | some u0 =>
            obtain ⟨o1, z1, q1⟩ := sealA_some e0.hok eu
            obtain ⟨y, ey⟩ := sealV_frz s.heap b o1 u0
            rw [ey] at q1
            have eo : o1 = o := by
              have := (hok b _ q1).1
              rw [e] at this
              exact (Option.some.inj this).symm
            subst eo
            exact (hok' b _ (un.frzs b o1 y q1)).1
      | next => exact False.elim hc
      | brk => exact False.elim hc
      | cont => exact False.elim hc
  · refine PostV.gc (m := false) (n := 0) rfl ?_
    split at ek
    · rename_i k' h' eg
      rw [eg]
      split at ek
      · rename_i nk
        exact fun H' ρ' v' x R q => ⟨k', ρ', nk, ek, q⟩
      · cases ek
    · cases ek
end Iv

set_option maxRecDepth 100000
namespace Iv
open PySem PySem.Spec PyProof.Rows L2
open PySem.W (AllAlike Sortable alike KeyedOut EachIs dataLe)
/-! sorted(xs, key=f) as a value -/
def keyL (φ : Fm) : List D → Option (List PyData)
  | [] => some []
  | d :: ds => if noL d then match keyD φ d, keyL φ ds with
    | some k, some ks => some (k :: ks)
    | _, _ => none else none
def sortP (ks : List PyData) : Bool := (ks.all fun d => match d with | .tuple (_ :: _) => true | _ => false) || ks.all fun d => match d with | .int _ => true | .str _ => true | .bool _ => true | _ => false
def goodK (ks : List PyData) : Bool := sortP ks && (ks.all fun a => ks.all fun b => alike a b) && ks.all fun k => decide (k.depth ≤ 60)
def sortKD (m : Bool) (φ : Fm) (d : D) (h : Hs) : R D := match look h d with
  | .lst xs => match keyL φ xs with
    | some ks => if goodK ks && decide (xs.length ≤ most) then mkL m ((isort (dataLe false fun b : D × PyData => b.2) (xs.zip ks)).map (·.1)) h else .bad
    | none => .bad
  | _ => .bad
def mSortK (m : Bool) (φ : Fm) (ma : M) : M := fun env h => (ma env h).bind (sortKD m φ)
theorem keyL_len {φ : Fm} : ∀ {xs : List D} {ks : List PyData}, keyL φ xs = some ks → ks.length = xs.length := by
  intro xs
  induction xs with
  | nil => intro ks e; cases e; rfl
  | cons d ds ih =>
    intro ks e
    unfold keyL at e
    split at e
    · split at e
      · rename_i k ks' e1 e2
        cases e
        rw [List.length_cons, List.length_cons, ih e2]
      · cases e
    · cases e
theorem keyL_at {φ : Fm} : ∀ {xs : List D} {ks : List PyData} {i : Nat} {d : D} {k : PyData}, keyL φ xs = some ks → xs[i]? = some d → ks[i]? = some k → noL d = true ∧ keyD φ d = some k := by
  intro xs
  induction xs with
  | nil => intro ks i d k _ e _; simp at e
  | cons x xs ih =>
    intro ks i d k e e1 e2
    unfold keyL at e
    split at e
    · rename_i hn
      split at e
      · rename_i k' ks' ek eks
        cases e
        cases i with
        | zero => cases e1; cases e2; exact ⟨hn, ek⟩
        | succ i => exact ih (i := i) eks e1 e2
      · cases e
    · cases e
theorem sortP_ok {ks : List PyData} (h : sortP ks = true) : Sortable ks := by
  unfold sortP at h
  rw [Bool.or_eq_true] at h
  rcases h with h | h
  · left
    intro d hd
    have q := List.all_eq_true.mp h d hd
    split at q
    · exact ⟨_, _, rfl⟩
    · cases q
  · right
    intro d hd
    have q := List.all_eq_true.mp h d hd
    split at q
    · exact ⟨fun z => (nomatch z), fun _ z => (nomatch z)⟩
    · exact ⟨fun z => (nomatch z), fun _ z => (nomatch z)⟩
    · exact ⟨fun z => (nomatch z), fun _ z => (nomatch z)⟩
    · cases q
theorem each_vals {β : Type} {g : β → V} : ∀ {us : List Value} {bs : List β}, EachIs (fun u b => L2.RelV (g b) u) us bs → Vals (bs.map g) us := by
  intro us bs h
  induction h with
  | nil => exact .nil
  | cons h _ ih => exact .cons h ih
theorem vals_eachG {β : Type} {g : β → V} : ∀ {bs : List β} {us : List Value}, Vals (bs.map g) us → EachIs (fun u b => L2.RelV (g b) u) us bs
  | [], _, r => by cases r; exact .nil
  | b :: bs, _, r => by cases r with | cons h t => exact .cons h (vals_eachG t)
/-- the list sorted by such keys -/
def rSortK (K : PySem.W.Frag) (φ : Fm) (f : Addr) : List V → List V → Hp → VK → Prop := fun vs zs H Q => ∃ (T' : Tb) (ρ : List Addr) (a : Addr) (xs : List D) (ws : List V) (ks : List PyData), vs = [.ref a] ∧ zs = [.ref f] ∧ SqL K H a ws ∧ RelDs K T' H ρ xs ws ∧ keyL φ xs = some ks ∧ goodK ks = true ∧ xs.length ≤ most ∧
  ∀ p, H p = none → Q (.ref p) (upd H p (.lst (((ws.zip ks).mergeSort (dataLe false fun b : V × PyData => b.2)).map (·.1))))
theorem cr_sortK {X : Cx} {T : Tb} {k : Nat} {f : Addr} {fd : FuncData} {ps : List Str} {φ : Fm} (hu : X.A.units + 65 < cLine) (F : FnOk X.prog X.w X.K X.mg X.base (L2.CX X.prog X.w) k f fd ps (spI X.K T φ 1)) (ht : T.tbs = []) (hb : BindG fd ps 1 [] [0]) (hr : Room (k + 2) X.A) :
    CallRK X (.builtin "sorted") [Str.ofString "key"] (rSortK X.K φ f) := by
  intro pins s σ H vs zs us ws' Q I r rz h
  obtain ⟨T', ρ, a, xs, ws, ks, rfl, rfl, hs, rs, ek, gk, hl, q⟩ := h
  obtain rfl := Vals.ref1 r
  obtain ⟨u1, rfl, e1⟩ := vals1 rz
  obtain rfl : u1 = Value.ref f := e1
  obtain ⟨its, rv, pl, hz⟩ := I.list hs
  unfold goodK at gk
  rw [Bool.and_eq_true, Bool.and_eq_true] at gk
  obtain ⟨⟨g1, g2⟩, g3⟩ := gk
  have lk := keyL_len ek
  have lw : ws.length = its.length := rv.length
  have lx : xs.length = ws.length := rs.len
  have e0 := I.env0
  have inF : ∀ b ∈ frs X.stack, s.heap.get? b ≠ none := fun b hb z => by
    obtain ⟨_, o, e, _⟩ := e0.funs.mem hb
    rw [z] at e; cases e
  show wpAny (model X.prog X.w) X.A (call (.builtin "sorted") [.ref a] [(Str.ofString "key", .ref f)]) _ _ s
  refine sorted_keyF (F := frs X.stack) (kz := ks) I.bare inF pl.isList (by omega) (by omega) (fun d hd d' hd' => List.all_eq_true.mp (List.all_eq_true.mp g2 d hd) d' hd') (sortP_ok g1) (fun d hd => by have := of_decide_eq_true (List.all_eq_true.mp g3 d hd); omega) (fun i v kd ev ekd t os gb kp => ?_) fun t out c os gb kp at_ ko => ?_
  · obtain ⟨w, ew, rw⟩ : ∃ w, ws[i]? = some w ∧ L2.RelV w v := by
      have hi : i < ws.length := by rw [lw]; exact (List.getElem?_eq_some_iff.mp ev).1
      obtain ⟨u, eu, ru⟩ := rv.get (List.getElem?_eq_getElem hi)
      rw [ev] at eu
      cases eu
      exact ⟨_, List.getElem?_eq_getElem hi, ru⟩
    have hi : i < xs.length := by rw [lx]; exact (List.getElem?_eq_some_iff.mp ew).1
    obtain ⟨w', ew', rd⟩ := RelDs.get rs (List.getElem?_eq_getElem hi)
    rw [ew] at ew'
    cases ew'
    obtain ⟨nd, kd'⟩ := keyL_at ek (List.getElem?_eq_getElem hi) ekd
    refine key_call F ht hb (hr.in1).in1 e0.in1.in1 gb kp ?_ rd nd rw kd'
    obtain ⟨m, ⟨o, es, ep, ho, _⟩, _⟩ := I.loc
    obtain ⟨sl, ho'⟩ := kp.any ho
    exact Nat.le_trans I.ok.bsz (Nat.le_trans I.ok.above (Nat.le_of_lt (Heap.lt_size ho')))
  · have each := PySem.W.keyedOut_each (R := fun (u : Value) (b : V × PyData) => L2.RelV b.1 u) (bs := ws.zip ks) (fun b => b.2) (by rw [List.map_snd_zip (by omega)]; exact ko) (vals_eachG (g := fun b : V × PyData => b.1) (by rw [List.map_fst_zip (by omega)]; exact rv))
    have ov := each_vals (g := fun b : V × PyData => b.1) each
    have new1 : H (s.heap.objs.size + 1) = none := I.hok.fresh (Nat.le_succ _)
    have lt2 : ∀ {b : Addr} {o : Obj}, s.heap.get? b = some o → b ≠ s.heap.objs.size + 1 := fun e => Nat.ne_of_lt (Nat.lt_succ_of_lt (Heap.lt_size e))
    refine I.after ⟨.ref _, _, os, gb, ⟨fun b o e n hb _ => (kp b o e).2 hb, fun b o e n hb _ => (kp b o e).1 hb, fun b o e n _ => ?_, fun b o e _ => ?_, fun b ys e => ?_, fun b o u e => ?_, fun b ps e => ⟨#[], ?_⟩⟩, fun b u e => ?_, rfl, q _ new1⟩
    · rw [upd_ne (lt2 e)]; exact n
    · obtain ⟨sl, e'⟩ := kp.any e; exact ⟨_, e'⟩
    · rw [upd_ne (ne_of_none e new1)]; exact e
    · rw [upd_ne (ne_of_none e new1)]; exact e
    · rw [upd_ne (ne_of_none e new1), e]; simp
    · by_cases hb : b = s.heap.objs.size + 1
      · subst hb
        rw [upd_same] at e
        cases e
        refine ⟨?_, out, c, ov, at_⟩
        rw [List.length_map, List.length_mergeSort, List.length_zip]
        omega
      · rw [upd_ne hb] at e
        refine (I.hok b u e).stay (fun c v hc g => ?_) (fun c g => by rw [upd_ne (ne_of_none g new1)]; exact g) fun c ys g => by rw [upd_ne (ne_of_none g new1)]; exact g
        refine (kp c v g).2 fun z => ?_
        have n := e0.frf c z
        rcases hc with rfl | hc
        · rw [n] at e; cases e
        · rw [n] at hc; cases hc
theorem srt_rel {K : PySem.W.Frag} {T : Tb} {H : Hp} {ρ : List Addr} {xs : List D} {ws : List V} {ks : List PyData} (rs : RelDs K T H ρ xs ws) :
    RelDs K T H ρ ((isort (dataLe false fun b : D × PyData => b.2) (xs.zip ks)).map (·.1)) (((ws.zip ks).mergeSort (dataLe false fun b : V × PyData => b.2)).map (·.1)) := by
  obtain ⟨ts, e1, e2, ht⟩ := rel_zip rs
  subst e1 e2
  rw [isort_eq (le_total fun b : D × PyData => b.2), List.zip_map_left, List.zip_map_left]
  have s1 := PySem.W.sort_maps (r := fun a b => dataLe false (fun c : (D × V) × PyData => c.2) a b) (s := dataLe false fun b : D × PyData => b.2) (l := ts.zip ks) (Prod.map (·.1) id) fun a _ b _ => rfl
  have s2 := PySem.W.sort_maps (r := fun a b => dataLe false (fun c : (D × V) × PyData => c.2) a b) (s := dataLe false fun b : V × PyData => b.2) (l := ts.zip ks) (Prod.map (·.2) id) fun a _ b _ => rfl
  rw [← s1, ← s2, List.map_map, List.map_map]
  have z := zip_rel (K := K) (T := T) (H := H) (ρ := ρ) (ts := ((ts.zip ks).mergeSort fun a b => dataLe false (fun c : (D × V) × PyData => c.2) a b).map (·.1)) fun t h => by
    obtain ⟨p, hp, rfl⟩ := List.mem_map.mp h
    exact ht p.1 (List.of_mem_zip (List.mem_mergeSort.mp hp)).1
  rw [List.map_map, List.map_map] at z
  exact z
theorem den_sortK {X : Cx} {T T0 : Tb} {W : WX} {m : Bool} {φ : Fm} {k : Nat} {f : Addr} {fd : FuncData} {ps : List Str} {x : Str} {e : Expr} {p p2 kp pos : Pos} {ma : M} (hu : X.A.units + 65 < cLine) (F : FnOk X.prog X.w X.K X.mg X.base (L2.CX X.prog X.w) k f fd ps (spI X.K T0 φ 1)) (ht : T0.tbs = []) (hb : BindG fd ps 1 [] [0]) (hr : Room (k + 2) X.A)
    (hg : Gl X "sorted") (hm : X.mg "sorted" = none) (he : PE X e (tI X.K T W ma)) (hfg : Gl X x) (hfm : X.mg x = some (.ref f)) (hd : (x == ("__debug__" : Str)) = false)
    (h1 : backTo pos (starEach [e] X.env) = (false, eval e X.env) :: backTo pos (starEach [] X.env)) (h2 : (backTo pos (starEach [e] X.env)).any (·.1) = false) (h0 : starEach [e] X.env = (false, eval e X.env) :: starEach [] X.env)
    (h3 : (backToKw pos (keywordEach [⟨some ("key" : Str), .Name x p2, kp⟩] X.env)).all (·.1.isSome) = true) (h4 : (backToKw pos (keywordEach [⟨some ("key" : Str), .Name x p2, kp⟩] X.env)).any (·.1.isNone) = false) (h5 : (backToKw pos (keywordEach [⟨some ("key" : Str), .Name x p2, kp⟩] X.env)).filterMap (·.1) = [Str.ofString "key"]) :
    PE X (.Call (.Name "sorted" p) [e] [⟨some ("key" : Str), .Name x p2, kp⟩] pos) (tI X.K T W (mSortK m φ ma)) := by
  refine PE.imp (pe_callBK (cr_sortK hu F ht hb hr) hg hm bt_sorted' (pa_cons he pa_nil h0) (pk_cons (pe_glob (v := .ref f) hfg hfm rfl hd) pk_nil) (by decide) (by decide) h1 h2 h3 h4 h5) fun σ H Q ⟨ρ, env, h, hw, hee, q⟩ => ?_
  unfold mSortK at q
  refine bindI hw hee q fun H1 ρ1 d h1 v x1 w1 e1 r1 q1 => ?_
  unfold sortKD at q1
  split at q1
  · rename_i xs l
    split at q1
    · rename_i ks ek
      split at q1
      · rename_i gk
        rw [Bool.and_eq_true] at gk
        obtain ⟨a, ws, rfl, s, rs⟩ := look_lst w1 l r1
        exact ⟨T, ρ1, a, xs, ws, ks, rfl, rfl, .of s, rs, ek, gk.1, of_decide_eq_true gk.2, (put_lst (X := X) w1 (srt_rel rs) q1).2⟩
      · exact q1.elim
    · exact q1.elim
  · exact q1.elim
end Iv

set_option maxRecDepth 100000
namespace Iv
open PySem PySem.Spec PyProof.Rows L2
/-! dict(pairs), dict(d); repr; tuple(range(n)) -/
def mkD (m : Bool) (ks : List Key) (vs : List D) (h : Hs) : R D := if m then .ok (.ref h.length) (h ++ [.dic ks vs]) else .ok (.dct ks vs) h
def pairsD : List D → Option (List (D × D))
  | [] => some []
  | .tup [k, v] :: r => (pairsD r).map ((k, v) :: ·)
  | _ => none
def dictB (m : Bool) (d : D) (h : Hs) : R D := match look h d with
  | .lst xs => match pairsD xs with
    | some ps => match mergeD ps [] [] with
      | some (ks, vs) => mkD m ks vs h
      | none => .bad
    | none => .bad
  | .dct ks vs => mkD m ks vs h
  | _ => .bad
section
variable {X : Cx} {T : Tb} {W : WX}
theorem put_dct {m : Bool} {H : Hp} {ρ : List Addr} {h : Hs} {ks : List Key} {ds : List D} {kvs : List (Key × V)} {Q : V → Hp → Prop} {Wx : Value → Option Addr → Hp → Prop} (hw : RelH X.K T H ρ h) (ek : kvs.map (·.1) = ks) (r : RelDs X.K T H ρ ds (kvs.map (·.2))) (p : PostV X.K T (RelD X.K T) H ρ (mkD m ks ds h) Q Wx) :
    ∀ q, H q = none → Q (.ref q) (upd H q (.dK kvs)) := by
  intro q hq
  unfold mkD at p
  split at p
  · refine p (upd H q (.dK kvs)) (ρ ++ [q]) (.ref q) (Ext.alloc hq) (hw.alloc hq ?_) ?_
    · exact ⟨kvs, upd_same, ek, r.mono (Ext.alloc hq)⟩
    · unfold RelD
      refine ⟨q, rfl, ?_⟩
      rw [← hw.len, List.getElem?_append_right (Nat.le_refl _), Nat.sub_self]
      rfl
  · refine p (upd H q (.dK kvs)) ρ (.ref q) (Ext.new hq) (hw.new hq) ?_
    unfold RelD
    refine ⟨q, kvs, rfl, .inl upd_same, fun z => ?_, ek, r.mono (Ext.new hq)⟩
    obtain ⟨u, e, _⟩ := hw.mem_some z
    rw [hq] at e; cases e
theorem pairs_rel {K : PySem.W.Frag} {H : Hp} {ρ : List Addr} : ∀ {xs : List D} {ps : List (D × D)} {ws : List V}, pairsD xs = some ps → RelDs K T H ρ xs ws → ∃ (as : List Addr) (vs : List (V × V)), ws = as.map V.ref ∧ Paired (fun p v => SqT K H p [v.1, v.2]) as vs ∧ RelPs K T H ρ ps vs := by
  intro xs
  induction xs with
  | nil => intro ps ws e r; cases e; unfold RelDs at r; subst r; exact ⟨[], [], rfl, .nil, by unfold RelDs; rfl, by unfold RelDs; rfl, rfl⟩
  | cons x xs ih =>
    intro ps ws e r
    unfold pairsD at e
    split at e
    · rename_i he; cases he
    · rename_i k v r' he
      cases he
      obtain ⟨ps', e1, rfl⟩ := map_some e
      unfold RelDs at r
      obtain ⟨w, ws', rfl, r1, r2⟩ := r
      obtain ⟨as, vs, rfl, pa, b1, b2, b3⟩ := ih e1 r2
      unfold RelD at r1
      obtain ⟨a, us, rfl, s, q⟩ := r1
      unfold RelDs at q
      obtain ⟨u1, us1, rfl, c1, q⟩ := q
      unfold RelDs at q
      obtain ⟨u2, us2, rfl, c2, q⟩ := q
      unfold RelDs at q
      subst q
      refine ⟨a :: as, (u1, u2) :: vs, rfl, .cons s pa, ?_, ?_, by rw [List.length_cons, List.length_cons, b3]⟩
      · rw [List.map_cons, List.map_cons]; unfold RelDs; exact ⟨_, _, rfl, c1, b1⟩
      · rw [List.map_cons, List.map_cons]; unfold RelDs; exact ⟨_, _, rfl, c2, b2⟩
    · cases e
theorem paired_map {α β γ : Type} {F : α → γ → Prop} {g : β → γ} : ∀ {as : List α} {bs : List β}, Paired F as (bs.map g) → Paired (fun a b => F a (g b)) as bs
  | _, [], h => by cases h; exact .nil
  | _, b :: bs, h => by cases h with | cons h t => exact .cons h (paired_map t)
theorem snd_dict {m : Bool} : BiSound X T (b1 (dictB m)) (fun xs H Q => (∃ (a : Addr) (ps : List Addr) (kvs : List (Key × V)), xs = [.ref a] ∧ SqL X.K H a (ps.map V.ref) ∧ Paired (fun p kv => SqT X.K H p [kV kv.1, kv.2]) ps kvs ∧ ∀ p, H p = none → Q (.ref p) (upd H p (.dK (mergeK [] kvs)))) ∨
    ∃ (a : Addr) (kvs : List (Key × V)), xs = [.ref a] ∧ Rd H a (.dK kvs) ∧ ∀ p, H p = none → Q (.ref p) (upd H p (.dK kvs))) := one_arg' fun H ρ h d v Q Wx hw r p => by
  unfold dictB at p
  split at p
  · rename_i xs l
    split at p
    · rename_i ps ep
      split at p
      · rename_i ks vs em
        obtain ⟨a, ws, rfl, s, rs⟩ := look_lst hw l r
        obtain ⟨as, us, rfl, pa, rp⟩ := pairs_rel ep rs
        obtain ⟨kvs, rfl, e1, e2⟩ := merge_rel (acc := []) rp rfl (by unfold RelDs; rfl) em
        exact .inl ⟨a, as, kvs, rfl, .of s, paired_map (F := fun p (v : V × V) => SqT X.K H p [v.1, v.2]) (g := fun kv : Key × V => (kV kv.1, kv.2)) pa, put_dct (X := X) hw e1 e2 p⟩
      · exact p.elim
    · exact p.elim
  · rename_i ks vs l
    obtain ⟨a, kvs, rfl, s, ek, rs⟩ := look_dct hw l r
    exact .inr ⟨a, kvs, rfl, s, put_dct (X := X) hw ek rs p⟩
  · exact p.elim
def mDictOf (m : Bool) (ms : Ms) : M := fun env h => (ms env h).bind (b1 (dictB m))
theorem den_dictOf {m : Bool} {e : Expr} {es : List Expr} {p pos : Pos} {ms : Ms} (hcalm : X.calm = true) (hg : Gl X "dict") (hm : X.mg "dict" = none) (ha : PA X (e :: es) (tIs X.K T W ms))
    (he : starEach (e :: es) X.env = (false, eval e X.env) :: starEach es X.env) (hpl : (backTo pos (starEach es X.env)).any (·.1) = false) : PE X (.Call (.Name "dict" p) (e :: es) [] pos) (tI X.K T W (mDictOf m ms)) :=
  den_callTy ((call_dictP hcalm).or (call_dictD (X := X))) snd_dict hg hm bt_dict ha (by decide) (by decide) he hpl
/-! repr of an int, of None -/
def reprB (d : D) (h : Hs) : R D := match d with
  | .int i => if i.natAbs.log2 < 1920 then .ok (.str (toString i : String)) h else .bad
  | .non => .ok (.str ("None" : String)) h
  | _ => .bad
theorem call_repr_non : CallR X (.builtin "repr") (fun xs H Q => xs = [.non] ∧ Q (.str ("None" : String)) H) := by
  intro pins s σ H xs us Q I r h
  obtain ⟨rfl, q⟩ := h
  obtain ⟨u, rfl, e⟩ := vals1 r
  obtain rfl : u = Value.none := e
  exact PySem.P.repr_of_none ⟨.str _, H, I.tok _, ⟨_, rfl⟩, q⟩
theorem snd_repr : BiSound X T (b1 reprB) (fun xs H Q => (∃ i, xs = [.int i] ∧ i.natAbs.log2 < 1920 ∧ Q (.str (toString i : String)) H) ∨ (xs = [.non] ∧ Q (.str ("None" : String)) H)) := one_arg' fun H ρ h d v Q Wx hw r p => by
  unfold reprB at p
  split at p
  · rename_i i
    split at p
    · rename_i hl
      exact .inl ⟨i, by rw [relInt r], hl, now p hw (by unfold RelD; rfl)⟩
    · exact p.elim
  · exact .inr ⟨by rw [relNon r], now p hw (by unfold RelD; rfl)⟩
  · exact p.elim
theorem bt_repr : bootBuiltins "repr" = some (.builtin "repr") := by decide +kernel
def mRepr (ms : Ms) : M := fun env h => (ms env h).bind (b1 reprB)
theorem den_repr {e : Expr} {es : List Expr} {p pos : Pos} {ms : Ms} (hg : Gl X "repr") (hm : X.mg "repr" = none) (ha : PA X (e :: es) (tIs X.K T W ms))
    (he : starEach (e :: es) X.env = (false, eval e X.env) :: starEach es X.env) (hpl : (backTo pos (starEach es X.env)).any (·.1) = false) : PE X (.Call (.Name "repr" p) (e :: es) [] pos) (tI X.K T W (mRepr ms)) :=
  den_callB ((SkE.call_repr_int (X := X)).or call_repr_non) snd_repr hg hm bt_repr ha (by decide) (by decide) he hpl
/-! tuple(range(n)) -/
def mTupRg (ma : M) : M := fun env h => (ma env h).bind fun d h1 => match d with
  | .int n => if rngOk n && decide (n.toNat ≤ most) then mkT (rngD 0 n) h1 else .bad
  | _ => .bad
theorem den_tupRg {a : Expr} {p p2 pos pos2 : Pos} {ma : M} (hc : X.calm = true) (hg : Gl X "tuple") (hm : X.mg "tuple" = none) (hg2 : Gl X "range") (hm2 : X.mg "range" = none) (ha : PE X a (tI X.K T W ma))
    (na : starEach [.Call (.Name "range" p2) [a] [] pos2] X.env = (false, eval (.Call (.Name "range" p2) [a] [] pos2) X.env) :: starEach [] X.env) (na2 : starEach [a] X.env = (false, eval a X.env) :: starEach [] X.env) : PE X (.Call (.Name "tuple" p) [.Call (.Name "range" p2) [a] [] pos2] [] pos) (tI X.K T W (mTupRg ma)) := by
  refine PE.imp (pe_tupRg hc hg hm (prg_1 hg2 hm2 ha na2) na) fun σ H Q ⟨ρ, env, h, hw, he, p⟩ => ?_
  refine bindI hw he p fun H1 ρ1 d h1 v x1 w1 e1 r1 p1 => ?_
  split at p1
  · rename_i n
    split at p1
    · rename_i hl
      rw [Bool.and_eq_true] at hl
      obtain ⟨b1, b2⟩ := rngOk_iff hl.1
      have b3 := of_decide_eq_true hl.2
      unfold most at b3
      refine ⟨n, relInt r1, ⟨by omega, by omega, b1, b2, by omega⟩, (put_tup (X := X) w1 rng_rel p1).2⟩
    · exact p1.elim
  · exact p1.elim
end
end Iv

set_option maxRecDepth 100000
namespace Iv
open PySem PySem.Spec PyProof.Rows L2
/-! comprehensions whose tests run lambdas of the def around -/
def lEmit (D : Addr) (te : TE) : Sg → Hp → (Hp → Prop) → Prop := fun σ H Nx => te σ H fun y H1 => ∃ acc, H1 D = some (.lst acc) ∧ acc.length < sizeLine ∧ Nx (upd H1 D (.lst (acc ++ [y])))
theorem lEmit_run {Y : Cx} {pins : List (Addr × Obj)} {σ : Sg} {H : Hp} {s : Shared} {D : Addr} {elt : Expr} {te : TE} {Nx : Hp → Prop} (hx : Y.xe = NoX) (pe : PE Y elt te) (I : Inv Y pins σ H s) (q : lEmit D te σ H Nx) :
    wpAny (model Y.prog Y.w) Y.A (do let _ ← call (.builtin "list.append") [.ref D, ← eval elt Y.env]) (fun _ s' => ∃ H', Inv Y pins σ H' s' ∧ Nx H') NoX s := by
  have we := pe.run _ s σ H _ I q
  rw [hx] at we
  refine wpAny_bind (thnF we fun a s1 ⟨y, H1, I1, ry, acc, hD, hz, nx⟩ => wpAny_bind (app_ok (X := Y) I1 hD hz ry fun s2 I2 => ?_))
  exact wpAny_pure ⟨_, I2, nx⟩
section
variable {X : Cx}
theorem pe_lcI {elt t0 i0 : Expr} {f0 : List Expr} {scope : Scope} {own : List (Str × Nat)} {pos : Pos} {wi : TI} {g : TG} {tt : Sg → TT} {te : TE} (hc : X.calm = true) (hN : X.N.Nodup) (hi : PI X t0 i0 wi) (ok : BlkOk X.N X.env.scope scope own) (hg : InBlk X scope fun Y => PG Y t0 g)
    (ht : ∀ (pins : List (Addr × Obj)) (s : Shared) (σ : Sg) (H : Hp) (C : Addr) (cl : List (Str × Addr)) (fp : List Addr), Inv X pins σ H s → (∀ b ∈ fp, FpOk X pins H b) → PTs (X.blk s H scope (compEnvC scope cl C X.env) fp) f0 (tt σ))
    (he : InBlk X scope fun Y => PE Y elt te) (hs : ∀ x, foldedSetIterable i0 X.env x = pure x) :
    PE X (.ListComp elt [⟨t0, i0, f0, 0⟩] scope pos) (fun σ H Q => wi σ H fun J H1 => ∀ D, H1 D = none → ∃ W : Nat → Nat → Hp → Prop, (∃ m, W 0 m (upd H1 D (.lst []))) ∧ clAsk J g (tt σ) (own.map (·.2)) (L2.wipe σ (own.map (·.2))) (lEmit D te) (fun H => Q (.ref D) H) W) := by
  refine ⟨fun pins s σ H Q I q => ?_⟩
  rw [eval_ListComp]
  have cl : closureFor scope X.env = pure (cloFrom X.env.cells scope.names []) := closure_ok fun y hy e => (ok.free y hy e).elim (fun k => I.ok.has _ (.inl k)) fun k => I.ok.has _ (.inr k)
  refine wpAny_comprehension_free (use := none) rfl hs cl ok.kind (fun y hy e => (ok.uniq y hy).trans (by rw [e])) (thn (hi.run pins s σ H _ I q) fun _ s1 q1 => thn q1 fun _ s2 q2 => ?_)
  obtain ⟨it, fp, tn, J, H2, rfl, I2, T, st2, f2, q2⟩ := q2
  refine wpAny_newObj_type (newEnv_comp ?_) (by show 0 ≤ sizeLine; decide)
  obtain ⟨D, hD⟩ : ∃ D, s2.heap.objs.size = D := ⟨_, rfl⟩
  obtain ⟨W, ⟨m0, w0⟩, ask⟩ := q2 D (I2.hok.fresh (Nat.le_of_eq hD))
  obtain ⟨s3, hs3⟩ : ∃ s3 : Shared, s3 = { s2 with heap := s2.heap.push { cls := .type "list", data := .seq ([] : List Value).toArray } } := ⟨_, rfl⟩
  have up : ∀ b u, s2.heap.get? b = some u → s3.heap.get? b = some u := fun b u e => by rw [hs3]; exact Heap.get?_push_of_some _ e
  have I3 : Inv X pins σ (upd H2 D (.lst [])) s3 := by
    rw [hs3]
    refine I2.laid (t' := s2.toks) (fun b u e => Heap.get?_push_of_some _ e) (Nat.le_of_eq hD) ⟨Nat.zero_le _, [], 0, .nil, ?_⟩
    rw [← hD]
    exact Heap.get?_push_size _ rfl
  have f3 : ∀ b ∈ fp, FpOk X pins (upd H2 D (.lst [])) b ∧ b < s3.heap.objs.size := fun b hb => by
    obtain ⟨u, e, _⟩ := T.obj _ _ st2 b hb
    exact ⟨⟨(upd_ne (by rw [← hD]; exact Nat.ne_of_lt (Heap.lt_size e))).trans (f2 b hb).1, (f2 b hb).2⟩, Heap.lt_size (up b u e)⟩
  have I4 := block_start I3 ok hN f3
  rw [← hs3]
  obtain ⟨H3, hH3⟩ : ∃ H3, H3 = upd H2 D (.lst []) := ⟨_, rfl⟩
  rw [← hH3] at I3 I4 f3 w0
  rw [hD]
  show codeAny (model X.prog X.w) X.A (.compStart (.ListComp elt [⟨t0, i0, f0, 0⟩] scope pos) 0 (.ref it) (.ref D) (compEnvC scope (cellsFrom (s3.heap.objs.size + 1) scope.names (cloFrom X.env.cells scope.names [])) s3.heap.objs.size X.env)) (compPost (model X.prog X.w) X.A X.xe none (EP X pins σ Q) (.ref D) s3.heap.objs.size) { s3 with heap := pushCells (s3.heap.push { cls := .type "dict", data := .dict #[] }) scope.names }
  have bg := hg s3 H3 s3.heap.objs.size (cellsFrom (s3.heap.objs.size + 1) scope.names (cloFrom X.env.cells scope.names [])) fp
  have bt := ht pins s3 σ H3 s3.heap.objs.size (cellsFrom (s3.heap.objs.size + 1) scope.names (cloFrom X.env.cells scope.names [])) fp I3 fun b hb => (f3 b hb).1
  have be := he s3 H3 s3.heap.objs.size (cellsFrom (s3.heap.objs.size + 1) scope.names (cloFrom X.env.cells scope.names [])) fp
  obtain ⟨ce, hce⟩ : ∃ ce, compEnvC scope (cellsFrom (s3.heap.objs.size + 1) scope.names (cloFrom X.env.cells scope.names [])) s3.heap.objs.size X.env = ce := ⟨_, rfl⟩
  have lc : ce.locals = s3.heap.objs.size := by rw [← hce]; rfl
  rw [hce] at I4 bg bt be ⊢
  obtain ⟨s4, hs4⟩ : ∃ s4 : Shared, s4 = { s3 with heap := pushCells (s3.heap.push { cls := .type "dict", data := .dict #[] }) scope.names } := ⟨_, rfl⟩
  rw [← hs4] at I4 ⊢
  have st4 : tn 0 s4.heap := T.keep _ _ _ st2 fun b _ u e => by rw [hs4]; exact pushCells_keeps _ _ _ _ (Heap.get?_push_of_some _ (up b u e))
  have stat : ∀ H', (∀ b ∈ fp, H' b = none) → ∀ b ∈ fp, FpOk (X.blk s3 H3 scope ce fp) [] H' b := fun H' hn b hb =>
    ⟨hn b hb, (I4.ok.exf b hb).1, I4.ok.exfs b hb, .inl hb, fun x c e => (I4.ok.exf b hb).2 x c e, fun p hm => absurd (show p ∈ ([] : List (Addr × Obj)) ++ [] from hm) (by simp)⟩
  have loop : codeAny (model X.prog X.w) X.A (.compLoop (.ListComp elt [⟨t0, i0, f0, 0⟩] scope pos) 0 (.ref it) (.ref D) ce) (compPost (model X.prog X.w) X.A X.xe none (EP X pins σ Q) (.ref D) s3.heap.objs.size) s4 := by
    refine cl_walk (Y := X.blk s3 H3 scope ce fp) (p := i0.pos) (tg := t0) (cs := f0) (within := fun k => (do let _ ← call (.builtin "list.append") [.ref D, ← eval elt ce]) >>= fun _ => k) hc rfl T bg bt stat rfl rfl rfl rfl ask (fun pn s5 σ5 H5 Nx hw I5 q5 P hP => ?_) (fun s5 H5 I5 q5 => ?_) I4 st4 (fun b hb => (f3 b hb).1.1) w0
    · exact wpAny_bind (thnF (lEmit_run (Y := X.blk s3 H3 scope ce fp) rfl be I5 q5) fun _ s6 ⟨H6, I6, nx⟩ => wpAny_pure (hP s6 ⟨σ5, H6, I6, over_wipe hw, nx⟩))
    · have I6 : Inv X pins σ H5 s5 := I3.call' (ch := fp) I5.os I5.base I5.hok I5.bare fun b hb => ⟨(f3 b hb).1.2.2.2.1, (f3 b hb).1.2.1, (f3 b hb).1.2.2.2.2.1, (f3 b hb).1.2.2.2.2.2⟩
      obtain ⟨m, hn, _⟩ := I5.loc
      have nC : H5 ce.locals = none := I5.free
      have hn : s5.heap.Ns ce.locals m := hn
      rw [lc] at nC hn
      obtain ⟨a0, a1, a2, a3, a4, a5⟩ := I3.fpOk (H' := H5) (Nat.le_refl _) nC
      exact ⟨m, hn, fun h' sb => ⟨.ref D, H5, I6.turned (t' := s5.toks) (fun b u hb e => (sb.2 b hb).trans e) a0 a1 a3 a4 a5, rfl, q5⟩⟩
  exact codeAny_compStart_list loop (T.self X.A 0 _ _ _ st4 loop)
end
/-! the same readings, where something is known of the slots -/
def gd {α : Type} (G : Sg → Prop) (t : Sg → Hp → (α → Hp → Prop) → Prop) : Sg → Hp → (α → Hp → Prop) → Prop := fun σ H Q => G σ ∧ t σ H Q
section
variable {X : Cx} {T : Tb} {G : Sg → Prop}
theorem gden_two {e c : Expr} {m : M} {d : D} {v : V} (ha : PE X e (gd G (tI X.K T W0 m))) (hc : PE X c (tC v)) (hr : ∀ H ρ, RelD X.K T H ρ d v) (hs : starEach [e, c] X.env = (false, eval e X.env) :: starEach [c] X.env) (hs2 : starEach [c] X.env = (false, eval c X.env) :: starEach [] X.env) :
    PA X [e, c] (gd G (tIs X.K T W0 (mCons m (mCons (mCon d) mNil)))) := by
  refine PA.imp (pa_cons ha (pa_cons hc pa_nil hs2) hs) fun σ H Q ⟨g, ρ, env, h, hw, he, p⟩ => ?_
  refine ⟨g, bindI hw he p fun H1 ρ1 x h1 u x1 w1 e1 r1 p1 => ?_⟩
  exact now p1 w1 (by unfold RelDs; exact ⟨u, [v], rfl, r1, by unfold RelDs; exact ⟨v, [], rfl, hr H1 ρ1, by unfold RelDs; rfl⟩⟩)
theorem gden_isi {sub : Nat → Nat → Bool} (F : KwOk X.K T sub) {e : Expr} {es : List Expr} {p pos : Pos} {ms : Ms} (hg : Gl X "isinstance") (hm : X.mg "isinstance" = none) (ha : PA X (e :: es) (gd G (tIs X.K T W0 ms)))
    (he : starEach (e :: es) X.env = (false, eval e X.env) :: starEach es X.env) (hpl : (backTo pos (starEach es X.env)).any (·.1) = false) : PE X (.Call (.Name "isinstance" p) (e :: es) [] pos) (gd G (tI X.K T W0 (mIsi sub ms))) := by
  refine PE.imp (pe_callB call_isiA hg hm boot_isi ha (by decide) (by decide) he hpl) fun σ H Q ⟨g, ρ, env, h, hw, he, p⟩ => ?_
  exact ⟨g, bindI hw he p fun H1 ρ1 ds h1 vs x1 w1 e1 r1 p1 => isi_snd F H1 ρ1 h1 ds vs Q _ w1 r1 p1⟩
theorem gdent_val {e : Expr} {m : M} (h : PE X e (gd G (tI X.K T W0 m))) (he : ∀ whole, isTrue e X.env whole = (do let v ← whole; standAt e.pos; holding [v] (truthy v))) : PT X e (gd G (tIT X.K T W0 (mT m))) := by
  refine PT.imp (pt_truth h he) fun σ H Q ⟨g, ρ, env, hh, hw, he, p⟩ => ?_
  refine ⟨g, bindI hw he p fun H1 ρ1 d h1 v x1 w1 e1 r1 p1 => ?_⟩
  obtain ⟨b, eb, q⟩ := ans_postT w1 p1
  exact ⟨b, tru_of w1 eb r1, q⟩
theorem gdent_not {e : Expr} {pos : Pos} {m : M} (h : PT X e (gd G (tIT X.K T W0 (mT m)))) : PT X (.UnaryOp .Not e pos) (gd G (tIT X.K T W0 (mT (mNot m)))) := by
  rw [mT_bl (mNot_bl m)]
  refine PT.imp (pt_not h) fun σ H Q ⟨g, ρ, env, hh, hw, he, p⟩ => ?_
  exact ⟨g, testI (k := fun b h1 => .ok (D.bl !b) h1) hw he p fun H1 ρ1 b h1 x1 w1 e1 p1 => now p1 w1 rfl⟩
end
section
variable {X : Cx} {T : Tb} {W : WX}
/-- a comprehension whose tests know the slots of the def around -/
theorem den_compC {m : Bool} {elt tg iter : Expr} {ifs : List Expr} {scope : Scope} {own : List (Str × Nat)} {vs : List Nat} {pos : Pos} {mi : MI} {mt : MTg} {g : TG} {mc me : M} (hc : X.calm = true) (hN : X.N.Nodup) (hi : PI X tg iter (tG X.K T W (SrcRel X.K T) mi)) (ok : BlkOk X.N X.env.scope scope own) (hvs : own.map (·.2) = vs)
    (hg : InBlk X scope fun Y => PTg Y T tg mt g) (hk : Keeps g vs) (hmo : MonoG g)
    (ht : ∀ (pins : List (Addr × Obj)) (s : Shared) (σ : Sg) (H : Hp) (C : Addr) (cl : List (Str × Addr)) (fp : List Addr), Inv X pins σ H s → (∀ b ∈ fp, FpOk X pins H b) → PTs (X.blk s H scope (compEnvC scope cl C X.env) fp) ifs (gd (fun τ => L2.wipe τ vs = L2.wipe σ vs) (tIT X.K T W0 mc)))
    (he : InBlk X scope fun Y => PE Y elt (tI X.K T W0 me)) (hs : ∀ x, foldedSetIterable iter X.env x = pure x) :
    PE X (.ListComp elt [⟨tg, iter, ifs, 0⟩] scope pos) (tI X.K T W (mComp m mi mt mc me vs)) := by
  subst hvs
  refine PE.imp (pe_lcI (tt := fun σ => gd (fun τ => L2.wipe τ (own.map (·.2)) = L2.wipe σ (own.map (·.2))) (tIT X.K T W0 mc)) hc hN hi ok (fun s H C cl fp => (hg s H C cl fp).1) ht he hs) fun σ H Q q => ?_
  obtain ⟨ρ, env, h, hw, he, p⟩ := q
  have sg := (hg X.s_0 H 0 [] []).2
  unfold mComp at p
  refine bindI hw he p fun H1 ρ1 s h1 J x1 w1 e1 r1 p1 dA hD => ?_
  obtain ⟨hE, er, p1⟩ := fin_post p1
  have w2 : RelH X.K T (upd H1 dA (.lst [])) (ρ1 ++ [dA]) (h1 ++ [.lst []]) := w1.alloc hD ⟨[], upd_same, by unfold RelDs; rfl⟩
  have xa : Ext H1 ρ1 (upd H1 dA (.lst [])) (ρ1 ++ [dA]) := Ext.alloc hD
  have hDn : (ρ1 ++ [dA])[h1.length]? = some dA := by rw [← w1.len, List.getElem?_append_right (Nat.le_refl _), Nat.sub_self]; rfl
  unfold clAsk
  refine loop_any (B := fun x H' Nx => g x (L2.wipe σ (own.map (·.2))) H' fun σ2 H2 => L2.wipe σ2 (own.map (·.2)) = L2.wipe σ (own.map (·.2)) ∧ gd (fun τ => L2.wipe τ (own.map (·.2)) = L2.wipe σ (own.map (·.2))) (tIT X.K T W0 mc) σ2 H2 fun b H3 => if b = true then lEmit dA (tI X.K T W0 me) σ2 H3 Nx else Nx H3)
    (fun H ρ h x v h3 Nx xr hw hD rx ef hn => ?_) (?_ : SrcRel X.K T (upd H1 dA (.lst [])) (ρ1 ++ [dA]) s J) w2 hDn er fun H ρ xr hw hD => ?_
  · exact hmo _ _ _ _ _ (fun σ2 H2 ⟨ew, q⟩ => ⟨ew, ew, q⟩) (turn_lc sg hk hmo ((e1.wipe _).mono (xa.trans xr)) hw hD rx ef fun H' ρ' x' w' d' => hn H' ρ' (xr.trans x') x' w' d')
  · cases s with
    | fix xs => obtain ⟨P, hP, S⟩ := r1; exact ⟨P, S.keep _ _ _ _ hP xa, S⟩
    | live k => obtain ⟨a, ha, e⟩ := r1; exact ⟨a, xa.get ha, e⟩
  · exact PostV.gc (n := h1.length) w1.len (res := .ok (.ref h1.length) hE) p1 H ρ (.ref dA) (xa.trans xr) hw (by unfold RelD; exact ⟨dA, rfl, hD⟩)
end
/-- a lambda called and caught within a comprehension: it reads the def's own slots, not the block's -/
def mCaughtW (bs : List M) (own : List Nat) (m : M) : M := fun env h => (m env h).bind fun d h1 => match d with
  | .clo j => match bs[j]? with
    | some b => caughtR (gcR false h1.length (b (wipeE env own) h1))
    | none => .bad
  | _ => .bad
theorem rel_back {K : PySem.W.Frag} {T : Tb} {H : Hp} {ρ : List Addr} {env : Env} {σ σ0 : Sg} {own : List Nat} (r : RelEnv K T H ρ env σ) (hw : L2.wipe σ own = L2.wipe σ0 own) : RelEnv K T H ρ (wipeE env own) σ0 := by
  have q := r.wipe own
  rw [hw] at q
  refine ⟨q.1.trans (L2.wipe_length σ0 own), fun i d e => ?_⟩
  obtain ⟨v, e1, e2⟩ := q.2 i d e
  exact ⟨v, (L2.wipe_some e1).1, e2⟩
section
variable {X : Cx} {T : Tb}
theorem den_caughtB {L : List Lam} {bs : List M} {q x a y er ex : Str} {g CS : Addr} {fd : FuncData} {st : Stmt} {k : Nat} {e : Expr} {ms : M} {p pos : Pos} {own : List Nat} {scope : Scope} {pins : List (Addr × Obj)} {s : Shared} {σ : Sg} {H : Hp} {C : Addr} {ccl : List (Str × Addr)} {fp : List Addr}
    {p1 p2 p3 p4 p5 p6 p7 p8 p9 pa pb pc pd pe : Pos} {jn : Nat} (I3 : Inv X pins σ H s) (f3 : ∀ b ∈ fp, FpOk X pins H b) (hg : Gl (X.blk s H scope (compEnvC scope ccl C X.env) fp) x) (hm : X.mg x = some (.ref g)) (F : Fun X.K x x st g fd)
    (hst : defBody st = [.Assign [.Name y p1] (.Constant .none jn p2) p3, .Try [.Expr (.Call (.Name a p4) [] [] p5) p6] [.ExceptHandler (some (.Name ex p7)) (some er) [.Assign [.Name y p8] (.Name er p9) pa] pb] [] [] pc, .Return (some (.Name y pd)) pe])
    (hb : L2.Binds X.K fd [a] []) (Sg : FnScope [a, y, er] [a] (defScope st)) (va : (defScope st).names.lookup a = some .local) (vy : (defScope st).names.lookup y = some .local) (ve : (defScope st).names.lookup er = some .local) (gex : (defScope st).names.lookup ex = some .globalImplicit) (mex : X.mg ex = some (.ref CS))
    (dbg : (a == ("__debug__" : Str)) = false ∧ (a == ("__classdict__" : Str)) = false ∧ (y == ("__debug__" : Str)) = false ∧ (y == ("__classdict__" : Str)) = false ∧ (er == ("__debug__" : Str)) = false ∧ (er == ("__classdict__" : Str)) = false ∧ (ex == ("__debug__" : Str)) = false ∧ (x == ("__debug__" : Str)) = false)
    (exm : ∀ c, PySem.W.exmOne X.K (.ref (T.cls c)) (.ref CS) = some true) (hr : Room (k + 2) X.A) (cl : CloL X (T.with (cloT X q L)) k q L bs)
    (he : PE (X.blk s H scope (compEnvC scope ccl C X.env) fp) e (tI X.K (T.with (cloT X q L)) W0 ms)) (hse : starEach [e] (compEnvC scope ccl C X.env) = (false, eval e (compEnvC scope ccl C X.env)) :: starEach [] (compEnvC scope ccl C X.env)) (hpl : (backTo pos (starEach [] (compEnvC scope ccl C X.env))).any (·.1) = false) :
    PE (X.blk s H scope (compEnvC scope ccl C X.env) fp) (.Call (.Name x p) [e] [] pos) (gd (fun τ => L2.wipe τ own = L2.wipe σ own) (tI X.K (T.with (cloT X q L)) W0 (mCaughtW bs own ms))) := by
  have kp := F.kp
  obtain ⟨oc, od, kV, doc, pm, an, cdv, ct, osl, rfl, lk, hcg⟩ := F.ex
  rw [hst] at lk hb
  constructor
  intro pz t τ H0 Q I ⟨gw, ρ, env, h, hw, hee, z⟩
  have ha : PA (X.blk s H scope (compEnvC scope ccl C X.env) fp) [e] (tIs X.K (T.with (cloT X q L)) W0 (mCons ms mNil)) := den_cons he den_nil hse
  refine wpAny_Call_Name_kw (ld_glob I hg hm ?_ dbg.2.2.2.2.2.2.2)
  refine PySem.W.callWith_K (h₀ := X.base) I.ok.mod.kin kp (thn (ha.run pos pz t τ H0 (fun vs H1 => ∃ v ρ1 d h1, vs = [v] ∧ RelH X.K (T.with (cloT X q L)) H1 ρ1 h1 ∧ RelEnv X.K (T.with (cloT X q L)) H1 ρ1 env τ ∧ RelD X.K (T.with (cloT X q L)) H1 ρ1 d v ∧
    PostV X.K (T.with (cloT X q L)) (RelD X.K (T.with (cloT X q L))) H1 ρ1 (match d with | .clo j => (match bs[j]? with | some b => caughtR (gcR false h1.length (b (wipeE env own) h1)) | none => .bad) | _ => .bad) Q (fun c d H' => False)) I ?_) fun us t1 got => ?_) hse hpl
  · refine ⟨ρ, env, h, hw, hee, ?_⟩
    unfold mCaughtW at z
    unfold mCons mNil
    cases em : ms env h with
    | bad => rw [em] at z; exact z
    | ex c h1 => rw [em] at z; exact z
    | ok d h1 =>
      rw [em] at z
      intro H1 ρ1 vs x1 w1 r1
      obtain ⟨v, rfl, rv⟩ := r1.one
      exact ⟨v, ρ1, d, h1, rfl, w1, hee.mono x1, rv, PostV.mono x1 z⟩
  · obtain ⟨vs, H1, I1, r, v, ρ1, d, h1, rfl, w1, e1, rv, z1⟩ := got
    refine ⟨I1.kIn, ?_⟩
    have IX : Inv X pins σ H1 t1 := I3.call' (ch := fp) I1.os I1.base I1.hok I1.bare fun b hb => ⟨(f3 b hb).2.2.2.1, (f3 b hb).2.1, (f3 b hb).2.2.2.2.1, (f3 b hb).2.2.2.2.2⟩
    cases r with
    | cons ru rn =>
      cases rn
      rename_i u
      split at z1
      · rename_i j
        split at z1
        · rename_i b ej
          refine wpAny_call (codeAny_mono (caught_code (X := X) (T := T.with (cloT X q L)) lk hcg hb Sg rfl va vy ve gex mex dbg exm hr (clo_all cl) IX w1 (rel_back e1 gw) ru rv ej z1) fun r t2 out => ?_)
          match r, out with
          | .error e, out => exact False.elim out
          | .ok (.ret u), out => exact I1.after out
        · exact z1.elim
      · exact z1.elim
end
end Iv

set_option maxRecDepth 100000
namespace Iv
open PySem PySem.Spec PyProof.Rows L2
/-! a list that a few statements make and fill, and nobody changes behind them: frozen there -/
mutual
def ltZ (n : Nat) : D → Bool
  | .tup xs => ltZs n xs
  | .lst xs => ltZs n xs
  | .scr xs => ltZs n xs
  | .dct _ vs => ltZs n vs
  | .dcu _ vs => ltZs n vs
  | .ref k => decide (k < n)
  | .non => true
  | .bl _ => true
  | .int _ => true
  | .str _ => true
  | .ty _ => true
  | .own _ => true
  | .exc _ => true
  | .fn _ => true
  | .clo _ => true
def ltZs (n : Nat) : List D → Bool
  | [] => true
  | x :: xs => ltZ n x && ltZs n xs
end
def ltZO (n : Nat) : Ob → Bool
  | .lst xs => ltZs n xs
  | .dic _ vs => ltZs n vs
  | .dit _ vs => ltZs n vs
  | .ins _ _ vs => ltZs n vs
def ltZE (n : Nat) : Option D → Bool
  | some d => ltZ n d
  | none => true
def frzE (i n : Nat) (e : Env) (h : Hs) : Option (Env × Hs) := match e[i]? with
  | some (some (.ref k)) => if k = n ∧ h.length = n + 1 then match h[n]? with
    | some (.lst xs) => if (h.take n).all (ltZO n) && (e.set i none).all (ltZE n) && ltZs n xs then some (e.set i (some (.lst xs)), h.take n) else none
    | _ => none else none
  | _ => none
section
variable {K : PySem.W.Frag} {T : Tb} {H : Hp} {ρ r : List Addr} {h : Hs}
mutual
theorem RelD.trimC {d : D} : ∀ {v : V}, ltZ ρ.length d = true → RelD K T H (ρ ++ r) d v → RelD K T H ρ d v := by
  intro v hl q
  match d with
  | .non => unfold RelD at q ⊢; exact q
  | .bl b => unfold RelD at q ⊢; exact q
  | .int i => unfold RelD at q ⊢; exact q
  | .str y => unfold RelD at q ⊢; exact q
  | .tup ds =>
    unfold ltZ at hl
    unfold RelD at q ⊢
    obtain ⟨a, vs, e, s, q⟩ := q
    exact ⟨a, vs, e, s, RelDs.trimC hl q⟩
  | .lst ds =>
    unfold ltZ at hl
    unfold RelD at q ⊢
    obtain ⟨a, vs, e, s, n, q⟩ := q
    exact ⟨a, vs, e, s, fun z => n (List.mem_append_left _ z), RelDs.trimC hl q⟩
  | .scr ds =>
    unfold ltZ at hl
    unfold RelD at q ⊢
    obtain ⟨a, vs, e, s, q⟩ := q
    exact ⟨a, vs, e, s, RelDs.trimC hl q⟩
  | .dct ks ds =>
    unfold ltZ at hl
    unfold RelD at q ⊢
    obtain ⟨a, vs, e, s, n, k, q⟩ := q
    exact ⟨a, vs, e, s, fun z => n (List.mem_append_left _ z), k, RelDs.trimC hl q⟩
  | .dcu ks ds =>
    unfold ltZ at hl
    unfold RelD at q ⊢
    obtain ⟨a, vs, e, s, n, k, q⟩ := q
    exact ⟨a, vs, e, s, fun z => n (List.mem_append_left _ z), k, RelDs.trimC hl q⟩
  | .ref k =>
    unfold ltZ at hl
    unfold RelD at q ⊢
    obtain ⟨a, e, q⟩ := q
    exact ⟨a, e, by rw [List.getElem?_append_left (of_decide_eq_true hl)] at q; exact q⟩
  | .ty n => unfold RelD at q ⊢; exact q
  | .own n => unfold RelD at q ⊢; exact q
  | .exc n => unfold RelD at q ⊢; exact q
  | .fn n => unfold RelD at q ⊢; exact q
  | .clo j => unfold RelD at q ⊢; exact q
theorem RelDs.trimC {ds : List D} : ∀ {vs : List V}, ltZs ρ.length ds = true → RelDs K T H (ρ ++ r) ds vs → RelDs K T H ρ ds vs := by
  intro vs hl q
  match ds with
  | [] => unfold RelDs at q ⊢; exact q
  | d :: ds =>
    unfold ltZs at hl
    rw [Bool.and_eq_true] at hl
    unfold RelDs at q ⊢
    obtain ⟨v, s, e, q1, q2⟩ := q
    exact ⟨v, s, e, RelD.trimC hl.1 q1, RelDs.trimC hl.2 q2⟩
end
theorem RelOb.cutC {a : Addr} {ob : Ob} (hl : ltZO ρ.length ob = true) (q : RelOb K T H (ρ ++ r) a ob) : RelOb K T H ρ a ob := by
  cases ob with
  | lst ds => obtain ⟨vs, e, q⟩ := q; exact ⟨vs, e, RelDs.trimC hl q⟩
  | dic ks ds => obtain ⟨kvs, e, z, q⟩ := q; exact ⟨kvs, e, z, RelDs.trimC hl q⟩
  | dit ks ds => obtain ⟨kvs, e, z, q⟩ := q; exact ⟨kvs, e, z, RelDs.trimC hl q⟩
  | ins c ns ds => obtain ⟨dx, fs, e, z, q⟩ := q; exact ⟨dx, fs, e, z, RelDs.trimC hl q⟩
theorem frz_rel {i : Nat} {e e2 : Env} {h2 : Hs} {σ : Sg} (R : RelH K T H (ρ ++ r) h) (re : RelEnv K T H (ρ ++ r) e σ) (ef : frzE i ρ.length e h = some (e2, h2)) : RelH K T H ρ h2 ∧ RelEnv K T H ρ e2 σ := by
  unfold frzE at ef
  split at ef
  · rename_i k ek
    split at ef
    · rename_i hk
      obtain ⟨rfl, hlen⟩ := hk
      split at ef
      · rename_i xs ex
        split at ef
        · rename_i c
          cases ef
          rw [Bool.and_eq_true, Bool.and_eq_true] at c
          obtain ⟨⟨c1, c2⟩, c3⟩ := c
          have hz := R.len
          rw [List.length_append] at hz
          refine ⟨⟨by rw [List.length_take]; omega, (List.nodup_append.mp R.nd).1, fun n ob a e1 e2 => ?_, R.tab⟩, ?_⟩
          · have hn : n < ρ.length := (List.getElem?_eq_some_iff.mp e2).1
            have e1' := e1
            rw [List.getElem?_take_of_lt hn] at e1
            exact RelOb.cutC (List.all_eq_true.mp c1 ob (List.mem_of_getElem? e1')) (R.at_ n ob a e1 (by rw [List.getElem?_append_left hn]; exact e2))
          · refine ⟨by rw [List.length_set]; exact re.1, fun j d ej => ?_⟩
            by_cases hj : i = j
            · subst hj
              have hlt : i < e.length := (List.getElem?_eq_some_iff.mp ek).1
              rw [List.getElem?_set_self hlt] at ej
              cases ej
              obtain ⟨v, ev, rv⟩ := re.2 i _ ek
              refine ⟨v, ev, ?_⟩
              unfold RelD at rv ⊢
              obtain ⟨a, rfl, ha⟩ := rv
              obtain ⟨vs, eH, rs⟩ := R.at_ _ _ a ex ha
              refine ⟨a, vs, rfl, eH, fun z => ?_, RelDs.trimC c3 rs⟩
              rw [List.getElem?_append_right (Nat.le_refl _), Nat.sub_self] at ha
              exact (List.nodup_append.mp R.nd).2.2 a z a (List.mem_of_getElem? ha) rfl
            · rw [List.getElem?_set_ne hj] at ej
              obtain ⟨v, ev, rv⟩ := re.2 j d ej
              refine ⟨v, ev, RelD.trimC ?_ rv⟩
              have := List.all_eq_true.mp c2 (some d) (List.mem_of_getElem? (i := j) (by rw [List.getElem?_set_ne hj]; exact ej))
              exact this
        · cases ef
      · cases ef
    · cases ef
  · cases ef
end
def sFzK (i n : Nat) (k : MS) : MS := fun e h => match frzE i n e h with
  | some (e2, h2) => k e2 h2
  | none => .bad
def chainS : List MS → MS → MS
  | [], k => k
  | m :: ms, k => sCons m (chainS ms k)
def sFz (i : Nat) (ms : List MS) (k : MS) : MS := fun e h => chainS ms (sFzK i h.length k) e h
section
variable {X : Cx} {T : Tb} {W : WX}
inductive DenL (X : Cx) (T : Tb) (W : WX) : List Stmt → List MS → Prop
  | nil : DenL X T W [] []
  | cons {s : Stmt} {ss : List Stmt} {m : MS} {ms : List MS} : PS X s (tIS X.K T W m) → DenL X T W ss ms → DenL X T W (s :: ss) (m :: ms)
theorem fz_chain {i : Nat} {rest : List Stmt} {k : MS} (hk : PSs X rest (tIS X.K T W k)) {ss : List Stmt} {ms : List MS} (d : DenL X T W ss ms) :
    PSs X (ss ++ rest) (fun D σ H => ∃ H0 ρ0 ρ env h, Ext H0 ρ0 H ρ ∧ RelH X.K T H ρ h ∧ RelEnv X.K T H ρ env σ ∧ PostS X.K T H0 ρ0 (chainS ms (sFzK i ρ0.length k) env h) D W) := by
  induction d with
  | nil =>
    refine PSs.imp hk fun D σ H ⟨H0, ρ0, ρ, env, h, x, w, re, p⟩ => ?_
    obtain ⟨r, rfl⟩ := x.pre
    have p : PostS X.K T H0 ρ0 (match frzE i ρ0.length env h with | some (e2, h2) => k e2 h2 | none => .bad) D W := p
    cases ef : frzE i ρ0.length env h with
    | none => rw [ef] at p; exact p.elim
    | some q =>
      obtain ⟨e2, h2⟩ := q
      rw [ef] at p
      obtain ⟨R2, E2⟩ := frz_rel w re ef
      exact ⟨ρ0, e2, h2, R2, E2, PostS.mono x.cut p⟩
  | @cons s ss m ms hs _ ih =>
    refine PSs.imp (pss_cons hs ih) fun D σ H ⟨H0, ρ0, ρ, env, h, x, w, re, p⟩ => ?_
    refine ⟨ρ, env, h, w, re, ?_⟩
    have p : PostS X.K T H0 ρ0 ((m env h).then_ (chainS ms (sFzK i ρ0.length k))) D W := p
    cases em : m env h with
    | nx e1 h1 => rw [em] at p; exact fun H1 ρ1 σ1 x1 w1 re1 => ⟨H0, ρ0, ρ1, e1, h1, x.trans x1, w1, re1, p⟩
    | bk e h' => rw [em] at p; exact PostS.mono x p
    | ct e h' => rw [em] at p; exact PostS.mono x p
    | rt e h' => rw [em] at p; exact PostS.mono x p
    | ex c e h' => rw [em] at p; exact PostS.mono x p
    | bad => rw [em] at p; exact p.elim
theorem den_fz {i : Nat} {rest : List Stmt} {k : MS} {ss : List Stmt} {ms : List MS} (d : DenL X T W ss ms) (hk : PSs X rest (tIS X.K T W k)) : PSs X (ss ++ rest) (tIS X.K T W (sFz i ms k)) := by
  refine PSs.imp (fz_chain (i := i) hk d) fun D σ H ⟨ρ, env, h, w, re, p⟩ => ⟨H, ρ, ρ, env, h, Ext.refl H ρ, w, re, ?_⟩
  unfold sFz at p
  rw [w.len]
  exact p
theorem den_fz2 {i : Nat} {s1 s2 : Stmt} {rest : List Stmt} {k m1 m2 : MS} (h1 : PS X s1 (tIS X.K T W m1)) (h2 : PS X s2 (tIS X.K T W m2)) (hk : PSs X rest (tIS X.K T W k)) : PSs X (s1 :: s2 :: rest) (tIS X.K T W (sFz i [m1, m2] k)) := den_fz (.cons h1 (.cons h2 .nil)) hk
end
end Iv

set_option maxRecDepth 100000
/-! t[::-1] of a tuple -/
namespace Iv
open PySem PySem.Spec PyProof.Rows L2
theorem fm_congr {α β : Type} {f g : α → Option β} : ∀ (l : List α), (∀ m ∈ l, f m = g m) → l.filterMap f = l.filterMap g
  | [], _ => rfl
  | x :: l, h => by
    rw [List.filterMap_cons, List.filterMap_cons, h x List.mem_cons_self, fm_congr l fun m hm => h m (List.mem_cons_of_mem _ hm)]
section
variable {prog : Program} {w : World} {A : Around} {E : Value → Shared → Prop} {s : Shared}
theorem adjust_rev (n : Nat) : Builtin.Slice.sliceAdjust none none (-1) (n : Int) = ((n : Int) - 1, -1) := by
  unfold Builtin.Slice.sliceAdjust
  rfl
theorem places_rev (n : Nat) : Builtin.Slice.slicePlaces ((n : Int) - 1) (-1) (-1) = n := by
  unfold Builtin.Slice.slicePlaces
  rw [if_neg (show ¬ ((-1 : Int) > 0) by decide)]
  by_cases h : n = 0
  · subst h; rfl
  · rw [if_pos (show ((n : Int) - 1) > -1 by omega), show -(-1 : Int) = 1 by decide, Int.ediv_one]
    omega
theorem pick_rev (xs : Array Value) : ((List.range xs.size).filterMap fun (m : Nat) => xs[(((xs.size : Int) - 1) + (m : Int) * (-1)).toNat]?).toArray = xs.toList.reverse.toArray := by
  rw [← PySem.W.krv_pick]
  unfold slicePick
  rw [PySem.W.krv_bounds]
  show _ = ((sliceRange ((xs.size : Int) - 1) (-1) (-1)).filterMap (xs[·]?)).toArray
  rw [PySem.W.krv_sliceRange, List.filterMap_map]
  congr 1
  refine fm_congr _ fun m hm => ?_
  have := List.mem_range.mp hm
  show _ = xs[xs.size - 1 - m]?
  congr 1
  omega
theorem getItem_tuple_rev {t sl : Addr} {items : Array Value} {vs : Value} {Q : Value → Shared → Prop} (ht : IsTup s.heap t items) (hs : s.heap.IsSliceOf sl .none .none vs) (ps : IsPart vs (some (-1)))
    (h : Q (.ref s.heap.objs.size) { s with heap := s.heap.push { cls := .type "tuple", data := .seq items.toList.reverse.toArray } })
    (hsz : items.size ≤ sizeLine) : wpAny (model prog w) A (getItem (.ref t) (.ref sl)) Q E s := by
  have htake : sizeOk (.seq items.toList.reverse.toArray) := by
    show items.toList.reverse.toArray.size ≤ sizeLine
    rw [List.size_toArray, List.length_reverse, Array.length_toList]
    exact hsz
  obtain ⟨os, hos, hcs, hds⟩ := id hs
  have hTs : s.TypeIs (.ref sl) "slice" := ⟨os, hos, hcs⟩
  unfold getItem
  try with_reducible refine wpAny_holding ?_
  first | refine wpAny_bind (wpAny_pure ?_) | skip
  refine wpAny_bind (wpAny_sequenceKey ht.typeIs (by decide) ?_)
  refine wpAny_bind (wpAny_callSpecial?_slot (name := Str.ofString "__getitem__") ht.typeIs PyProof.Rows.slot_tuple_getitem
    (wpAny_call_entry PyProof.Rows.slot_tuple_getitem ht.typeIs entry_tuple_getitem ?_ (args_tuple_getitem _ _)))
  show wpAny _ _ (Builtin.Tuple.tupleItemsOf (.ref t) >>= _) _ _ s
  refine wpAny_bind (tupleItemsOf_ ht ?_)
  refine wpAny_bind (wpAny_typeOf hTs ?_)
  rw [if_pos (by decide)]
  refine wpAny_bind ?_
  · unfold Builtin.Slice.sliceApplied Builtin.Slice.sliceFields
    refine wpAny_bind (wpAny_bind (wpAny_field hos hds (x := .none) rfl (wpAny_bind (wpAny_field hos hds (x := .none) rfl (wpAny_bind (wpAny_field hos hds (x := vs) rfl (wpAny_pure ?_)))))))
    refine wpAny_bind (HT.slicePart_ ps ?_)
    show wpAny _ _ (if ((-1 : Int) == 0) = true then _ else _) _ _ s
    rw [if_neg (by decide)]
    refine wpAny_bind (slicePart_none (wpAny_bind (slicePart_none (wpAny_bind (wpAny_pure ?_)))))
    show wpAny _ _ (match Builtin.Slice.sliceAdjust none none (-1) (items.size : Int) with | (lo, hi) => pure (lo, (-1 : Int), Builtin.Slice.slicePlaces lo hi (-1))) _ _ s
    rw [adjust_rev]
    show wpAny _ _ (pure (((items.size : Int) - 1), (-1 : Int), Builtin.Slice.slicePlaces ((items.size : Int) - 1) (-1) (-1))) _ _ s
    rw [places_rev]
    refine wpAny_pure ?_
    show wpAny _ _ (if (((items.size : Int) - 1) == 0 && (-1 : Int) == 1 && items.size == items.size) = true then _ else _) _ _ s
    rw [if_neg (by rw [show ((-1 : Int) == 1) = false from rfl, Bool.and_false, Bool.false_and]; exact Bool.false_ne_true), pick_rev]
    first
    | exact wpAny_bind (m := Builtin.Tuple.tupleExact _) (wpAny_newObj_type (wpAny_pure ⟨_, rfl, wpAny_pure h⟩) htake)
    | exact wpAny_bind (m := Builtin.Tuple.tupleExact _) (wpAny_newObj_type (wpAny_bind (wpAny_pure (wpAny_pure ⟨_, rfl, wpAny_pure h⟩))) htake)
    | exact wpAny_bind (wpAny_bind (m := Builtin.Tuple.tupleExact _) (wpAny_newObj_type (wpAny_pure (wpAny_pure ⟨_, rfl, wpAny_pure h⟩)) htake))
    | exact wpAny_bind (wpAny_bind (m := Builtin.Tuple.tupleExact _) (wpAny_newObj_type (wpAny_pure ⟨_, rfl, wpAny_pure h⟩) htake))
end
def tRevT (K : PySem.W.Frag) (te : TE) : TE := fun σ H Q => te σ H fun x H1 => ∃ a xs, x = .ref a ∧ SqT K H1 a xs ∧ ∀ p, H1 p = none → Q (.ref p) (upd H1 p (.tup xs.reverse))
section
variable {X : Cx}
theorem pe_revT {e : Expr} {te : TE} {k : Nat} {p1 p2 p3 pos : Pos} (he : PE X e te) : PE X (.Subscript e (.Slice none none (some (.UnaryOp .USub (.Constant (.int 1) k p1) p2)) p3) pos) (tRevT X.K te) := by
  refine ⟨fun pins s σ H Q I h => ?_⟩
  refine Subscript_ (thn (he.run pins s σ H _ I h) fun v s1 ⟨x, H1, I1, r1, q1⟩ => ?_)
  obtain ⟨a, xs, ex, hx, q⟩ := q1
  subst ex
  cases r1
  have hst : PO X (some (.UnaryOp .USub (.Constant (.int 1) k p1) p2)) (tPart (tUn (rU fun i => .int (-i)) (L2.tC (.int 1)))) := po_some (pe_un un_neg pe_int)
  refine wpAny_Slice (thn (po_none.run pins s1 σ H1 (fun o H2 => o = none ∧ H2 = H1) I1 ⟨rfl, rfl⟩) fun vl s2 ⟨l, H2, I2, pl, el, e2⟩ => ?_)
  subst el e2
  refine thn (po_none.run pins s2 σ H2 (fun o H3 => o = none ∧ H3 = H2) I2 ⟨rfl, rfl⟩) fun vu s3 ⟨u, H3, I3, pu, eu, e3⟩ => ?_
  subst eu e3
  refine thn (hst.run pins s3 σ H3 (fun o H4 => o = some (-1) ∧ H4 = H3) I3 ⟨1, rfl, -1, rfl, rfl, rfl⟩) fun vs s4 ⟨o, H4, I4, ps, eo, e4⟩ => ?_
  subst eo e4
  cases pl
  cases pu
  have I5 : Inv X pins σ H4 { s4 with heap := s4.heap.push { cls := .type "slice", data := .fields #[.none, .none, vs] } } := I4.kept (t' := s4.toks) fun b ob q => Heap.get?_push_of_some _ q
  obtain ⟨its, r, ht, hz⟩ := I5.tuple hx
  have hlen := r.length
  show wpAny (model X.prog X.w) X.A (subscriptTail e (.Slice none none (some (.UnaryOp .USub (.Constant (.int 1) k p1) p2)) p3) (.ref a) (.ref s4.heap.objs.size)) (EP X pins σ Q) X.xe { s4 with heap := s4.heap.push { cls := .type "slice", data := .fields #[.none, .none, vs] } }
  refine tail_any (ops := [.ref a, .ref s4.heap.objs.size]) ht.typeIs PyProof.Rows.slot_tuple_getitem.lookup ?_ (by with_unfolding_all rfl)
  refine getItem_tuple_rev ht (Heap.IsSliceOf.new _ .none .none vs) ps ?_ (by rw [List.size_toArray]; omega)
  refine ⟨.ref _, _, I5.laid (t' := s4.toks) (o := .tup xs.reverse) (fun b ob q => Heap.get?_push_of_some _ q) (Nat.le_refl _) ?_, rfl, q _ (I5.hok.fresh (Nat.le_refl _))⟩
  exact ⟨by rw [List.length_reverse]; exact hz, _, r.reverse, IsTup.new _ _⟩
end
/-- t[::-1] of a tuple -/
def mTRev (m : M) : M := fun env h => (m env h).bind fun d h1 => match look h1 d with
  | .tup xs => mkT xs.reverse h1
  | _ => .bad
section
variable {X : Cx} {T : Tb} {W : WX}
theorem den_trev {e : Expr} {m : M} {k : Nat} {p1 p2 p3 pos : Pos} (he : PE X e (tI X.K T W m)) : PE X (.Subscript e (.Slice none none (some (.UnaryOp .USub (.Constant (.int 1) k p1) p2)) p3) pos) (tI X.K T W (mTRev m)) := by
  refine PE.imp (pe_revT he) fun σ H Q ⟨ρ, env, h, hw, he, p⟩ => ?_
  refine bindI hw he p fun H1 ρ1 d h1 v x1 w1 e1 r1 p1 => ?_
  split at p1
  · rename_i xs lk
    obtain ⟨a, vs, rfl, s, rs⟩ := look_tup lk r1
    exact ⟨a, vs, rfl, s, (put_tup (X := X) w1 rs.rev p1).2⟩
  · exact p1.elim
end
end Iv

set_option maxRecDepth 100000
namespace Iv
open PySem L2
/-! finite facts: what a def answers to frozen values, whatever else lies about -/
def pd (r : R D) : D := match pureR r [] with
  | .ok d _ => d
  | _ => .non
def okR (r : R D) : Bool := match pureR r [] with
  | .ok d [] => ltD 0 d
  | _ => false
def exR (r : R D) (c : Nat) : Bool := match r with
  | .ex c' _ => decide (c' = c)
  | _ => false
def isTr (r : R D) : Bool := match r with
  | .ok (.bl b) _ => b
  | _ => false
theorem isTr_at {r : R D} (h : isTr r = true) : ∃ j, r = .ok (.bl true) j := by
  unfold isTr at h
  split at h
  · exact ⟨_, by rw [h]⟩
  · cases h
theorem exR_at {r : R D} {c : Nat} (h : exR r c = true) : ∃ j, r = .ex c j := by
  unfold exR at h
  split at h
  · exact ⟨_, by rw [of_decide_eq_true h]⟩
  · cases h
theorem pure_h {r : R D} (h : okR r = true) (k : Hs) : pureR r k = .ok (pd r) k ∧ ltD 0 (pd r) = true := by
  unfold okR at h
  unfold pd
  split at h
  · rename_i d e
    rw [e]
    refine ⟨?_, h⟩
    unfold pureR at e ⊢
    split at e
    · rename_i d' h' eg
      split at e
      · rename_i hd
        cases e
        rw [if_pos hd]
      · cases e
    · cases e
    · cases e
  · cases h
theorem callP_fin {env : Env} {h h1 h2 : Hs} {φ : Fm} {perm : List Nat} {ms mk : Ms} {ds es : List D} (q1 : ms env h = .ok ds h1) (q2 : mk env h1 = .ok es h2) (q3 : ltDs 0 (pick .non perm (ds ++ es)) = true) (q4 : h2.all plainO = true) (q5 : okR (φ (pick .non perm (ds ++ es)) []) = true) :
    mCallP φ perm ms mk env h = .ok (pd (φ (pick .non perm (ds ++ es)) [])) h2 := by
  rw [callP_r q1 q2 q3 q4]
  exact (pure_h q5 h2).1
theorem callP_exR {env : Env} {h h1 h2 : Hs} {φ : Fm} {perm : List Nat} {ms mk : Ms} {ds es : List D} {c : Nat} (q1 : ms env h = .ok ds h1) (q2 : mk env h1 = .ok es h2) (q3 : ltDs 0 (pick .non perm (ds ++ es)) = true) (q4 : h2.all plainO = true) (q5 : exR (φ (pick .non perm (ds ++ es)) []) c = true) :
    mCallP φ perm ms mk env h = .ex c h2 := by
  rw [callP_r q1 q2 q3 q4]
  obtain ⟨j, e⟩ := exR_at q5
  exact pure_ex e
end Iv

set_option maxRecDepth 100000
namespace K00
open PySem PySem.Spec PyProof.Rows L2 Iv
def topS (i : Nat) : Stmt := PySem.Challenge.pw_waitless_k00_rows_and_their_parts.main.body.getD i (.Pass ⟨0, 0, 0, 0⟩)
abbrev subC : Nat → Nat → Bool := subN 4
abbrev bmB : List Value := [.type "ValueError", .type "Exception", .type "BaseException", .type "object"]
abbrev newB : String := "ValueError.__new__"
structure TT (base : Heap) (mg : Str → Option Value) (cc cp : Nat → Addr) : Prop where
  zz : True = True
  x__law_refused : LamX.TabB base mg (cc 40) (cp 40)
structure GL (K : PySem.W.Frag) (mg : Str → Option Value) (T : Tb) (cc cp : Nat → Addr) : Prop where
  kw : KwOk K T.no subC
  exm : ∀ c, PySem.W.exmOne K (.ref (T.cls c)) (.ref (T.cls 0)) = some true
  b_abs : mg ("abs" : Str) = none
  b_all : mg ("all" : Str) = none
  b_bool : mg ("bool" : Str) = none
  b_int : mg ("int" : Str) = none
  b_isinstance : mg ("isinstance" : Str) = none
  b_len : mg ("len" : Str) = none
  b_list : mg ("list" : Str) = none
  b_min : mg ("min" : Str) = none
  b_range : mg ("range" : Str) = none
  b_sorted : mg ("sorted" : Str) = none
  b_tuple : mg ("tuple" : Str) = none
  b_zip : mg ("zip" : Str) = none
  c_HandError : mg ("HandError" : Str) = some (.ref (T.cls 0))
  x_HandError : PySem.W.excIn K (T.cls 0) bmB newB = true
  k_HandError : PySem.W.keepIn K (.ref (T.cls 0)) = true
  r_HandError : ∀ X : Cx, X.K = K → Raises X (.ref (T.cls 0))
  c_BadHand : mg ("BadHand" : Str) = some (.ref (T.cls 1))
  x_BadHand : PySem.W.excIn K (T.cls 1) bmB newB = true
  k_BadHand : PySem.W.keepIn K (.ref (T.cls 1)) = true
  r_BadHand : ∀ X : Cx, X.K = K → Raises X (.ref (T.cls 1))
  c_BadHands : mg ("BadHands" : Str) = some (.ref (T.cls 2))
  x_BadHands : PySem.W.excIn K (T.cls 2) bmB newB = true
  k_BadHands : PySem.W.keepIn K (.ref (T.cls 2)) = true
  r_BadHands : ∀ X : Cx, X.K = K → Raises X (.ref (T.cls 2))
  c_BadRow : mg ("BadRow" : Str) = some (.ref (T.cls 3))
  x_BadRow : PySem.W.excIn K (T.cls 3) bmB newB = true
  k_BadRow : PySem.W.keepIn K (.ref (T.cls 3)) = true
  r_BadRow : ∀ X : Cx, X.K = K → Raises X (.ref (T.cls 3))
  n_GREATEST : ∃ t, mg ("GREATEST" : Str) = some (.int 999999999 t)
  n_HANDS_MOST : ∃ t, mg ("HANDS_MOST" : Str) = some (.int 4 t)
  g_is_number : mg ("is_number" : Str) = some (.ref (T.fna 0))
  d_is_number : ∃ fd, Fun K ("is_number" : Str) ("is_number" : Str) (topS 8) (T.fna 0) fd
  g_is_from : mg ("is_from" : Str) = some (.ref (T.fna 1))
  d_is_from : ∃ fd, Fun K ("is_from" : Str) ("is_from" : Str) (topS 9) (T.fna 1) fd
  g_is_value : mg ("is_value" : Str) = some (.ref (T.fna 2))
  d_is_value : ∃ fd, Fun K ("is_value" : Str) ("is_value" : Str) (topS 10) (T.fna 2) fd
  g_is_hand : mg ("is_hand" : Str) = some (.ref (T.fna 3))
  d_is_hand : ∃ fd, Fun K ("is_hand" : Str) ("is_hand" : Str) (topS 11) (T.fna 3) fd
  g_is_rising : mg ("is_rising" : Str) = some (.ref (T.fna 4))
  d_is_rising : ∃ fd, Fun K ("is_rising" : Str) ("is_rising" : Str) (topS 12) (T.fna 4) fd
  g_are_hands : mg ("are_hands" : Str) = some (.ref (T.fna 5))
  d_are_hands : ∃ fd, Fun K ("are_hands" : Str) ("are_hands" : Str) (topS 13) (T.fna 5) fd
  g_are_hands_of : mg ("are_hands_of" : Str) = some (.ref (T.fna 6))
  d_are_hands_of : ∃ fd, Fun K ("are_hands_of" : Str) ("are_hands_of" : Str) (topS 14) (T.fna 6) fd
  g_is_pair : mg ("is_pair" : Str) = some (.ref (T.fna 7))
  d_is_pair : ∃ fd, Fun K ("is_pair" : Str) ("is_pair" : Str) (topS 15) (T.fna 7) fd
  g_are_pairs : mg ("are_pairs" : Str) = some (.ref (T.fna 8))
  d_are_pairs : ∃ fd, Fun K ("are_pairs" : Str) ("are_pairs" : Str) (topS 16) (T.fna 8) fd
  g_is_rowlike : mg ("is_rowlike" : Str) = some (.ref (T.fna 9))
  d_is_rowlike : ∃ fd, Fun K ("is_rowlike" : Str) ("is_rowlike" : Str) (topS 17) (T.fna 9) fd
  g_ask_row : mg ("ask_row" : Str) = some (.ref (T.fna 10))
  d_ask_row : ∃ fd, Fun K ("ask_row" : Str) ("ask_row" : Str) (topS 19) (T.fna 10) fd
  g_is_row : mg ("is_row" : Str) = some (.ref (T.fna 11))
  d_is_row : ∃ fd, Fun K ("is_row" : Str) ("is_row" : Str) (topS 21) (T.fna 11) fd
  g_hands_of : mg ("hands_of" : Str) = some (.ref (T.fna 12))
  d_hands_of : ∃ fd, Fun K ("hands_of" : Str) ("hands_of" : Str) (topS 22) (T.fna 12) fd
  g_value_of : mg ("value_of" : Str) = some (.ref (T.fna 13))
  d_value_of : ∃ fd, Fun K ("value_of" : Str) ("value_of" : Str) (topS 23) (T.fna 13) fd
  g_part : mg ("part" : Str) = some (.ref (T.fna 14))
  d_part : ∃ fd, Fun K ("part" : Str) ("part" : Str) (topS 24) (T.fna 14) fd
  g_parts : mg ("parts" : Str) = some (.ref (T.fna 15))
  d_parts : ∃ fd, Fun K ("parts" : Str) ("parts" : Str) (topS 25) (T.fna 15) fd
  g_is_part : mg ("is_part" : Str) = some (.ref (T.fna 16))
  d_is_part : ∃ fd, Fun K ("is_part" : Str) ("is_part" : Str) (topS 26) (T.fna 16) fd
  g_hands_in : mg ("hands_in" : Str) = some (.ref (T.fna 17))
  d_hands_in : ∃ fd, Fun K ("hands_in" : Str) ("hands_in" : Str) (topS 27) (T.fna 17) fd
  g_told_of : mg ("told_of" : Str) = some (.ref (T.fna 18))
  d_told_of : ∃ fd, Fun K ("told_of" : Str) ("told_of" : Str) (topS 28) (T.fna 18) fd
  g_part_with : mg ("part_with" : Str) = some (.ref (T.fna 19))
  d_part_with : ∃ fd, Fun K ("part_with" : Str) ("part_with" : Str) (topS 29) (T.fna 19) fd
  g_is_within : mg ("is_within" : Str) = some (.ref (T.fna 20))
  d_is_within : ∃ fd, Fun K ("is_within" : Str) ("is_within" : Str) (topS 30) (T.fna 20) fd
  g_by_length : mg ("by_length" : Str) = some (.ref (T.fna 21))
  d_by_length : ∃ fd, Fun K ("by_length" : Str) ("by_length" : Str) (topS 31) (T.fna 21) fd
  g__law_begun : mg ("_law_begun" : Str) = some (.ref (T.fna 22))
  d__law_begun : ∃ fd, Fun K ("_law_begun" : Str) ("_law_begun" : Str) (topS 33) (T.fna 22) fd
  g__law_blend : mg ("_law_blend" : Str) = some (.ref (T.fna 23))
  d__law_blend : ∃ fd, Fun K ("_law_blend" : Str) ("_law_blend" : Str) (topS 34) (T.fna 23) fd
  g__law_take : mg ("_law_take" : Str) = some (.ref (T.fna 24))
  d__law_take : ∃ fd, Fun K ("_law_take" : Str) ("_law_take" : Str) (topS 35) (T.fna 24) fd
  g__law_pick : mg ("_law_pick" : Str) = some (.ref (T.fna 25))
  d__law_pick : ∃ fd, Fun K ("_law_pick" : Str) ("_law_pick" : Str) (topS 36) (T.fna 25) fd
  g__law_shuffled : mg ("_law_shuffled" : Str) = some (.ref (T.fna 26))
  d__law_shuffled : ∃ fd, Fun K ("_law_shuffled" : Str) ("_law_shuffled" : Str) (topS 37) (T.fna 26) fd
  g__law_caught : mg ("_law_caught" : Str) = some (.ref (T.fna 27))
  d__law_caught : ∃ fd, Fun K ("_law_caught" : Str) ("_law_caught" : Str) (topS 38) (T.fna 27) fd
  g__law_says : mg ("_law_says" : Str) = some (.ref (T.fna 28))
  d__law_says : ∃ fd, Fun K ("_law_says" : Str) ("_law_says" : Str) (topS 39) (T.fna 28) fd
  g__law_is_number : mg ("_law_is_number" : Str) = some (.ref (T.fna 29))
  d__law_is_number : ∃ fd, Fun K ("_law_is_number" : Str) ("_law_is_number" : Str) (topS 40) (T.fna 29) fd
  g__law_is_row : mg ("_law_is_row" : Str) = some (.ref (T.fna 30))
  d__law_is_row : ∃ fd, Fun K ("_law_is_row" : Str) ("_law_is_row" : Str) (topS 41) (T.fna 30) fd
  g__law_hands : mg ("_law_hands" : Str) = some (.ref (T.fna 31))
  d__law_hands : ∃ fd, Fun K ("_law_hands" : Str) ("_law_hands" : Str) (topS 42) (T.fna 31) fd
  g__law_parts : mg ("_law_parts" : Str) = some (.ref (T.fna 32))
  d__law_parts : ∃ fd, Fun K ("_law_parts" : Str) ("_law_parts" : Str) (topS 43) (T.fna 32) fd
  g__law_long : mg ("_law_long" : Str) = some (.ref (T.fna 33))
  d__law_long : ∃ fd, Fun K ("_law_long" : Str) ("_law_long" : Str) (topS 44) (T.fna 33) fd
  g__law_is_part : mg ("_law_is_part" : Str) = some (.ref (T.fna 34))
  d__law_is_part : ∃ fd, Fun K ("_law_is_part" : Str) ("_law_is_part" : Str) (topS 45) (T.fna 34) fd
  g__law_values : mg ("_law_values" : Str) = some (.ref (T.fna 35))
  d__law_values : ∃ fd, Fun K ("_law_values" : Str) ("_law_values" : Str) (topS 46) (T.fna 35) fd
  g__law_row : mg ("_law_row" : Str) = some (.ref (T.fna 36))
  d__law_row : ∃ fd, Fun K ("_law_row" : Str) ("_law_row" : Str) (topS 47) (T.fna 36) fd
  g__law_some_hands : mg ("_law_some_hands" : Str) = some (.ref (T.fna 37))
  d__law_some_hands : ∃ fd, Fun K ("_law_some_hands" : Str) ("_law_some_hands" : Str) (topS 48) (T.fna 37) fd
  g__law_odd_row : mg ("_law_odd_row" : Str) = some (.ref (T.fna 38))
  d__law_odd_row : ∃ fd, Fun K ("_law_odd_row" : Str) ("_law_odd_row" : Str) (topS 49) (T.fna 38) fd
  g__law_odd_hands : mg ("_law_odd_hands" : Str) = some (.ref (T.fna 39))
  d__law_odd_hands : ∃ fd, Fun K ("_law_odd_hands" : Str) ("_law_odd_hands" : Str) (topS 50) (T.fna 39) fd
  g__law_refused : mg ("_law_refused" : Str) = some (.ref (T.fna 40))
  d__law_refused : ∃ fd, FunC K ("_law_refused" : Str) ("_law_refused" : Str) (topS 51) (T.fna 40) fd (cc 40)
  g_law : mg ("law" : Str) = some (.ref (T.fna 41))
  d_law : ∃ fd, Fun K ("law" : Str) ("law" : Str) (topS 52) (T.fna 41) fd
structure GG (K : PySem.W.Frag) (mg : Str → Option Value) (T : Tb) (cc cp : Nat → Addr) : Prop extends GL K mg T cc cp where
  t__law_refused : (cp 40, ("_law_refused.<locals>.<lambda>" : Str)) ∈ T.tbs
  u__law_refused : ∀ p ∈ T.tbs, p.1 = cp 40 → p.2 = ("_law_refused.<locals>.<lambda>" : Str)
theorem gl_nt {K : PySem.W.Frag} {mg : Str → Option Value} {T : Tb} {cc cp : Nat → Addr} (G : GL K mg T cc cp) : GL K mg { T with tbs := [] } cc cp := {
  kw := ⟨G.kw.bo, G.kw.oo, G.kw.ex⟩
  exm := G.exm
  b_abs := G.b_abs
  b_all := G.b_all
  b_bool := G.b_bool
  b_int := G.b_int
  b_isinstance := G.b_isinstance
  b_len := G.b_len
  b_list := G.b_list
  b_min := G.b_min
  b_range := G.b_range
  b_sorted := G.b_sorted
  b_tuple := G.b_tuple
  b_zip := G.b_zip
  c_HandError := G.c_HandError
  x_HandError := G.x_HandError
  k_HandError := G.k_HandError
  r_HandError := G.r_HandError
  c_BadHand := G.c_BadHand
  x_BadHand := G.x_BadHand
  k_BadHand := G.k_BadHand
  r_BadHand := G.r_BadHand
  c_BadHands := G.c_BadHands
  x_BadHands := G.x_BadHands
  k_BadHands := G.k_BadHands
  r_BadHands := G.r_BadHands
  c_BadRow := G.c_BadRow
  x_BadRow := G.x_BadRow
  k_BadRow := G.k_BadRow
  r_BadRow := G.r_BadRow
  n_GREATEST := G.n_GREATEST
  n_HANDS_MOST := G.n_HANDS_MOST
  g_is_number := G.g_is_number
  d_is_number := G.d_is_number
  g_is_from := G.g_is_from
  d_is_from := G.d_is_from
  g_is_value := G.g_is_value
  d_is_value := G.d_is_value
  g_is_hand := G.g_is_hand
  d_is_hand := G.d_is_hand
  g_is_rising := G.g_is_rising
  d_is_rising := G.d_is_rising
  g_are_hands := G.g_are_hands
  d_are_hands := G.d_are_hands
  g_are_hands_of := G.g_are_hands_of
  d_are_hands_of := G.d_are_hands_of
  g_is_pair := G.g_is_pair
  d_is_pair := G.d_is_pair
  g_are_pairs := G.g_are_pairs
  d_are_pairs := G.d_are_pairs
  g_is_rowlike := G.g_is_rowlike
  d_is_rowlike := G.d_is_rowlike
  g_ask_row := G.g_ask_row
  d_ask_row := G.d_ask_row
  g_is_row := G.g_is_row
  d_is_row := G.d_is_row
  g_hands_of := G.g_hands_of
  d_hands_of := G.d_hands_of
  g_value_of := G.g_value_of
  d_value_of := G.d_value_of
  g_part := G.g_part
  d_part := G.d_part
  g_parts := G.g_parts
  d_parts := G.d_parts
  g_is_part := G.g_is_part
  d_is_part := G.d_is_part
  g_hands_in := G.g_hands_in
  d_hands_in := G.d_hands_in
  g_told_of := G.g_told_of
  d_told_of := G.d_told_of
  g_part_with := G.g_part_with
  d_part_with := G.d_part_with
  g_is_within := G.g_is_within
  d_is_within := G.d_is_within
  g_by_length := G.g_by_length
  d_by_length := G.d_by_length
  g__law_begun := G.g__law_begun
  d__law_begun := G.d__law_begun
  g__law_blend := G.g__law_blend
  d__law_blend := G.d__law_blend
  g__law_take := G.g__law_take
  d__law_take := G.d__law_take
  g__law_pick := G.g__law_pick
  d__law_pick := G.d__law_pick
  g__law_shuffled := G.g__law_shuffled
  d__law_shuffled := G.d__law_shuffled
  g__law_caught := G.g__law_caught
  d__law_caught := G.d__law_caught
  g__law_says := G.g__law_says
  d__law_says := G.d__law_says
  g__law_is_number := G.g__law_is_number
  d__law_is_number := G.d__law_is_number
  g__law_is_row := G.g__law_is_row
  d__law_is_row := G.d__law_is_row
  g__law_hands := G.g__law_hands
  d__law_hands := G.d__law_hands
  g__law_parts := G.g__law_parts
  d__law_parts := G.d__law_parts
  g__law_long := G.g__law_long
  d__law_long := G.d__law_long
  g__law_is_part := G.g__law_is_part
  d__law_is_part := G.d__law_is_part
  g__law_values := G.g__law_values
  d__law_values := G.d__law_values
  g__law_row := G.g__law_row
  d__law_row := G.d__law_row
  g__law_some_hands := G.g__law_some_hands
  d__law_some_hands := G.d__law_some_hands
  g__law_odd_row := G.g__law_odd_row
  d__law_odd_row := G.d__law_odd_row
  g__law_odd_hands := G.g__law_odd_hands
  d__law_odd_hands := G.d__law_odd_hands
  g__law_refused := G.g__law_refused
  d__law_refused := G.d__law_refused
  g_law := G.g_law
  d_law := G.d_law }
theorem bg_is_number_1_ {K : PySem.W.Frag} {f : Addr} {fd : FuncData} (F : Fun K ("is_number" : Str) ("is_number" : Str) (topS 8) f fd) : BindG fd ["thing"] 1 [] [0] := by
  refine Fun.bindG F (by decide) fun kV doc pm an cdv ct us ws h1 h2 => ?_
  match us, ws, h1, h2 with
  | [a0], [], _, _ => kernel_rfl
theorem bg_is_from_3_ {K : PySem.W.Frag} {f : Addr} {fd : FuncData} (F : Fun K ("is_from" : Str) ("is_from" : Str) (topS 9) f fd) : BindG fd ["thing", "low", "high"] 3 [] [0, 1, 2] := by
  refine Fun.bindG F (by decide) fun kV doc pm an cdv ct us ws h1 h2 => ?_
  match us, ws, h1, h2 with
  | [a0, a1, a2], [], _, _ => kernel_rfl
theorem bg_is_hand_1_ {K : PySem.W.Frag} {f : Addr} {fd : FuncData} (F : Fun K ("is_hand" : Str) ("is_hand" : Str) (topS 11) f fd) : BindG fd ["thing"] 1 [] [0] := by
  refine Fun.bindG F (by decide) fun kV doc pm an cdv ct us ws h1 h2 => ?_
  match us, ws, h1, h2 with
  | [a0], [], _, _ => kernel_rfl
theorem bg_is_rising_1_ {K : PySem.W.Frag} {f : Addr} {fd : FuncData} (F : Fun K ("is_rising" : Str) ("is_rising" : Str) (topS 12) f fd) : BindG fd ["numbers"] 1 [] [0] := by
  refine Fun.bindG F (by decide) fun kV doc pm an cdv ct us ws h1 h2 => ?_
  match us, ws, h1, h2 with
  | [a0], [], _, _ => kernel_rfl
theorem bg_are_hands_1_ {K : PySem.W.Frag} {f : Addr} {fd : FuncData} (F : Fun K ("are_hands" : Str) ("are_hands" : Str) (topS 13) f fd) : BindG fd ["thing"] 1 [] [0] := by
  refine Fun.bindG F (by decide) fun kV doc pm an cdv ct us ws h1 h2 => ?_
  match us, ws, h1, h2 with
  | [a0], [], _, _ => kernel_rfl
theorem bg_is_pair_1_ {K : PySem.W.Frag} {f : Addr} {fd : FuncData} (F : Fun K ("is_pair" : Str) ("is_pair" : Str) (topS 15) f fd) : BindG fd ["thing"] 1 [] [0] := by
  refine Fun.bindG F (by decide) fun kV doc pm an cdv ct us ws h1 h2 => ?_
  match us, ws, h1, h2 with
  | [a0], [], _, _ => kernel_rfl
theorem bg_are_pairs_1_ {K : PySem.W.Frag} {f : Addr} {fd : FuncData} (F : Fun K ("are_pairs" : Str) ("are_pairs" : Str) (topS 16) f fd) : BindG fd ["thing"] 1 [] [0] := by
  refine Fun.bindG F (by decide) fun kV doc pm an cdv ct us ws h1 h2 => ?_
  match us, ws, h1, h2 with
  | [a0], [], _, _ => kernel_rfl
theorem bg_is_value_1_ {K : PySem.W.Frag} {f : Addr} {fd : FuncData} (F : Fun K ("is_value" : Str) ("is_value" : Str) (topS 10) f fd) : BindG fd ["thing"] 1 [] [0] := by
  refine Fun.bindG F (by decide) fun kV doc pm an cdv ct us ws h1 h2 => ?_
  match us, ws, h1, h2 with
  | [a0], [], _, _ => kernel_rfl
theorem bg_is_rowlike_1_ {K : PySem.W.Frag} {f : Addr} {fd : FuncData} (F : Fun K ("is_rowlike" : Str) ("is_rowlike" : Str) (topS 17) f fd) : BindG fd ["thing"] 1 [] [0] := by
  refine Fun.bindG F (by decide) fun kV doc pm an cdv ct us ws h1 h2 => ?_
  match us, ws, h1, h2 with
  | [a0], [], _, _ => kernel_rfl
theorem bg_ask_row_1_ {K : PySem.W.Frag} {f : Addr} {fd : FuncData} (F : Fun K ("ask_row" : Str) ("ask_row" : Str) (topS 19) f fd) : BindG fd ["row"] 1 [] [0] := by
  refine Fun.bindG F (by decide) fun kV doc pm an cdv ct us ws h1 h2 => ?_
  match us, ws, h1, h2 with
  | [a0], [], _, _ => kernel_rfl
theorem bg_hands_in_1_ {K : PySem.W.Frag} {f : Addr} {fd : FuncData} (F : Fun K ("hands_in" : Str) ("hands_in" : Str) (topS 27) f fd) : BindG fd ["pairs"] 1 [] [0] := by
  refine Fun.bindG F (by decide) fun kV doc pm an cdv ct us ws h1 h2 => ?_
  match us, ws, h1, h2 with
  | [a0], [], _, _ => kernel_rfl
theorem bg_told_of_2_ {K : PySem.W.Frag} {f : Addr} {fd : FuncData} (F : Fun K ("told_of" : Str) ("told_of" : Str) (topS 28) f fd) : BindG fd ["pairs", "hand"] 2 [] [0, 1] := by
  refine Fun.bindG F (by decide) fun kV doc pm an cdv ct us ws h1 h2 => ?_
  match us, ws, h1, h2 with
  | [a0, a1], [], _, _ => kernel_rfl
theorem bg_are_hands_of_2_ {K : PySem.W.Frag} {f : Addr} {fd : FuncData} (F : Fun K ("are_hands_of" : Str) ("are_hands_of" : Str) (topS 14) f fd) : BindG fd ["hands", "thing"] 2 [] [0, 1] := by
  refine Fun.bindG F (by decide) fun kV doc pm an cdv ct us ws h1 h2 => ?_
  match us, ws, h1, h2 with
  | [a0, a1], [], _, _ => kernel_rfl
theorem bg_part_with_2_ {K : PySem.W.Frag} {f : Addr} {fd : FuncData} (F : Fun K ("part_with" : Str) ("part_with" : Str) (topS 29) f fd) : BindG fd ["pairs", "hands"] 2 [] [0, 1] := by
  refine Fun.bindG F (by decide) fun kV doc pm an cdv ct us ws h1 h2 => ?_
  match us, ws, h1, h2 with
  | [a0, a1], [], _, _ => kernel_rfl
theorem bg_by_length_1_ {K : PySem.W.Frag} {f : Addr} {fd : FuncData} (F : Fun K ("by_length" : Str) ("by_length" : Str) (topS 31) f fd) : BindG fd ["row"] 1 [] [0] := by
  refine Fun.bindG F (by decide) fun kV doc pm an cdv ct us ws h1 h2 => ?_
  match us, ws, h1, h2 with
  | [a0], [], _, _ => kernel_rfl
theorem bg_is_within_2_ {K : PySem.W.Frag} {f : Addr} {fd : FuncData} (F : Fun K ("is_within" : Str) ("is_within" : Str) (topS 30) f fd) : BindG fd ["one", "other"] 2 [] [0, 1] := by
  refine Fun.bindG F (by decide) fun kV doc pm an cdv ct us ws h1 h2 => ?_
  match us, ws, h1, h2 with
  | [a0, a1], [], _, _ => kernel_rfl
theorem bg__law_blend_1_ {K : PySem.W.Frag} {f : Addr} {fd : FuncData} (F : Fun K ("_law_blend" : Str) ("_law_blend" : Str) (topS 34) f fd) : BindG fd ["draw"] 1 [] [0] := by
  refine Fun.bindG F (by decide) fun kV doc pm an cdv ct us ws h1 h2 => ?_
  match us, ws, h1, h2 with
  | [a0], [], _, _ => kernel_rfl
theorem bg__law_take_2_ {K : PySem.W.Frag} {f : Addr} {fd : FuncData} (F : Fun K ("_law_take" : Str) ("_law_take" : Str) (topS 35) f fd) : BindG fd ["draw", "size"] 2 [] [0, 1] := by
  refine Fun.bindG F (by decide) fun kV doc pm an cdv ct us ws h1 h2 => ?_
  match us, ws, h1, h2 with
  | [a0, a1], [], _, _ => kernel_rfl
theorem bg__law_is_number_1_ {K : PySem.W.Frag} {f : Addr} {fd : FuncData} (F : Fun K ("_law_is_number" : Str) ("_law_is_number" : Str) (topS 40) f fd) : BindG fd ["thing"] 1 [] [0] := by
  refine Fun.bindG F (by decide) fun kV doc pm an cdv ct us ws h1 h2 => ?_
  match us, ws, h1, h2 with
  | [a0], [], _, _ => kernel_rfl
theorem bg__law_long_1_ {K : PySem.W.Frag} {f : Addr} {fd : FuncData} (F : Fun K ("_law_long" : Str) ("_law_long" : Str) (topS 44) f fd) : BindG fd ["row"] 1 [] [0] := by
  refine Fun.bindG F (by decide) fun kV doc pm an cdv ct us ws h1 h2 => ?_
  match us, ws, h1, h2 with
  | [a0], [], _, _ => kernel_rfl
theorem bg__law_pick_2_ {K : PySem.W.Frag} {f : Addr} {fd : FuncData} (F : Fun K ("_law_pick" : Str) ("_law_pick" : Str) (topS 36) f fd) : BindG fd ["draw", "some"] 2 [] [0, 1] := by
  refine Fun.bindG F (by decide) fun kV doc pm an cdv ct us ws h1 h2 => ?_
  match us, ws, h1, h2 with
  | [a0, a1], [], _, _ => kernel_rfl
theorem bg__law_shuffled_2_ {K : PySem.W.Frag} {f : Addr} {fd : FuncData} (F : Fun K ("_law_shuffled" : Str) ("_law_shuffled" : Str) (topS 37) f fd) : BindG fd ["draw", "some"] 2 [] [0, 1] := by
  refine Fun.bindG F (by decide) fun kV doc pm an cdv ct us ws h1 h2 => ?_
  match us, ws, h1, h2 with
  | [a0, a1], [], _, _ => kernel_rfl
theorem bg__law_hands_1_ {K : PySem.W.Frag} {f : Addr} {fd : FuncData} (F : Fun K ("_law_hands" : Str) ("_law_hands" : Str) (topS 42) f fd) : BindG fd ["row"] 1 [] [0] := by
  refine Fun.bindG F (by decide) fun kV doc pm an cdv ct us ws h1 h2 => ?_
  match us, ws, h1, h2 with
  | [a0], [], _, _ => kernel_rfl
theorem bg__law_odd_hands_2_ {K : PySem.W.Frag} {f : Addr} {fd : FuncData} (F : Fun K ("_law_odd_hands" : Str) ("_law_odd_hands" : Str) (topS 50) f fd) : BindG fd ["draw", "row"] 2 [] [0, 1] := by
  refine Fun.bindG F (by decide) fun kV doc pm an cdv ct us ws h1 h2 => ?_
  match us, ws, h1, h2 with
  | [a0, a1], [], _, _ => kernel_rfl
theorem bg__law_odd_row_2_ {K : PySem.W.Frag} {f : Addr} {fd : FuncData} (F : Fun K ("_law_odd_row" : Str) ("_law_odd_row" : Str) (topS 49) f fd) : BindG fd ["draw", "row"] 2 [] [0, 1] := by
  refine Fun.bindG F (by decide) fun kV doc pm an cdv ct us ws h1 h2 => ?_
  match us, ws, h1, h2 with
  | [a0, a1], [], _, _ => kernel_rfl
theorem bg_hands_of_1_ {K : PySem.W.Frag} {f : Addr} {fd : FuncData} (F : Fun K ("hands_of" : Str) ("hands_of" : Str) (topS 22) f fd) : BindG fd ["row"] 1 [] [0] := by
  refine Fun.bindG F (by decide) fun kV doc pm an cdv ct us ws h1 h2 => ?_
  match us, ws, h1, h2 with
  | [a0], [], _, _ => kernel_rfl
theorem bg_value_of_2_ {K : PySem.W.Frag} {f : Addr} {fd : FuncData} (F : Fun K ("value_of" : Str) ("value_of" : Str) (topS 23) f fd) : BindG fd ["row", "hand"] 2 [] [0, 1] := by
  refine Fun.bindG F (by decide) fun kV doc pm an cdv ct us ws h1 h2 => ?_
  match us, ws, h1, h2 with
  | [a0, a1], [], _, _ => kernel_rfl
theorem bg_part_2_ {K : PySem.W.Frag} {f : Addr} {fd : FuncData} (F : Fun K ("part" : Str) ("part" : Str) (topS 24) f fd) : BindG fd ["row", "hands"] 2 [] [0, 1] := by
  refine Fun.bindG F (by decide) fun kV doc pm an cdv ct us ws h1 h2 => ?_
  match us, ws, h1, h2 with
  | [a0, a1], [], _, _ => kernel_rfl
theorem bg_parts_1_ {K : PySem.W.Frag} {f : Addr} {fd : FuncData} (F : Fun K ("parts" : Str) ("parts" : Str) (topS 25) f fd) : BindG fd ["row"] 1 [] [0] := by
  refine Fun.bindG F (by decide) fun kV doc pm an cdv ct us ws h1 h2 => ?_
  match us, ws, h1, h2 with
  | [a0], [], _, _ => kernel_rfl
theorem bg_is_part_2_ {K : PySem.W.Frag} {f : Addr} {fd : FuncData} (F : Fun K ("is_part" : Str) ("is_part" : Str) (topS 26) f fd) : BindG fd ["one", "other"] 2 [] [0, 1] := by
  refine Fun.bindG F (by decide) fun kV doc pm an cdv ct us ws h1 h2 => ?_
  match us, ws, h1, h2 with
  | [a0, a1], [], _, _ => kernel_rfl
theorem bg__law_begun_1_ {K : PySem.W.Frag} {f : Addr} {fd : FuncData} (F : Fun K ("_law_begun" : Str) ("_law_begun" : Str) (topS 33) f fd) : BindG fd ["script"] 1 [] [0] := by
  refine Fun.bindG F (by decide) fun kV doc pm an cdv ct us ws h1 h2 => ?_
  match us, ws, h1, h2 with
  | [a0], [], _, _ => kernel_rfl
theorem bg__law_values_2_ {K : PySem.W.Frag} {f : Addr} {fd : FuncData} (F : Fun K ("_law_values" : Str) ("_law_values" : Str) (topS 46) f fd) : BindG fd ["draw", "many"] 2 [] [0, 1] := by
  refine Fun.bindG F (by decide) fun kV doc pm an cdv ct us ws h1 h2 => ?_
  match us, ws, h1, h2 with
  | [a0, a1], [], _, _ => kernel_rfl
theorem bg__law_some_hands_2_ {K : PySem.W.Frag} {f : Addr} {fd : FuncData} (F : Fun K ("_law_some_hands" : Str) ("_law_some_hands" : Str) (topS 48) f fd) : BindG fd ["draw", "many"] 2 [] [0, 1] := by
  refine Fun.bindG F (by decide) fun kV doc pm an cdv ct us ws h1 h2 => ?_
  match us, ws, h1, h2 with
  | [a0, a1], [], _, _ => kernel_rfl
theorem bg__law_row_3_ {K : PySem.W.Frag} {f : Addr} {fd : FuncData} (F : Fun K ("_law_row" : Str) ("_law_row" : Str) (topS 47) f fd) : BindG fd ["draw", "hands", "values"] 3 [] [0, 1, 2] := by
  refine Fun.bindG F (by decide) fun kV doc pm an cdv ct us ws h1 h2 => ?_
  match us, ws, h1, h2 with
  | [a0, a1, a2], [], _, _ => kernel_rfl
theorem bg__law_parts_1_ {K : PySem.W.Frag} {f : Addr} {fd : FuncData} (F : Fun K ("_law_parts" : Str) ("_law_parts" : Str) (topS 43) f fd) : BindG fd ["row"] 1 [] [0] := by
  refine Fun.bindG F (by decide) fun kV doc pm an cdv ct us ws h1 h2 => ?_
  match us, ws, h1, h2 with
  | [a0], [], _, _ => kernel_rfl
theorem bg_is_row_1_ {K : PySem.W.Frag} {f : Addr} {fd : FuncData} (F : Fun K ("is_row" : Str) ("is_row" : Str) (topS 21) f fd) : BindG fd ["thing"] 1 [] [0] := by
  refine Fun.bindG F (by decide) fun kV doc pm an cdv ct us ws h1 h2 => ?_
  match us, ws, h1, h2 with
  | [a0], [], _, _ => kernel_rfl
theorem bg__law_is_row_1_ {K : PySem.W.Frag} {f : Addr} {fd : FuncData} (F : Fun K ("_law_is_row" : Str) ("_law_is_row" : Str) (topS 41) f fd) : BindG fd ["thing"] 1 [] [0] := by
  refine Fun.bindG F (by decide) fun kV doc pm an cdv ct us ws h1 h2 => ?_
  match us, ws, h1, h2 with
  | [a0], [], _, _ => kernel_rfl
theorem bg_is_row_0_thing {K : PySem.W.Frag} {f : Addr} {fd : FuncData} (F : Fun K ("is_row" : Str) ("is_row" : Str) (topS 21) f fd) : BindG fd ["thing"] 0 ["thing"] [0] := by
  refine Fun.bindG F (by decide) fun kV doc pm an cdv ct us ws h1 h2 => ?_
  match us, ws, h1, h2 with
  | [], [b0], _, _ => kernel_rfl
theorem bg__law_says_2_ {K : PySem.W.Frag} {f : Addr} {fd : FuncData} (F : Fun K ("_law_says" : Str) ("_law_says" : Str) (topS 39) f fd) : BindG fd ["found", "due"] 2 [] [0, 1] := by
  refine Fun.bindG F (by decide) fun kV doc pm an cdv ct us ws h1 h2 => ?_
  match us, ws, h1, h2 with
  | [a0, a1], [], _, _ => kernel_rfl
theorem bg_hands_of_0_row {K : PySem.W.Frag} {f : Addr} {fd : FuncData} (F : Fun K ("hands_of" : Str) ("hands_of" : Str) (topS 22) f fd) : BindG fd ["row"] 0 ["row"] [0] := by
  refine Fun.bindG F (by decide) fun kV doc pm an cdv ct us ws h1 h2 => ?_
  match us, ws, h1, h2 with
  | [], [b0], _, _ => kernel_rfl
theorem bg_parts_0_row {K : PySem.W.Frag} {f : Addr} {fd : FuncData} (F : Fun K ("parts" : Str) ("parts" : Str) (topS 25) f fd) : BindG fd ["row"] 0 ["row"] [0] := by
  refine Fun.bindG F (by decide) fun kV doc pm an cdv ct us ws h1 h2 => ?_
  match us, ws, h1, h2 with
  | [], [b0], _, _ => kernel_rfl
theorem bg_value_of_0_hand_row {K : PySem.W.Frag} {f : Addr} {fd : FuncData} (F : Fun K ("value_of" : Str) ("value_of" : Str) (topS 23) f fd) : BindG fd ["row", "hand"] 0 ["hand", "row"] [1, 0] := by
  refine Fun.bindG F (by decide) fun kV doc pm an cdv ct us ws h1 h2 => ?_
  match us, ws, h1, h2 with
  | [], [b0, b1], _, _ => kernel_rfl
theorem bg_part_0_hands_row {K : PySem.W.Frag} {f : Addr} {fd : FuncData} (F : Fun K ("part" : Str) ("part" : Str) (topS 24) f fd) : BindG fd ["row", "hands"] 0 ["hands", "row"] [1, 0] := by
  refine Fun.bindG F (by decide) fun kV doc pm an cdv ct us ws h1 h2 => ?_
  match us, ws, h1, h2 with
  | [], [b0, b1], _, _ => kernel_rfl
theorem bg__law_is_part_2_ {K : PySem.W.Frag} {f : Addr} {fd : FuncData} (F : Fun K ("_law_is_part" : Str) ("_law_is_part" : Str) (topS 45) f fd) : BindG fd ["one", "other"] 2 [] [0, 1] := by
  refine Fun.bindG F (by decide) fun kV doc pm an cdv ct us ws h1 h2 => ?_
  match us, ws, h1, h2 with
  | [a0, a1], [], _, _ => kernel_rfl
theorem bg_is_part_0_other_one {K : PySem.W.Frag} {f : Addr} {fd : FuncData} (F : Fun K ("is_part" : Str) ("is_part" : Str) (topS 26) f fd) : BindG fd ["one", "other"] 0 ["other", "one"] [1, 0] := by
  refine Fun.bindG F (by decide) fun kV doc pm an cdv ct us ws h1 h2 => ?_
  match us, ws, h1, h2 with
  | [], [b0, b1], _, _ => kernel_rfl
theorem bg__law_refused_3_ {K : PySem.W.Frag} {f : Addr} {fd : FuncData} (F : Fun K ("_law_refused" : Str) ("_law_refused" : Str) (topS 51) f fd) : BindG fd ["draw", "row", "other"] 3 [] [0, 1, 2] := by
  refine Fun.bindG F (by decide) fun kV doc pm an cdv ct us ws h1 h2 => ?_
  match us, ws, h1, h2 with
  | [a0, a1, a2], [], _, _ => kernel_rfl
section
variable {P : Program} {w : World} {K : PySem.W.Frag} {mg : Str → Option Value} {base : Heap} {T : Tb} {cc cp : Nat → Addr}
abbrev s_is_number : Stmt := topS 8
theorem sc_is_number : FnScope ["thing"] ["thing"] (defScope s_is_number) := ⟨rfl, rfl, rfl, by decide +kernel, rfl, by decide +kernel, by decide +kernel⟩
def m_is_number : MS := (sCons (sRet (mAnd (mIsi subC (mCons (mVar 0) (mCons (mCon (.ty "int")) mNil))) (mNot (mIsi subC (mCons (mVar 0) (mCons (mCon (.ty "bool")) mNil)))))) sNil)
def f_is_number : Fm := defR m_is_number 0
theorem ok_is_number (G : GL K mg T cc cp) {fd : FuncData} (F : Fun K "is_number" "is_number" s_is_number (T.fna 0) fd) : FnOk P w K mg base (L2.CX P w) 1 (T.fna 0) fd ["thing"] (spI K T.no f_is_number 1) := by
  exact den_fn (T := T.no) (m := m_is_number) F sc_is_number rfl rfl fun cdv A outer s H E hr W tk hp =>
    (den_scons (den_ret (den_and (by exact (den_isi G.kw rfl G.b_isinstance (den_cons (den_var rfl (.inl rfl) rfl rfl) (den_cons (den_ty rfl G.b_int bt_int (by decide) rfl) den_nil rfl) rfl) rfl rfl)) (den_one (den_not (by exact (den_isi G.kw rfl G.b_isinstance (den_cons (den_var rfl (.inl rfl) rfl rfl) (den_cons (den_ty rfl G.b_bool bt_bool (by decide) rfl) den_nil rfl) rfl) rfl rfl))))))
    den_snil)
abbrev s_is_from : Stmt := topS 9
theorem sc_is_from : FnScope ["thing", "low", "high"] ["thing", "low", "high"] (defScope s_is_from) := ⟨rfl, rfl, rfl, by decide +kernel, rfl, by decide +kernel, by decide +kernel⟩
def m_is_from : MS := (sCons (sRet (mAnd (mCallP f_is_number [0] (mCons (mVar 0) mNil) mNil) (mChain .LtE .LtE (mVar 1) (mVar 0) (mVar 2)))) sNil)
def f_is_from : Fm := defR m_is_from 0
theorem ok_is_from (G : GL K mg T cc cp) {fd : FuncData} (F : Fun K "is_from" "is_from" s_is_from (T.fna 1) fd) : FnOk P w K mg base (L2.CX P w) 2 (T.fna 1) fd ["thing", "low", "high"] (spI K T.no f_is_from 3) := by
  obtain ⟨fd_is_number, F_is_number⟩ := G.d_is_number
  exact den_fn (T := T.no) (m := m_is_from) F sc_is_from rfl rfl fun cdv A outer s H E hr W tk hp =>
    (den_scons (den_ret (den_and (by exact (den_callP (k := 1) (ps := ["thing"]) tk (ok_is_number G F_is_number) rfl rfl (hr.mono (by decide)) rfl G.g_is_number F_is_number.kp (bg_is_number_1_ F_is_number) (den_cons (den_var rfl (.inl rfl) rfl rfl) den_nil rfl) denk_nil rfl rfl rfl rfl rfl (lenS len0) len0)) (den_one (den_chain hr.u65 (den_var rfl (.inl rfl) rfl rfl) (den_var rfl (.inl rfl) rfl rfl) (den_var rfl (.inl rfl) rfl rfl) rfl))))
    den_snil)
abbrev s_is_value : Stmt := topS 10
theorem sc_is_value : FnScope ["thing"] ["thing"] (defScope s_is_value) := ⟨rfl, rfl, rfl, by decide +kernel, rfl, by decide +kernel, by decide +kernel⟩
def m_is_value : MS := (sCons (sRet (mCallP f_is_from [0, 1, 2] (mCons (mVar 0) (mCons (mCon (.int 0)) (mCons (mCon (.int 999999999)) mNil))) mNil)) sNil)
def f_is_value : Fm := defR m_is_value 0
theorem ok_is_value (G : GL K mg T cc cp) {fd : FuncData} (F : Fun K "is_value" "is_value" s_is_value (T.fna 2) fd) : FnOk P w K mg base (L2.CX P w) 3 (T.fna 2) fd ["thing"] (spI K T.no f_is_value 1) := by
  obtain ⟨fd_is_from, F_is_from⟩ := G.d_is_from
  exact den_fn (T := T.no) (m := m_is_value) F sc_is_value rfl rfl fun cdv A outer s H E hr W tk hp =>
    (den_scons (den_ret (by exact (den_callP (k := 2) (ps := ["thing", "low", "high"]) tk (ok_is_from G F_is_from) rfl rfl (hr.mono (by decide)) rfl G.g_is_from F_is_from.kp (bg_is_from_3_ F_is_from) (den_cons (den_var rfl (.inl rfl) rfl rfl) (den_cons (den_flat rfl pe_int) (den_cons (den_gint rfl G.n_GREATEST.choose_spec rfl) den_nil rfl) rfl) rfl) denk_nil rfl rfl rfl rfl rfl (lenS (lenS (lenS len0))) len0)))
    den_snil)
abbrev s_is_hand : Stmt := topS 11
theorem sc_is_hand : FnScope ["thing"] ["thing"] (defScope s_is_hand) := ⟨rfl, rfl, rfl, by decide +kernel, rfl, by decide +kernel, by decide +kernel⟩
def m_is_hand : MS := (sCons (sRet (mCallP f_is_from [0, 1, 2] (mCons (mVar 0) (mCons (mCon (.int 0)) (mCons (mOp false .Sub (mCon (.int 4)) (mCon (.int 1))) mNil))) mNil)) sNil)
def f_is_hand : Fm := defR m_is_hand 0
theorem ok_is_hand (G : GL K mg T cc cp) {fd : FuncData} (F : Fun K "is_hand" "is_hand" s_is_hand (T.fna 3) fd) : FnOk P w K mg base (L2.CX P w) 3 (T.fna 3) fd ["thing"] (spI K T.no f_is_hand 1) := by
  obtain ⟨fd_is_from, F_is_from⟩ := G.d_is_from
  exact den_fn (T := T.no) (m := m_is_hand) F sc_is_hand rfl rfl fun cdv A outer s H E hr W tk hp =>
    (den_scons (den_ret (by exact (den_callP (k := 2) (ps := ["thing", "low", "high"]) tk (ok_is_from G F_is_from) rfl rfl (hr.mono (by decide)) rfl G.g_is_from F_is_from.kp (bg_is_from_3_ F_is_from) (den_cons (den_var rfl (.inl rfl) rfl rfl) (den_cons (den_flat rfl pe_int) (den_cons (den_bin (den_gint rfl G.n_HANDS_MOST.choose_spec rfl) (den_flat rfl pe_int)) den_nil rfl) rfl) rfl) denk_nil rfl rfl rfl rfl rfl (lenS (lenS (lenS len0))) len0)))
    den_snil)
abbrev s_is_rising : Stmt := topS 12
theorem sc_is_rising : FnScope ["numbers", "at"] ["numbers"] (defScope s_is_rising) := ⟨rfl, rfl, rfl, by decide +kernel, rfl, by decide +kernel, by decide +kernel⟩
def m_is_rising : MS := (sCons (sRet (mBi false .all (mCons (mComp false (mRng1 (mCons (mOp false .Sub (mBi false .len (mCons (mVar 0) mNil)) (mCon (.int 1))) mNil)) (gNm 1) mYesT (mCmp .Lt (mIx (mVar 0) (mVar 1)) (mIx (mVar 0) (mOp false .Add (mVar 1) (mCon (.int 1))))) [1]) mNil))) sNil)
def f_is_rising : Fm := defR m_is_rising 1
theorem ok_is_rising (G : GL K mg T cc cp) {fd : FuncData} (F : Fun K "is_rising" "is_rising" s_is_rising (T.fna 4) fd) : FnOk P w K mg base (L2.CX P w) 1 (T.fna 4) fd ["numbers"] (spI K T.no f_is_rising 1) := by
  exact den_fn (T := T.no) (m := m_is_rising) F sc_is_rising rfl rfl fun cdv A outer s H E hr W tk hp =>
    (den_scons (den_ret (by exact (den_bi (b := .all) hr.u65 rfl rfl G.b_all (den_cons (by exact (den_comp rfl sc_is_rising.nd (by exact (den_rng1 rfl G.b_range (den_cons (den_bin (by exact (den_bi (b := .len) hr.u65 rfl rfl G.b_len (den_cons (den_var rfl (.inr (.inl rfl)) rfl rfl) den_nil rfl) rfl rfl)) (den_flat rfl pe_int)) den_nil rfl) rfl)) (blkOk_by (own := [("at", 1)]) rfl) rfl (fun s H C cl fp => (den_gnm sc_is_rising.nd rfl (.inl rfl) (.inr rfl))) (keeps_nm (i := 1) (by decide)) (mono_nm (i := 1)) (fun s H C cl fp => den_yesT) (fun s H C cl fp => (den_cmp hr.u65 (den_ix hr.u1 (den_var rfl (.inr (.inl rfl)) rfl rfl) (den_var rfl (.inl rfl) rfl rfl) (fun _ _ => rfl)) (den_ix hr.u1 (den_var rfl (.inr (.inl rfl)) rfl rfl) (den_bin (den_var rfl (.inl rfl) rfl rfl) (den_flat rfl pe_int)) (fun _ _ => rfl)) rfl)) (fun _ => rfl))) den_nil rfl) rfl rfl)))
    den_snil)
abbrev s_are_hands : Stmt := topS 13
theorem sc_are_hands : FnScope ["thing", "hand"] ["thing"] (defScope s_are_hands) := ⟨rfl, rfl, rfl, by decide +kernel, rfl, by decide +kernel, by decide +kernel⟩
def m_are_hands : MS := (sCons (sIf (mOr (mNot (mIsi subC (mCons (mVar 0) (mCons (mCon (.ty "tuple")) mNil)))) (mNot (mChain .LtE .LtE (mCon (.int 1)) (mBi false .len (mCons (mVar 0) mNil)) (mCon (.int 4))))) (sCons (sRet (mCon (.bl false))) sNil) sNil) (sCons (sRet (mAnd (mBi false .all (mCons (mComp false (mSrc (mVar 0)) (gNm 1) mYesT (mCallP f_is_hand [0] (mCons (mVar 1) mNil) mNil) [1]) mNil)) (mCallP f_is_rising [0] (mCons (mVar 0) mNil) mNil))) sNil))
def f_are_hands : Fm := defR m_are_hands 1
theorem ok_are_hands (G : GL K mg T cc cp) {fd : FuncData} (F : Fun K "are_hands" "are_hands" s_are_hands (T.fna 5) fd) : FnOk P w K mg base (L2.CX P w) 4 (T.fna 5) fd ["thing"] (spI K T.no f_are_hands 1) := by
  obtain ⟨fd_is_hand, F_is_hand⟩ := G.d_is_hand
  obtain ⟨fd_is_rising, F_is_rising⟩ := G.d_is_rising
  exact den_fn (T := T.no) (m := m_are_hands) F sc_are_hands rfl rfl fun cdv A outer s H E hr W tk hp =>
    (den_scons (den_if (dent_ptA (dent_or (dent_not (dent_val (by exact (den_isi G.kw rfl G.b_isinstance (den_cons (den_var rfl (.inl rfl) rfl rfl) (den_cons (den_ty rfl G.b_tuple bt_tuple (by decide) rfl) den_nil rfl) rfl) rfl rfl)) (fun _ => rfl))) (dent_or1 (dent_not (dent_chain hr.u65 (den_flat rfl pe_int) (by exact (den_bi (b := .len) hr.u65 rfl rfl G.b_len (den_cons (den_var rfl (.inl rfl) rfl rfl) den_nil rfl) rfl rfl)) (den_gint rfl G.n_HANDS_MOST.choose_spec rfl) rfl))))) (den_scons (den_ret (den_flat rfl pe_bl))
    den_snil) den_snil)
    (den_scons (den_ret (den_and (by exact (den_bi (b := .all) hr.u65 rfl rfl G.b_all (den_cons (by exact (den_comp rfl sc_are_hands.nd (by exact (den_src (den_var rfl (.inl rfl) rfl rfl))) (blkOk_by (own := [("hand", 1)]) rfl) rfl (fun s H C cl fp => (den_gnm sc_are_hands.nd rfl (.inl rfl) (.inr rfl))) (keeps_nm (i := 1) (by decide)) (mono_nm (i := 1)) (fun s H C cl fp => den_yesT) (fun s H C cl fp => (by exact (den_callP (k := 3) (ps := ["thing"]) takes0 (ok_is_hand G F_is_hand) rfl rfl (hr.mono (by decide)) rfl G.g_is_hand F_is_hand.kp (bg_is_hand_1_ F_is_hand) (den_cons (den_var rfl (.inl rfl) rfl rfl) den_nil rfl) denk_nil rfl rfl rfl rfl rfl (lenS len0) len0))) (fun _ => rfl))) den_nil rfl) rfl rfl)) (den_one (by exact (den_callP (k := 1) (ps := ["numbers"]) tk (ok_is_rising G F_is_rising) rfl rfl (hr.mono (by decide)) rfl G.g_is_rising F_is_rising.kp (bg_is_rising_1_ F_is_rising) (den_cons (den_var rfl (.inl rfl) rfl rfl) den_nil rfl) denk_nil rfl rfl rfl rfl rfl (lenS len0) len0)))))
    den_snil))
abbrev s_are_hands_of : Stmt := topS 14
theorem sc_are_hands_of : FnScope ["hands", "thing", "hand"] ["hands", "thing"] (defScope s_are_hands_of) := ⟨rfl, rfl, rfl, by decide +kernel, rfl, by decide +kernel, by decide +kernel⟩
def m_are_hands_of : MS := (sCons (sRet (mAnd (mCallP f_are_hands [0] (mCons (mVar 1) mNil) mNil) (mBi false .all (mCons (mComp false (mSrc (mVar 1)) (gNm 2) mYesT (mCmp .In (mVar 2) (mVar 0)) [2]) mNil)))) sNil)
def f_are_hands_of : Fm := defR m_are_hands_of 1
theorem ok_are_hands_of (G : GL K mg T cc cp) {fd : FuncData} (F : Fun K "are_hands_of" "are_hands_of" s_are_hands_of (T.fna 6) fd) : FnOk P w K mg base (L2.CX P w) 5 (T.fna 6) fd ["hands", "thing"] (spI K T.no f_are_hands_of 2) := by
  obtain ⟨fd_are_hands, F_are_hands⟩ := G.d_are_hands
  exact den_fn (T := T.no) (m := m_are_hands_of) F sc_are_hands_of rfl rfl fun cdv A outer s H E hr W tk hp =>
    (den_scons (den_ret (den_and (by exact (den_callP (k := 4) (ps := ["thing"]) tk (ok_are_hands G F_are_hands) rfl rfl (hr.mono (by decide)) rfl G.g_are_hands F_are_hands.kp (bg_are_hands_1_ F_are_hands) (den_cons (den_var rfl (.inl rfl) rfl rfl) den_nil rfl) denk_nil rfl rfl rfl rfl rfl (lenS len0) len0)) (den_one (by exact (den_bi (b := .all) hr.u65 rfl rfl G.b_all (den_cons (by exact (den_comp rfl sc_are_hands_of.nd (by exact (den_src (den_var rfl (.inl rfl) rfl rfl))) (blkOk_by (own := [("hand", 2)]) rfl) rfl (fun s H C cl fp => (den_gnm sc_are_hands_of.nd rfl (.inl rfl) (.inr rfl))) (keeps_nm (i := 2) (by decide)) (mono_nm (i := 2)) (fun s H C cl fp => den_yesT) (fun s H C cl fp => (den_cmp hr.u65 (den_var rfl (.inl rfl) rfl rfl) (den_var rfl (.inr (.inl rfl)) rfl rfl) rfl)) (fun _ => rfl))) den_nil rfl) rfl rfl)))))
    den_snil)
abbrev s_is_pair : Stmt := topS 15
theorem sc_is_pair : FnScope ["thing"] ["thing"] (defScope s_is_pair) := ⟨rfl, rfl, rfl, by decide +kernel, rfl, by decide +kernel, by decide +kernel⟩
def m_is_pair : MS := (sCons (sRet (mAnd (mIsi subC (mCons (mVar 0) (mCons (mCon (.ty "tuple")) mNil))) (mCmp .Eq (mBi false .len (mCons (mVar 0) mNil)) (mCon (.int 2))))) sNil)
def f_is_pair : Fm := defR m_is_pair 0
theorem ok_is_pair (G : GL K mg T cc cp) {fd : FuncData} (F : Fun K "is_pair" "is_pair" s_is_pair (T.fna 7) fd) : FnOk P w K mg base (L2.CX P w) 1 (T.fna 7) fd ["thing"] (spI K T.no f_is_pair 1) := by
  exact den_fn (T := T.no) (m := m_is_pair) F sc_is_pair rfl rfl fun cdv A outer s H E hr W tk hp =>
    (den_scons (den_ret (den_and (by exact (den_isi G.kw rfl G.b_isinstance (den_cons (den_var rfl (.inl rfl) rfl rfl) (den_cons (den_ty rfl G.b_tuple bt_tuple (by decide) rfl) den_nil rfl) rfl) rfl rfl)) (den_one (den_cmp hr.u65 (by exact (den_bi (b := .len) hr.u65 rfl rfl G.b_len (den_cons (den_var rfl (.inl rfl) rfl rfl) den_nil rfl) rfl rfl)) (den_flat rfl pe_int) rfl))))
    den_snil)
abbrev s_are_pairs : Stmt := topS 16
theorem sc_are_pairs : FnScope ["thing", "pair"] ["thing"] (defScope s_are_pairs) := ⟨rfl, rfl, rfl, by decide +kernel, rfl, by decide +kernel, by decide +kernel⟩
def m_are_pairs : MS := (sCons (sIf (mOr (mNot (mIsi subC (mCons (mVar 0) (mCons (mCon (.ty "tuple")) mNil)))) (mNot (mChain .LtE .LtE (mCon (.int 1)) (mBi false .len (mCons (mVar 0) mNil)) (mCon (.int 4))))) (sCons (sRet (mCon (.bl false))) sNil) sNil) (sCons (sIf (mNot (mBi false .all (mCons (mComp false (mSrc (mVar 0)) (gNm 1) mYesT (mCallP f_is_pair [0] (mCons (mVar 1) mNil) mNil) [1]) mNil))) (sCons (sRet (mCon (.bl false))) sNil) sNil) (sCons (sRet (mCallP f_are_hands [0] (mCons (mBi false .tuple (mCons (mComp false (mSrc (mVar 0)) (gNm 1) mYesT (mIx (mVar 1) (mCon (.int 0))) [1]) mNil)) mNil) mNil)) sNil)))
def f_are_pairs : Fm := defR m_are_pairs 1
theorem ok_are_pairs (G : GL K mg T cc cp) {fd : FuncData} (F : Fun K "are_pairs" "are_pairs" s_are_pairs (T.fna 8) fd) : FnOk P w K mg base (L2.CX P w) 5 (T.fna 8) fd ["thing"] (spI K T.no f_are_pairs 1) := by
  obtain ⟨fd_are_hands, F_are_hands⟩ := G.d_are_hands
  obtain ⟨fd_is_pair, F_is_pair⟩ := G.d_is_pair
  exact den_fn (T := T.no) (m := m_are_pairs) F sc_are_pairs rfl rfl fun cdv A outer s H E hr W tk hp =>
    (den_scons (den_if (dent_ptA (dent_or (dent_not (dent_val (by exact (den_isi G.kw rfl G.b_isinstance (den_cons (den_var rfl (.inl rfl) rfl rfl) (den_cons (den_ty rfl G.b_tuple bt_tuple (by decide) rfl) den_nil rfl) rfl) rfl rfl)) (fun _ => rfl))) (dent_or1 (dent_not (dent_chain hr.u65 (den_flat rfl pe_int) (by exact (den_bi (b := .len) hr.u65 rfl rfl G.b_len (den_cons (den_var rfl (.inl rfl) rfl rfl) den_nil rfl) rfl rfl)) (den_gint rfl G.n_HANDS_MOST.choose_spec rfl) rfl))))) (den_scons (den_ret (den_flat rfl pe_bl))
    den_snil) den_snil)
    (den_scons (den_if (dent_not (dent_val (by exact (den_bi (b := .all) hr.u65 rfl rfl G.b_all (den_cons (by exact (den_comp rfl sc_are_pairs.nd (by exact (den_src (den_var rfl (.inl rfl) rfl rfl))) (blkOk_by (own := [("pair", 1)]) rfl) rfl (fun s H C cl fp => (den_gnm sc_are_pairs.nd rfl (.inl rfl) (.inr rfl))) (keeps_nm (i := 1) (by decide)) (mono_nm (i := 1)) (fun s H C cl fp => den_yesT) (fun s H C cl fp => (by exact (den_callP (k := 1) (ps := ["thing"]) takes0 (ok_is_pair G F_is_pair) rfl rfl (hr.mono (by decide)) rfl G.g_is_pair F_is_pair.kp (bg_is_pair_1_ F_is_pair) (den_cons (den_var rfl (.inl rfl) rfl rfl) den_nil rfl) denk_nil rfl rfl rfl rfl rfl (lenS len0) len0))) (fun _ => rfl))) den_nil rfl) rfl rfl)) (fun _ => rfl))) (den_scons (den_ret (den_flat rfl pe_bl))
    den_snil) den_snil)
    (den_scons (den_ret (by exact (den_callP (k := 4) (ps := ["thing"]) tk (ok_are_hands G F_are_hands) rfl rfl (hr.mono (by decide)) rfl G.g_are_hands F_are_hands.kp (bg_are_hands_1_ F_are_hands) (den_cons (by exact (den_bi (b := .tuple) hr.u65 rfl rfl G.b_tuple (den_cons (by exact (den_comp rfl sc_are_pairs.nd (by exact (den_src (den_var rfl (.inl rfl) rfl rfl))) (blkOk_by (own := [("pair", 1)]) rfl) rfl (fun s H C cl fp => (den_gnm sc_are_pairs.nd rfl (.inl rfl) (.inr rfl))) (keeps_nm (i := 1) (by decide)) (mono_nm (i := 1)) (fun s H C cl fp => den_yesT) (fun s H C cl fp => (den_ix hr.u1 (den_var rfl (.inl rfl) rfl rfl) (den_flat rfl pe_int) (fun _ _ => rfl))) (fun _ => rfl))) den_nil rfl) rfl rfl)) den_nil rfl) denk_nil rfl rfl rfl rfl rfl (lenS len0) len0)))
    den_snil)))
abbrev s_is_rowlike : Stmt := topS 17
theorem sc_is_rowlike : FnScope ["thing", "pair"] ["thing"] (defScope s_is_rowlike) := ⟨rfl, rfl, rfl, by decide +kernel, rfl, by decide +kernel, by decide +kernel⟩
def m_is_rowlike : MS := (sCons (sRet (mAnd (mCallP f_are_pairs [0] (mCons (mVar 0) mNil) mNil) (mBi false .all (mCons (mComp false (mSrc (mVar 0)) (gNm 1) mYesT (mCallP f_is_value [0] (mCons (mIx (mVar 1) (mCon (.int 1))) mNil) mNil) [1]) mNil)))) sNil)
def f_is_rowlike : Fm := defR m_is_rowlike 1
theorem ok_is_rowlike (G : GL K mg T cc cp) {fd : FuncData} (F : Fun K "is_rowlike" "is_rowlike" s_is_rowlike (T.fna 9) fd) : FnOk P w K mg base (L2.CX P w) 6 (T.fna 9) fd ["thing"] (spI K T.no f_is_rowlike 1) := by
  obtain ⟨fd_is_value, F_is_value⟩ := G.d_is_value
  obtain ⟨fd_are_pairs, F_are_pairs⟩ := G.d_are_pairs
  exact den_fn (T := T.no) (m := m_is_rowlike) F sc_is_rowlike rfl rfl fun cdv A outer s H E hr W tk hp =>
    (den_scons (den_ret (den_and (by exact (den_callP (k := 5) (ps := ["thing"]) tk (ok_are_pairs G F_are_pairs) rfl rfl (hr.mono (by decide)) rfl G.g_are_pairs F_are_pairs.kp (bg_are_pairs_1_ F_are_pairs) (den_cons (den_var rfl (.inl rfl) rfl rfl) den_nil rfl) denk_nil rfl rfl rfl rfl rfl (lenS len0) len0)) (den_one (by exact (den_bi (b := .all) hr.u65 rfl rfl G.b_all (den_cons (by exact (den_comp rfl sc_is_rowlike.nd (by exact (den_src (den_var rfl (.inl rfl) rfl rfl))) (blkOk_by (own := [("pair", 1)]) rfl) rfl (fun s H C cl fp => (den_gnm sc_is_rowlike.nd rfl (.inl rfl) (.inr rfl))) (keeps_nm (i := 1) (by decide)) (mono_nm (i := 1)) (fun s H C cl fp => den_yesT) (fun s H C cl fp => (by exact (den_callP (k := 3) (ps := ["thing"]) takes0 (ok_is_value G F_is_value) rfl rfl (hr.mono (by decide)) rfl G.g_is_value F_is_value.kp (bg_is_value_1_ F_is_value) (den_cons (den_ix hr.u1 (den_var rfl (.inl rfl) rfl rfl) (den_flat rfl pe_int) (fun _ _ => rfl)) den_nil rfl) denk_nil rfl rfl rfl rfl rfl (lenS len0) len0))) (fun _ => rfl))) den_nil rfl) rfl rfl)))))
    den_snil)
abbrev s_ask_row : Stmt := topS 19
theorem sc_ask_row : FnScope ["row"] ["row"] (defScope s_ask_row) := ⟨rfl, rfl, rfl, by decide +kernel, rfl, by decide +kernel, by decide +kernel⟩
def m_ask_row : MS := (sCons (sIf (mNot (mCallP f_is_rowlike [0] (mCons (mVar 0) mNil) mNil)) (sCons (sRaise 3) sNil) sNil) sNil)
def f_ask_row : Fm := defR m_ask_row 0
theorem ok_ask_row (G : GL K mg T cc cp) {fd : FuncData} (F : Fun K "ask_row" "ask_row" s_ask_row (T.fna 10) fd) : FnOk P w K mg base (L2.CX P w) 7 (T.fna 10) fd ["row"] (spI K T.no f_ask_row 1) := by
  obtain ⟨fd_is_rowlike, F_is_rowlike⟩ := G.d_is_rowlike
  exact den_fn (T := T.no) (m := m_ask_row) F sc_ask_row rfl rfl fun cdv A outer s H E hr W tk hp =>
    (den_scons (den_if (dent_not (dent_val (by exact (den_callP (k := 6) (ps := ["thing"]) tk (ok_is_rowlike G F_is_rowlike) rfl rfl (hr.mono (by decide)) rfl G.g_is_rowlike F_is_rowlike.kp (bg_is_rowlike_1_ F_is_rowlike) (den_cons (den_var rfl (.inl rfl) rfl rfl) den_nil rfl) denk_nil rfl rfl rfl rfl rfl (lenS len0) len0)) (fun _ => rfl))) (den_scons (den_raise (c := 3) rfl tk PySem.F.excBase_ValueError G.x_BadRow G.c_BadRow G.k_BadRow (G.r_BadRow _ rfl) rfl rfl)
    den_snil) den_snil)
    den_snil)
abbrev s_is_row : Stmt := topS 21
theorem sc_is_row : FnScope ["thing"] ["thing"] (defScope s_is_row) := ⟨rfl, rfl, rfl, by decide +kernel, rfl, by decide +kernel, by decide +kernel⟩
def m_is_row : MS := (sCons (sRet (mCallP f_is_rowlike [0] (mCons (mVar 0) mNil) mNil)) sNil)
def f_is_row : Fm := defR m_is_row 0
theorem ok_is_row (G : GL K mg T cc cp) {fd : FuncData} (F : Fun K "is_row" "is_row" s_is_row (T.fna 11) fd) : FnOk P w K mg base (L2.CX P w) 7 (T.fna 11) fd ["thing"] (spI K T.no f_is_row 1) := by
  obtain ⟨fd_is_rowlike, F_is_rowlike⟩ := G.d_is_rowlike
  exact den_fn (T := T.no) (m := m_is_row) F sc_is_row rfl rfl fun cdv A outer s H E hr W tk hp =>
    (den_scons (den_ret (by exact (den_callP (k := 6) (ps := ["thing"]) tk (ok_is_rowlike G F_is_rowlike) rfl rfl (hr.mono (by decide)) rfl G.g_is_rowlike F_is_rowlike.kp (bg_is_rowlike_1_ F_is_rowlike) (den_cons (den_var rfl (.inl rfl) rfl rfl) den_nil rfl) denk_nil rfl rfl rfl rfl rfl (lenS len0) len0)))
    den_snil)
abbrev s_hands_in : Stmt := topS 27
theorem sc_hands_in : FnScope ["pairs", "pair"] ["pairs"] (defScope s_hands_in) := ⟨rfl, rfl, rfl, by decide +kernel, rfl, by decide +kernel, by decide +kernel⟩
def m_hands_in : MS := (sCons (sRet (mBi false .tuple (mCons (mComp false (mSrc (mVar 0)) (gNm 1) mYesT (mIx (mVar 1) (mCon (.int 0))) [1]) mNil))) sNil)
def f_hands_in : Fm := defR m_hands_in 1
theorem ok_hands_in (G : GL K mg T cc cp) {fd : FuncData} (F : Fun K "hands_in" "hands_in" s_hands_in (T.fna 17) fd) : FnOk P w K mg base (L2.CX P w) 1 (T.fna 17) fd ["pairs"] (spI K T.no f_hands_in 1) := by
  exact den_fn (T := T.no) (m := m_hands_in) F sc_hands_in rfl rfl fun cdv A outer s H E hr W tk hp =>
    (den_scons (den_ret (by exact (den_bi (b := .tuple) hr.u65 rfl rfl G.b_tuple (den_cons (by exact (den_comp rfl sc_hands_in.nd (by exact (den_src (den_var rfl (.inl rfl) rfl rfl))) (blkOk_by (own := [("pair", 1)]) rfl) rfl (fun s H C cl fp => (den_gnm sc_hands_in.nd rfl (.inl rfl) (.inr rfl))) (keeps_nm (i := 1) (by decide)) (mono_nm (i := 1)) (fun s H C cl fp => den_yesT) (fun s H C cl fp => (den_ix hr.u1 (den_var rfl (.inl rfl) rfl rfl) (den_flat rfl pe_int) (fun _ _ => rfl))) (fun _ => rfl))) den_nil rfl) rfl rfl)))
    den_snil)
abbrev s_hands_of : Stmt := topS 22
theorem sc_hands_of : FnScope ["row"] ["row"] (defScope s_hands_of) := ⟨rfl, rfl, rfl, by decide +kernel, rfl, by decide +kernel, by decide +kernel⟩
def m_hands_of : MS := (sCons (sDrop (mCallP f_ask_row [0] (mCons (mVar 0) mNil) mNil)) (sCons (sRet (mCallP f_hands_in [0] (mCons (mVar 0) mNil) mNil)) sNil))
def f_hands_of : Fm := defR m_hands_of 0
theorem ok_hands_of (G : GL K mg T cc cp) {fd : FuncData} (F : Fun K "hands_of" "hands_of" s_hands_of (T.fna 12) fd) : FnOk P w K mg base (L2.CX P w) 8 (T.fna 12) fd ["row"] (spI K T.no f_hands_of 1) := by
  obtain ⟨fd_ask_row, F_ask_row⟩ := G.d_ask_row
  obtain ⟨fd_hands_in, F_hands_in⟩ := G.d_hands_in
  exact den_fn (T := T.no) (m := m_hands_of) F sc_hands_of rfl rfl fun cdv A outer s H E hr W tk hp =>
    (den_scons (den_drop (by exact (den_callP (k := 7) (ps := ["row"]) tk (ok_ask_row G F_ask_row) rfl rfl (hr.mono (by decide)) rfl G.g_ask_row F_ask_row.kp (bg_ask_row_1_ F_ask_row) (den_cons (den_var rfl (.inl rfl) rfl rfl) den_nil rfl) denk_nil rfl rfl rfl rfl rfl (lenS len0) len0)) rfl)
    (den_scons (den_ret (by exact (den_callP (k := 1) (ps := ["pairs"]) tk (ok_hands_in G F_hands_in) rfl rfl (hr.mono (by decide)) rfl G.g_hands_in F_hands_in.kp (bg_hands_in_1_ F_hands_in) (den_cons (den_var rfl (.inl rfl) rfl rfl) den_nil rfl) denk_nil rfl rfl rfl rfl rfl (lenS len0) len0)))
    den_snil))
abbrev s_told_of : Stmt := topS 28
theorem sc_told_of : FnScope ["pairs", "hand", "pair"] ["pairs", "hand"] (defScope s_told_of) := ⟨rfl, rfl, rfl, by decide +kernel, rfl, by decide +kernel, by decide +kernel⟩
def m_told_of : MS := (sCons (sRet (mIx (mComp false (mSrc (mVar 0)) (gNm 2) (mT (mCmp .Eq (mIx (mVar 2) (mCon (.int 0))) (mVar 1))) (mIx (mVar 2) (mCon (.int 1))) [2]) (mCon (.int 0)))) sNil)
def f_told_of : Fm := defR m_told_of 1
theorem ok_told_of (G : GL K mg T cc cp) {fd : FuncData} (F : Fun K "told_of" "told_of" s_told_of (T.fna 18) fd) : FnOk P w K mg base (L2.CX P w) 1 (T.fna 18) fd ["pairs", "hand"] (spI K T.no f_told_of 2) := by
  exact den_fn (T := T.no) (m := m_told_of) F sc_told_of rfl rfl fun cdv A outer s H E hr W tk hp =>
    (den_scons (den_ret (den_ix hr.u1 (by exact (den_comp rfl sc_told_of.nd (by exact (den_src (den_var rfl (.inl rfl) rfl rfl))) (blkOk_by (own := [("pair", 2)]) rfl) rfl (fun s H C cl fp => (den_gnm sc_told_of.nd rfl (.inl rfl) (.inr rfl))) (keeps_nm (i := 2) (by decide)) (mono_nm (i := 2)) (fun s H C cl fp => (den_oneT (dent_cmpT hr.u65 (den_ix hr.u1 (den_var rfl (.inl rfl) rfl rfl) (den_flat rfl pe_int) (fun _ _ => rfl)) (den_var rfl (.inr (.inl rfl)) rfl rfl) rfl))) (fun s H C cl fp => (den_ix hr.u1 (den_var rfl (.inl rfl) rfl rfl) (den_flat rfl pe_int) (fun _ _ => rfl))) (fun _ => rfl))) (den_flat rfl pe_int) (fun _ _ => rfl)))
    den_snil)
abbrev s_value_of : Stmt := topS 23
theorem sc_value_of : FnScope ["row", "hand"] ["row", "hand"] (defScope s_value_of) := ⟨rfl, rfl, rfl, by decide +kernel, rfl, by decide +kernel, by decide +kernel⟩
def m_value_of : MS := (sCons (sDrop (mCallP f_ask_row [0] (mCons (mVar 0) mNil) mNil)) (sCons (sIf (mOr (mNot (mCallP f_is_number [0] (mCons (mVar 1) mNil) mNil)) (mCmp .NotIn (mVar 1) (mCallP f_hands_in [0] (mCons (mVar 0) mNil) mNil))) (sCons (sRaise 1) sNil) sNil) (sCons (sRet (mCallP f_told_of [0, 1] (mCons (mVar 0) (mCons (mVar 1) mNil)) mNil)) sNil)))
def f_value_of : Fm := defR m_value_of 0
theorem ok_value_of (G : GL K mg T cc cp) {fd : FuncData} (F : Fun K "value_of" "value_of" s_value_of (T.fna 13) fd) : FnOk P w K mg base (L2.CX P w) 8 (T.fna 13) fd ["row", "hand"] (spI K T.no f_value_of 2) := by
  obtain ⟨fd_is_number, F_is_number⟩ := G.d_is_number
  obtain ⟨fd_ask_row, F_ask_row⟩ := G.d_ask_row
  obtain ⟨fd_hands_in, F_hands_in⟩ := G.d_hands_in
  obtain ⟨fd_told_of, F_told_of⟩ := G.d_told_of
  exact den_fn (T := T.no) (m := m_value_of) F sc_value_of rfl rfl fun cdv A outer s H E hr W tk hp =>
    (den_scons (den_drop (by exact (den_callP (k := 7) (ps := ["row"]) tk (ok_ask_row G F_ask_row) rfl rfl (hr.mono (by decide)) rfl G.g_ask_row F_ask_row.kp (bg_ask_row_1_ F_ask_row) (den_cons (den_var rfl (.inl rfl) rfl rfl) den_nil rfl) denk_nil rfl rfl rfl rfl rfl (lenS len0) len0)) rfl)
    (den_scons (den_if (dent_ptA (dent_or (dent_not (dent_val (by exact (den_callP (k := 1) (ps := ["thing"]) tk (ok_is_number G F_is_number) rfl rfl (hr.mono (by decide)) rfl G.g_is_number F_is_number.kp (bg_is_number_1_ F_is_number) (den_cons (den_var rfl (.inl rfl) rfl rfl) den_nil rfl) denk_nil rfl rfl rfl rfl rfl (lenS len0) len0)) (fun _ => rfl))) (dent_or1 (dent_cmpT hr.u65 (den_var rfl (.inl rfl) rfl rfl) (by exact (den_callP (k := 1) (ps := ["pairs"]) tk (ok_hands_in G F_hands_in) rfl rfl (hr.mono (by decide)) rfl G.g_hands_in F_hands_in.kp (bg_hands_in_1_ F_hands_in) (den_cons (den_var rfl (.inl rfl) rfl rfl) den_nil rfl) denk_nil rfl rfl rfl rfl rfl (lenS len0) len0)) rfl)))) (den_scons (den_raise (c := 1) rfl tk PySem.F.excBase_ValueError G.x_BadHand G.c_BadHand G.k_BadHand (G.r_BadHand _ rfl) rfl rfl)
    den_snil) den_snil)
    (den_scons (den_ret (by exact (den_callP (k := 1) (ps := ["pairs", "hand"]) tk (ok_told_of G F_told_of) rfl rfl (hr.mono (by decide)) rfl G.g_told_of F_told_of.kp (bg_told_of_2_ F_told_of) (den_cons (den_var rfl (.inl rfl) rfl rfl) (den_cons (den_var rfl (.inl rfl) rfl rfl) den_nil rfl) rfl) denk_nil rfl rfl rfl rfl rfl (lenS (lenS len0)) len0)))
    den_snil)))
abbrev s_part_with : Stmt := topS 29
theorem sc_part_with : FnScope ["pairs", "hands", "pair"] ["pairs", "hands"] (defScope s_part_with) := ⟨rfl, rfl, rfl, by decide +kernel, rfl, by decide +kernel, by decide +kernel⟩
def m_part_with : MS := (sCons (sRet (mBi false .tuple (mCons (mComp false (mSrc (mVar 0)) (gNm 2) (mT (mCmp .In (mIx (mVar 2) (mCon (.int 0))) (mVar 1))) (mVar 2) [2]) mNil))) sNil)
def f_part_with : Fm := defR m_part_with 1
theorem ok_part_with (G : GL K mg T cc cp) {fd : FuncData} (F : Fun K "part_with" "part_with" s_part_with (T.fna 19) fd) : FnOk P w K mg base (L2.CX P w) 1 (T.fna 19) fd ["pairs", "hands"] (spI K T.no f_part_with 2) := by
  exact den_fn (T := T.no) (m := m_part_with) F sc_part_with rfl rfl fun cdv A outer s H E hr W tk hp =>
    (den_scons (den_ret (by exact (den_bi (b := .tuple) hr.u65 rfl rfl G.b_tuple (den_cons (by exact (den_comp rfl sc_part_with.nd (by exact (den_src (den_var rfl (.inl rfl) rfl rfl))) (blkOk_by (own := [("pair", 2)]) rfl) rfl (fun s H C cl fp => (den_gnm sc_part_with.nd rfl (.inl rfl) (.inr rfl))) (keeps_nm (i := 2) (by decide)) (mono_nm (i := 2)) (fun s H C cl fp => (den_oneT (dent_cmpT hr.u65 (den_ix hr.u1 (den_var rfl (.inl rfl) rfl rfl) (den_flat rfl pe_int) (fun _ _ => rfl)) (den_var rfl (.inr (.inl rfl)) rfl rfl) rfl))) (fun s H C cl fp => (den_var rfl (.inl rfl) rfl rfl)) (fun _ => rfl))) den_nil rfl) rfl rfl)))
    den_snil)
abbrev s_part : Stmt := topS 24
theorem sc_part : FnScope ["row", "hands"] ["row", "hands"] (defScope s_part) := ⟨rfl, rfl, rfl, by decide +kernel, rfl, by decide +kernel, by decide +kernel⟩
def m_part : MS := (sCons (sDrop (mCallP f_ask_row [0] (mCons (mVar 0) mNil) mNil)) (sCons (sIf (mNot (mCallP f_are_hands_of [0, 1] (mCons (mCallP f_hands_in [0] (mCons (mVar 0) mNil) mNil) (mCons (mVar 1) mNil)) mNil)) (sCons (sRaise 2) sNil) sNil) (sCons (sRet (mCallP f_part_with [0, 1] (mCons (mVar 0) (mCons (mVar 1) mNil)) mNil)) sNil)))
def f_part : Fm := defR m_part 0
theorem ok_part (G : GL K mg T cc cp) {fd : FuncData} (F : Fun K "part" "part" s_part (T.fna 14) fd) : FnOk P w K mg base (L2.CX P w) 8 (T.fna 14) fd ["row", "hands"] (spI K T.no f_part 2) := by
  obtain ⟨fd_are_hands_of, F_are_hands_of⟩ := G.d_are_hands_of
  obtain ⟨fd_ask_row, F_ask_row⟩ := G.d_ask_row
  obtain ⟨fd_hands_in, F_hands_in⟩ := G.d_hands_in
  obtain ⟨fd_part_with, F_part_with⟩ := G.d_part_with
  exact den_fn (T := T.no) (m := m_part) F sc_part rfl rfl fun cdv A outer s H E hr W tk hp =>
    (den_scons (den_drop (by exact (den_callP (k := 7) (ps := ["row"]) tk (ok_ask_row G F_ask_row) rfl rfl (hr.mono (by decide)) rfl G.g_ask_row F_ask_row.kp (bg_ask_row_1_ F_ask_row) (den_cons (den_var rfl (.inl rfl) rfl rfl) den_nil rfl) denk_nil rfl rfl rfl rfl rfl (lenS len0) len0)) rfl)
    (den_scons (den_if (dent_not (dent_val (by exact (den_callP (k := 5) (ps := ["hands", "thing"]) tk (ok_are_hands_of G F_are_hands_of) rfl rfl (hr.mono (by decide)) rfl G.g_are_hands_of F_are_hands_of.kp (bg_are_hands_of_2_ F_are_hands_of) (den_cons (by exact (den_callP (k := 1) (ps := ["pairs"]) tk (ok_hands_in G F_hands_in) rfl rfl (hr.mono (by decide)) rfl G.g_hands_in F_hands_in.kp (bg_hands_in_1_ F_hands_in) (den_cons (den_var rfl (.inl rfl) rfl rfl) den_nil rfl) denk_nil rfl rfl rfl rfl rfl (lenS len0) len0)) (den_cons (den_var rfl (.inl rfl) rfl rfl) den_nil rfl) rfl) denk_nil rfl rfl rfl rfl rfl (lenS (lenS len0)) len0)) (fun _ => rfl))) (den_scons (den_raise (c := 2) rfl tk PySem.F.excBase_ValueError G.x_BadHands G.c_BadHands G.k_BadHands (G.r_BadHands _ rfl) rfl rfl)
    den_snil) den_snil)
    (den_scons (den_ret (by exact (den_callP (k := 1) (ps := ["pairs", "hands"]) tk (ok_part_with G F_part_with) rfl rfl (hr.mono (by decide)) rfl G.g_part_with F_part_with.kp (bg_part_with_2_ F_part_with) (den_cons (den_var rfl (.inl rfl) rfl rfl) (den_cons (den_var rfl (.inl rfl) rfl rfl) den_nil rfl) rfl) denk_nil rfl rfl rfl rfl rfl (lenS (lenS len0)) len0)))
    den_snil)))
abbrev s_by_length : Stmt := topS 31
theorem sc_by_length : FnScope ["row"] ["row"] (defScope s_by_length) := ⟨rfl, rfl, rfl, by decide +kernel, rfl, by decide +kernel, by decide +kernel⟩
def m_by_length : MS := (sCons (sRet (mTup (mCons (mBi false .len (mCons (mVar 0) mNil)) (mCons (mVar 0) mNil)))) sNil)
def f_by_length : Fm := defR m_by_length 0
theorem ok_by_length (G : GL K mg T cc cp) {fd : FuncData} (F : Fun K "by_length" "by_length" s_by_length (T.fna 21) fd) : FnOk P w K mg base (L2.CX P w) 1 (T.fna 21) fd ["row"] (spI K T.no f_by_length 1) := by
  exact den_fn (T := T.no) (m := m_by_length) F sc_by_length rfl rfl fun cdv A outer s H E hr W tk hp =>
    (den_scons (den_ret (den_tup (den_cons (by exact (den_bi (b := .len) hr.u65 rfl rfl G.b_len (den_cons (den_var rfl (.inl rfl) rfl rfl) den_nil rfl) rfl rfl)) (den_cons (den_var rfl (.inl rfl) rfl rfl) den_nil rfl) rfl)))
    den_snil)
abbrev s_parts : Stmt := topS 25
theorem sc_parts : FnScope ["row", "found", "pair", "pairs"] ["row"] (defScope s_parts) := ⟨rfl, rfl, rfl, by decide +kernel, rfl, by decide +kernel, by decide +kernel⟩
def m_parts : MS := (sCons (sDrop (mCallP f_ask_row [0] (mCons (mVar 0) mNil) mNil)) (sCons (sSet 1 (mLst false (mCons (mTup mNil) mNil))) (sCons (sFor (mSrc (mVar 0)) (gNm 2) (sCons (sSet 1 (mOp false .Add (mVar 1) (mComp false (mSrc (mVar 1)) (gNm 3) mYesT (mOp false .Add (mVar 3) (mTup (mCons (mVar 2) mNil))) [3]))) sNil)) (sCons (sRet (mSortK false f_by_length (mSl false (mVar 1) (mYes (mCon (.int 1))) mNo))) sNil))))
def f_parts : Fm := defR m_parts 3
theorem ok_parts (G : GL K mg T cc cp) {fd : FuncData} (F : Fun K "parts" "parts" s_parts (T.fna 15) fd) : FnOk P w K mg base (L2.CX P w) 8 (T.fna 15) fd ["row"] (spI K T.no f_parts 1) := by
  obtain ⟨fd_ask_row, F_ask_row⟩ := G.d_ask_row
  obtain ⟨fd_by_length, F_by_length⟩ := G.d_by_length
  exact den_fn (T := T.no) (m := m_parts) F sc_parts rfl rfl fun cdv A outer s H E hr W tk hp =>
    (den_scons (den_drop (by exact (den_callP (k := 7) (ps := ["row"]) tk (ok_ask_row G F_ask_row) rfl rfl (hr.mono (by decide)) rfl G.g_ask_row F_ask_row.kp (bg_ask_row_1_ F_ask_row) (den_cons (den_var rfl (.inl rfl) rfl rfl) den_nil rfl) denk_nil rfl rfl rfl rfl rfl (lenS len0) len0)) rfl)
    (den_scons (den_set sc_parts.nd rfl (.inl rfl) (.inl rfl) (den_lst (den_cons (den_tup den_nil) den_nil rfl)) rfl)
    (den_scons (den_for hp rfl (by exact (den_src (den_var rfl (.inl rfl) rfl rfl))) (den_gnm sc_parts.nd rfl (.inr rfl) (.inl rfl)) (den_scons (den_set sc_parts.nd rfl (.inl rfl) (.inl rfl) (den_bin (den_var rfl (.inl rfl) rfl rfl) (by exact (den_comp rfl sc_parts.nd (by exact (den_src (den_var rfl (.inl rfl) rfl rfl))) (blkOk_by (own := [("pairs", 3)]) rfl) rfl (fun s H C cl fp => (den_gnm sc_parts.nd rfl (.inl rfl) (.inr rfl))) (keeps_nm (i := 3) (by decide)) (mono_nm (i := 3)) (fun s H C cl fp => den_yesT) (fun s H C cl fp => (den_bin (den_var rfl (.inl rfl) rfl rfl) (den_tup (den_cons (den_var rfl (.inr (.inl rfl)) rfl rfl) den_nil rfl)))) (fun _ => rfl)))) rfl)
    den_snil) (fun _ => rfl))
    (den_scons (den_ret (by exact (den_sortK (k := 1) hr.u65 (ok_by_length (gl_nt G) F_by_length) rfl (bg_by_length_1_ F_by_length) (hr.mono (by decide)) rfl G.b_sorted (den_sl (den_var rfl (.inl rfl) rfl rfl) (den_yes (den_flat rfl pe_int)) den_no) rfl G.g_by_length rfl rfl rfl rfl rfl rfl rfl)))
    den_snil))))
abbrev s_is_within : Stmt := topS 30
theorem sc_is_within : FnScope ["one", "other", "pair"] ["one", "other"] (defScope s_is_within) := ⟨rfl, rfl, rfl, by decide +kernel, rfl, by decide +kernel, by decide +kernel⟩
def m_is_within : MS := (sCons (sRet (mBi false .all (mCons (mComp false (mSrc (mVar 0)) (gNm 2) mYesT (mCmp .In (mVar 2) (mVar 1)) [2]) mNil))) sNil)
def f_is_within : Fm := defR m_is_within 1
theorem ok_is_within (G : GL K mg T cc cp) {fd : FuncData} (F : Fun K "is_within" "is_within" s_is_within (T.fna 20) fd) : FnOk P w K mg base (L2.CX P w) 1 (T.fna 20) fd ["one", "other"] (spI K T.no f_is_within 2) := by
  exact den_fn (T := T.no) (m := m_is_within) F sc_is_within rfl rfl fun cdv A outer s H E hr W tk hp =>
    (den_scons (den_ret (by exact (den_bi (b := .all) hr.u65 rfl rfl G.b_all (den_cons (by exact (den_comp rfl sc_is_within.nd (by exact (den_src (den_var rfl (.inl rfl) rfl rfl))) (blkOk_by (own := [("pair", 2)]) rfl) rfl (fun s H C cl fp => (den_gnm sc_is_within.nd rfl (.inl rfl) (.inr rfl))) (keeps_nm (i := 2) (by decide)) (mono_nm (i := 2)) (fun s H C cl fp => den_yesT) (fun s H C cl fp => (den_cmp hr.u65 (den_var rfl (.inl rfl) rfl rfl) (den_var rfl (.inr (.inl rfl)) rfl rfl) rfl)) (fun _ => rfl))) den_nil rfl) rfl rfl)))
    den_snil)
abbrev s_is_part : Stmt := topS 26
theorem sc_is_part : FnScope ["one", "other"] ["one", "other"] (defScope s_is_part) := ⟨rfl, rfl, rfl, by decide +kernel, rfl, by decide +kernel, by decide +kernel⟩
def m_is_part : MS := (sCons (sDrop (mCallP f_ask_row [0] (mCons (mVar 0) mNil) mNil)) (sCons (sDrop (mCallP f_ask_row [0] (mCons (mVar 1) mNil) mNil)) (sCons (sRet (mCallP f_is_within [0, 1] (mCons (mVar 0) (mCons (mVar 1) mNil)) mNil)) sNil)))
def f_is_part : Fm := defR m_is_part 0
theorem ok_is_part (G : GL K mg T cc cp) {fd : FuncData} (F : Fun K "is_part" "is_part" s_is_part (T.fna 16) fd) : FnOk P w K mg base (L2.CX P w) 8 (T.fna 16) fd ["one", "other"] (spI K T.no f_is_part 2) := by
  obtain ⟨fd_ask_row, F_ask_row⟩ := G.d_ask_row
  obtain ⟨fd_is_within, F_is_within⟩ := G.d_is_within
  exact den_fn (T := T.no) (m := m_is_part) F sc_is_part rfl rfl fun cdv A outer s H E hr W tk hp =>
    (den_scons (den_drop (by exact (den_callP (k := 7) (ps := ["row"]) tk (ok_ask_row G F_ask_row) rfl rfl (hr.mono (by decide)) rfl G.g_ask_row F_ask_row.kp (bg_ask_row_1_ F_ask_row) (den_cons (den_var rfl (.inl rfl) rfl rfl) den_nil rfl) denk_nil rfl rfl rfl rfl rfl (lenS len0) len0)) rfl)
    (den_scons (den_drop (by exact (den_callP (k := 7) (ps := ["row"]) tk (ok_ask_row G F_ask_row) rfl rfl (hr.mono (by decide)) rfl G.g_ask_row F_ask_row.kp (bg_ask_row_1_ F_ask_row) (den_cons (den_var rfl (.inl rfl) rfl rfl) den_nil rfl) denk_nil rfl rfl rfl rfl rfl (lenS len0) len0)) rfl)
    (den_scons (den_ret (by exact (den_callP (k := 1) (ps := ["one", "other"]) tk (ok_is_within G F_is_within) rfl rfl (hr.mono (by decide)) rfl G.g_is_within F_is_within.kp (bg_is_within_2_ F_is_within) (den_cons (den_var rfl (.inl rfl) rfl rfl) (den_cons (den_var rfl (.inl rfl) rfl rfl) den_nil rfl) rfl) denk_nil rfl rfl rfl rfl rfl (lenS (lenS len0)) len0)))
    den_snil)))
abbrev s__law_begun : Stmt := topS 33
theorem sc__law_begun : FnScope ["script", "large", "cell"] ["script"] (defScope s__law_begun) := ⟨rfl, rfl, rfl, by decide +kernel, rfl, by decide +kernel, by decide +kernel⟩
def m__law_begun : MS := (sCons (sSet 1 (mComp true (mSrc (mVar 0)) (gNm 2) (mT (mCmp .GtE (mBi false .abs (mCons (mVar 2) mNil)) (mOp false .Pow (mCon (.int 10)) (mCon (.int 18))))) (mOp false .Sub (mBi false .abs (mCons (mVar 2) mNil)) (mOp false .Pow (mCon (.int 10)) (mCon (.int 18)))) [2])) (sCons (sRet (mDict true (((mCon (.str ("large" : Str))), (mVar 1)) :: (((mCon (.str ("cells" : Str))), (mComp false (mSrc (mVar 0)) (gNm 2) mYesT (mBi false .abs (mCons (mVar 2) mNil)) [2])) :: (((mCon (.str ("rest" : Str))), (mCon (.int 0))) :: (((mCon (.str ("turn" : Str))), (mCon (.int 0))) :: [])))))) sNil))
def f__law_begun : Fm := defR m__law_begun 2
theorem ok__law_begun (G : GL K mg T cc cp) {fd : FuncData} (F : Fun K "_law_begun" "_law_begun" s__law_begun (T.fna 22) fd) : FnOk P w K mg base (L2.CX P w) 1 (T.fna 22) fd ["script"] (spI K T.no f__law_begun 1) := by
  exact den_fn (T := T.no) (m := m__law_begun) F sc__law_begun rfl rfl fun cdv A outer s H E hr W tk hp =>
    (den_scons (den_setComp rfl sc__law_begun.nd rfl rfl (sw_true rfl rfl rfl (by decide +kernel)) (by exact (den_src (den_var rfl (.inl rfl) rfl rfl))) (blkOk_by (own := [("cell", 2)]) rfl) rfl (fun s H C cl fp => (den_gnm sc__law_begun.nd rfl (.inl rfl) (.inr rfl))) (keeps_nm (i := 2) (by decide)) (mono_nm (i := 2)) (fun s H C cl fp => (den_oneT (dent_cmpT hr.u65 (by exact (den_bi (b := .abs) hr.u65 rfl rfl G.b_abs (den_cons (den_var rfl (.inl rfl) rfl rfl) den_nil rfl) rfl rfl)) (den_bin (den_flat rfl pe_int) (den_flat rfl pe_int)) rfl))) (fun s H C cl fp => (den_bin (by exact (den_bi (b := .abs) hr.u65 rfl rfl G.b_abs (den_cons (den_var rfl (.inl rfl) rfl rfl) den_nil rfl) rfl rfl)) (den_bin (den_flat rfl pe_int) (den_flat rfl pe_int)))) (fun _ => rfl))
    (den_scons (den_ret (den_disp (den_pcons (den_flat rfl pe_str) (den_var rfl (.inl rfl) rfl rfl) (den_pcons (den_flat rfl pe_str) (by exact (den_comp rfl sc__law_begun.nd (by exact (den_src (den_var rfl (.inl rfl) rfl rfl))) (blkOk_by (own := [("cell", 2)]) rfl) rfl (fun s H C cl fp => (den_gnm sc__law_begun.nd rfl (.inl rfl) (.inr rfl))) (keeps_nm (i := 2) (by decide)) (mono_nm (i := 2)) (fun s H C cl fp => den_yesT) (fun s H C cl fp => (by exact (den_bi (b := .abs) hr.u65 rfl rfl G.b_abs (den_cons (den_var rfl (.inl rfl) rfl rfl) den_nil rfl) rfl rfl))) (fun _ => rfl))) (den_pcons (den_flat rfl pe_str) (den_flat rfl pe_int) (den_pcons (den_flat rfl pe_str) (den_flat rfl pe_int) den_pnil)))) rfl rfl (by decide) (by decide)))
    den_snil))
abbrev s__law_blend : Stmt := topS 34
theorem sc__law_blend : FnScope ["draw", "prime", "turn", "found", "stirred", "cell"] ["draw"] (defScope s__law_blend) := ⟨rfl, rfl, rfl, by decide +kernel, rfl, by decide +kernel, by decide +kernel⟩
def m__law_blend : MS := (sCons (sPar [2, 3] (mCons (mOp false .Add (mIx (mVar 0) (mCon (.str ("turn" : Str)))) (mCon (.int 1))) (mCons (mCon (.int 0)) mNil))) (sCons (sPut (mVar 0) (mCon (.str ("turn" : Str))) (mVar 2)) (sCons (sFor (mSrc (mLst false (mCons (mCon (.int 2147483629)) (mCons (mCon (.int 2147483587)) (mCons (mCon (.int 2147483579)) mNil))))) (gNm 1) (sCons (sSet 4 (mOp false .Mod (mBi false .int (mCons (mOp false .Add (mOp false .Mult (mVar 2) (mCon (.int 69621))) (mOp false .FloorDiv (mVar 1) (mCon (.int 7)))) mNil)) (mVar 1))) (sCons (sFor (mSrc (mIx (mVar 0) (mCon (.str ("cells" : Str))))) (gNm 5) (sCons (sSet 4 (mOp false .Mod (mBi false .int (mCons (mOp false .Add (mOp false .Add (mOp false .Mult (mVar 4) (mCon (.int 48271))) (mBi false .int (mCons (mVar 5) mNil))) (mCon (.int 1))) mNil)) (mVar 1))) sNil)) (sCons (sSet 3 (mOp false .Add (mOp false .Mult (mVar 3) (mCon (.int 2147483647))) (mOp false .Mod (mBi false .int (mCons (mOp false .Pow (mVar 4) (mCon (.int 5))) mNil)) (mVar 1)))) sNil)))) (sCons (sRet (mVar 3)) sNil))))
def f__law_blend : Fm := defR m__law_blend 5
theorem ok__law_blend (G : GL K mg T cc cp) {fd : FuncData} (F : Fun K "_law_blend" "_law_blend" s__law_blend (T.fna 23) fd) : FnOk P w K mg base (L2.CX P w) 1 (T.fna 23) fd ["draw"] (spI K T.no f__law_blend 1) := by
  exact den_fn (T := T.no) (m := m__law_blend) F sc__law_blend rfl rfl fun cdv A outer s H E hr W tk hp =>
    (den_scons (den_par rfl sc__law_blend.nd rfl rfl (by decide) rfl rfl (den_cons (den_bin (den_ix hr.u1 (den_var rfl (.inl rfl) rfl rfl) (den_flat rfl pe_str) (fun _ _ => rfl)) (den_flat rfl pe_int)) (den_cons (den_flat rfl pe_int) den_nil rfl) rfl) rfl rfl)
    (den_scons (den_put hr.u1 (den_var rfl (.inl rfl) rfl rfl) (den_var rfl (.inl rfl) rfl rfl) (den_flat rfl pe_str) (fun _ => rfl) rfl rfl rfl)
    (den_scons (den_for hp rfl (by exact (den_src (den_lst (den_cons (den_flat rfl pe_int) (den_cons (den_flat rfl pe_int) (den_cons (den_flat rfl pe_int) den_nil rfl) rfl) rfl)))) (den_gnm sc__law_blend.nd rfl (.inl rfl) (.inl rfl)) (den_scons (den_set sc__law_blend.nd rfl (.inl rfl) (.inl rfl) (den_bin (by exact (den_bi (b := .int) hr.u65 rfl rfl G.b_int (den_cons (den_bin (den_bin (den_var rfl (.inl rfl) rfl rfl) (den_flat rfl pe_int)) (den_bin (den_var rfl (.inl rfl) rfl rfl) (den_flat rfl pe_int))) den_nil rfl) rfl rfl)) (den_var rfl (.inl rfl) rfl rfl)) rfl)
    (den_scons (den_for hp rfl (by exact (den_src (den_ix hr.u1 (den_var rfl (.inl rfl) rfl rfl) (den_flat rfl pe_str) (fun _ _ => rfl)))) (den_gnm sc__law_blend.nd rfl (.inl rfl) (.inl rfl)) (den_scons (den_set sc__law_blend.nd rfl (.inl rfl) (.inl rfl) (den_bin (by exact (den_bi (b := .int) hr.u65 rfl rfl G.b_int (den_cons (den_bin (den_bin (den_bin (den_var rfl (.inl rfl) rfl rfl) (den_flat rfl pe_int)) (by exact (den_bi (b := .int) hr.u65 rfl rfl G.b_int (den_cons (den_var rfl (.inl rfl) rfl rfl) den_nil rfl) rfl rfl))) (den_flat rfl pe_int)) den_nil rfl) rfl rfl)) (den_var rfl (.inl rfl) rfl rfl)) rfl)
    den_snil) (fun _ => rfl))
    (den_scons (den_set sc__law_blend.nd rfl (.inl rfl) (.inl rfl) (den_bin (den_bin (den_var rfl (.inl rfl) rfl rfl) (den_flat rfl pe_int)) (den_bin (by exact (den_bi (b := .int) hr.u65 rfl rfl G.b_int (den_cons (den_bin (den_var rfl (.inl rfl) rfl rfl) (den_flat rfl pe_int)) den_nil rfl) rfl rfl)) (den_var rfl (.inl rfl) rfl rfl))) rfl)
    den_snil))) (fun _ => rfl))
    (den_scons (den_ret (den_var rfl (.inl rfl) rfl rfl))
    den_snil))))
abbrev s__law_take : Stmt := topS 35
theorem sc__law_take : FnScope ["draw", "size", "found"] ["draw", "size"] (defScope s__law_take) := ⟨rfl, rfl, rfl, by decide +kernel, rfl, by decide +kernel, by decide +kernel⟩
def m__law_take : MS := (sCons (whileM (mAnd (mCmp .Eq (mIx (mVar 0) (mCon (.str ("rest" : Str)))) (mCon (.int 0))) (mCmp .NotEq (mIx (mVar 0) (mCon (.str ("large" : Str)))) (mLst false mNil))) (sCons (sPut (mVar 0) (mCon (.str ("rest" : Str))) (mLM .popAt (mIx (mVar 0) (mCon (.str ("large" : Str)))) (mCons (mCon (.int 0)) mNil))) sNil) most) (sCons (sIf (mCmp .Eq (mIx (mVar 0) (mCon (.str ("rest" : Str)))) (mCon (.int 0))) (sCons (sPut (mVar 0) (mCon (.str ("rest" : Str))) (mCallX f__law_blend false [0] (mCons (mVar 0) mNil) mNil)) sNil) sNil) (sCons (sSet 2 (mOp false .Mod (mBi false .int (mCons (mIx (mVar 0) (mCon (.str ("rest" : Str)))) mNil)) (mVar 1))) (sCons (sPut (mVar 0) (mCon (.str ("rest" : Str))) (mOp false .FloorDiv (mBi false .int (mCons (mIx (mVar 0) (mCon (.str ("rest" : Str)))) mNil)) (mVar 1))) (sCons (sRet (mVar 2)) sNil)))))
def f__law_take : Fm := defR m__law_take 1
theorem ok__law_take (G : GL K mg T cc cp) {fd : FuncData} (F : Fun K "_law_take" "_law_take" s__law_take (T.fna 24) fd) : FnOk P w K mg base (L2.CX P w) 2 (T.fna 24) fd ["draw", "size"] (spI K T.no f__law_take 2) := by
  obtain ⟨fd__law_blend, F__law_blend⟩ := G.d__law_blend
  exact den_fn (T := T.no) (m := m__law_take) F sc__law_take rfl rfl fun cdv A outer s H E hr W tk hp =>
    (den_scons (den_while hp (dent_ptA (dent_and (dent_cmpT hr.u65 (den_ix hr.u1 (den_var rfl (.inl rfl) rfl rfl) (den_flat rfl pe_str) (fun _ _ => rfl)) (den_flat rfl pe_int) rfl) (dent_and1 (dent_cmpT hr.u65 (den_ix hr.u1 (den_var rfl (.inl rfl) rfl rfl) (den_flat rfl pe_str) (fun _ _ => rfl)) (den_lst den_nil) rfl)))) (den_scons (den_put hr.u1 (by exact (den_lm1 (b := .popAt) (.inr (.inr rfl)) (den_ix hr.u1 (den_var rfl (.inl rfl) rfl rfl) (den_flat rfl pe_str) (fun _ _ => rfl)) (den_cons (den_flat rfl pe_int) den_nil rfl) rfl rfl rfl rfl rfl)) (den_var rfl (.inl rfl) rfl rfl) (den_flat rfl pe_str) (fun _ => rfl) rfl rfl rfl)
    den_snil))
    (den_scons (den_if (dent_cmpT hr.u65 (den_ix hr.u1 (den_var rfl (.inl rfl) rfl rfl) (den_flat rfl pe_str) (fun _ _ => rfl)) (den_flat rfl pe_int) rfl) (den_scons (den_put hr.u1 (by exact (den_callX (k := 1) (ps := ["draw"]) tk (ok__law_blend G F__law_blend) rfl (hr.mono (by decide)) rfl G.g__law_blend F__law_blend.kp (bg__law_blend_1_ F__law_blend) (den_cons (den_var rfl (.inl rfl) rfl rfl) den_nil rfl) denk_nil rfl rfl rfl rfl rfl (lenS len0) len0)) (den_var rfl (.inl rfl) rfl rfl) (den_flat rfl pe_str) (fun _ => rfl) rfl rfl rfl)
    den_snil) den_snil)
    (den_scons (den_set sc__law_take.nd rfl (.inl rfl) (.inl rfl) (den_bin (by exact (den_bi (b := .int) hr.u65 rfl rfl G.b_int (den_cons (den_ix hr.u1 (den_var rfl (.inl rfl) rfl rfl) (den_flat rfl pe_str) (fun _ _ => rfl)) den_nil rfl) rfl rfl)) (den_var rfl (.inl rfl) rfl rfl)) rfl)
    (den_scons (den_put hr.u1 (den_bin (by exact (den_bi (b := .int) hr.u65 rfl rfl G.b_int (den_cons (den_ix hr.u1 (den_var rfl (.inl rfl) rfl rfl) (den_flat rfl pe_str) (fun _ _ => rfl)) den_nil rfl) rfl rfl)) (den_var rfl (.inl rfl) rfl rfl)) (den_var rfl (.inl rfl) rfl rfl) (den_flat rfl pe_str) (fun _ => rfl) rfl rfl rfl)
    (den_scons (den_ret (den_var rfl (.inl rfl) rfl rfl))
    den_snil)))))
abbrev s__law_pick : Stmt := topS 36
theorem sc__law_pick : FnScope ["draw", "some"] ["draw", "some"] (defScope s__law_pick) := ⟨rfl, rfl, rfl, by decide +kernel, rfl, by decide +kernel, by decide +kernel⟩
def m__law_pick : MS := (sCons (sRet (mIx (mVar 1) (mCallX f__law_take false [0, 1] (mCons (mVar 0) (mCons (mBi false .len (mCons (mVar 1) mNil)) mNil)) mNil))) sNil)
def f__law_pick : Fm := defR m__law_pick 0
theorem ok__law_pick (G : GL K mg T cc cp) {fd : FuncData} (F : Fun K "_law_pick" "_law_pick" s__law_pick (T.fna 25) fd) : FnOk P w K mg base (L2.CX P w) 3 (T.fna 25) fd ["draw", "some"] (spI K T.no f__law_pick 2) := by
  obtain ⟨fd__law_take, F__law_take⟩ := G.d__law_take
  exact den_fn (T := T.no) (m := m__law_pick) F sc__law_pick rfl rfl fun cdv A outer s H E hr W tk hp =>
    (den_scons (den_ret (den_ix hr.u1 (den_var rfl (.inl rfl) rfl rfl) (by exact (den_callX (k := 2) (ps := ["draw", "size"]) tk (ok__law_take G F__law_take) rfl (hr.mono (by decide)) rfl G.g__law_take F__law_take.kp (bg__law_take_2_ F__law_take) (den_cons (den_var rfl (.inl rfl) rfl rfl) (den_cons (by exact (den_bi (b := .len) hr.u65 rfl rfl G.b_len (den_cons (den_var rfl (.inl rfl) rfl rfl) den_nil rfl) rfl rfl)) den_nil rfl) rfl) denk_nil rfl rfl rfl rfl rfl (lenS (lenS len0)) len0)) (fun _ _ => rfl)))
    den_snil)
abbrev s__law_shuffled : Stmt := topS 37
theorem sc__law_shuffled : FnScope ["draw", "some", "left", "found"] ["draw", "some"] (defScope s__law_shuffled) := ⟨rfl, rfl, rfl, by decide +kernel, rfl, by decide +kernel, by decide +kernel⟩
def m__law_shuffled : MS := (sCons (sPar [2, 3] (mCons (mListA true (mCons (mVar 1) mNil)) (mCons (mLst true mNil) mNil))) (sCons (whileM (mCmp .NotEq (mVar 2) (mLst false mNil)) (sCons (sDrop (mLM .append (mVar 3) (mCons (mLM .popAt (mVar 2) (mCons (mCallX f__law_take false [0, 1] (mCons (mVar 0) (mCons (mBi false .len (mCons (mVar 2) mNil)) mNil)) mNil) mNil)) mNil))) sNil) most) (sCons (sRet (mVar 3)) sNil)))
def f__law_shuffled : Fm := defR m__law_shuffled 2
theorem ok__law_shuffled (G : GL K mg T cc cp) {fd : FuncData} (F : Fun K "_law_shuffled" "_law_shuffled" s__law_shuffled (T.fna 26) fd) : FnOk P w K mg base (L2.CX P w) 3 (T.fna 26) fd ["draw", "some"] (spI K T.no f__law_shuffled 2) := by
  obtain ⟨fd__law_take, F__law_take⟩ := G.d__law_take
  exact den_fn (T := T.no) (m := m__law_shuffled) F sc__law_shuffled rfl rfl fun cdv A outer s H E hr W tk hp =>
    (den_scons (den_par rfl sc__law_shuffled.nd rfl rfl (by decide) rfl rfl (den_cons (by exact (den_listA rfl rfl G.b_list (den_cons (den_var rfl (.inl rfl) rfl rfl) den_nil rfl) rfl rfl)) (den_cons (den_lst den_nil) den_nil rfl) rfl) rfl rfl)
    (den_scons (den_while hp (dent_cmpT hr.u65 (den_var rfl (.inl rfl) rfl rfl) (den_lst den_nil) rfl) (den_scons (den_drop (by exact (den_lm1 (b := .append) (.inl rfl) (den_var rfl (.inl rfl) rfl rfl) (den_cons (by exact (den_lm1 (b := .popAt) (.inr (.inr rfl)) (den_var rfl (.inl rfl) rfl rfl) (den_cons (by exact (den_callX (k := 2) (ps := ["draw", "size"]) tk (ok__law_take G F__law_take) rfl (hr.mono (by decide)) rfl G.g__law_take F__law_take.kp (bg__law_take_2_ F__law_take) (den_cons (den_var rfl (.inl rfl) rfl rfl) (den_cons (by exact (den_bi (b := .len) hr.u65 rfl rfl G.b_len (den_cons (den_var rfl (.inl rfl) rfl rfl) den_nil rfl) rfl rfl)) den_nil rfl) rfl) denk_nil rfl rfl rfl rfl rfl (lenS (lenS len0)) len0)) den_nil rfl) rfl rfl rfl rfl rfl)) den_nil rfl) rfl rfl rfl rfl rfl)) rfl)
    den_snil))
    (den_scons (den_ret (den_var rfl (.inl rfl) rfl rfl))
    den_snil)))
abbrev s__law_caught : Stmt := topS 38
theorem sc__law_caught : FnScope ["work", "caught", "error"] ["work"] (defScope s__law_caught) := ⟨rfl, rfl, rfl, by decide +kernel, rfl, by decide +kernel, by decide +kernel⟩
abbrev s__law_says : Stmt := topS 39
theorem sc__law_says : FnScope ["found", "due"] ["found", "due"] (defScope s__law_says) := ⟨rfl, rfl, rfl, by decide +kernel, rfl, by decide +kernel, by decide +kernel⟩
def m__law_says : MS := (sCons (sRet (mIfe (mVar 1) (mCmp .Is (mVar 0) (mCon (.bl true))) (mCmp .Is (mVar 0) (mCon (.bl false))))) sNil)
def f__law_says : Fm := defR m__law_says 0
theorem ok__law_says (G : GL K mg T cc cp) {fd : FuncData} (F : Fun K "_law_says" "_law_says" s__law_says (T.fna 28) fd) : FnOk P w K mg base (L2.CX P w) 1 (T.fna 28) fd ["found", "due"] (spI K T.no f__law_says 2) := by
  exact den_fn (T := T.no) (m := m__law_says) F sc__law_says rfl rfl fun cdv A outer s H E hr W tk hp =>
    (den_scons (den_ret (den_ife (dent_val (den_var rfl (.inl rfl) rfl rfl) (fun _ => rfl)) (den_cmp hr.u65 (den_var rfl (.inl rfl) rfl rfl) (den_flat rfl pe_bl) rfl) (den_cmp hr.u65 (den_var rfl (.inl rfl) rfl rfl) (den_flat rfl pe_bl) rfl)))
    den_snil)
abbrev s__law_is_number : Stmt := topS 40
theorem sc__law_is_number : FnScope ["thing"] ["thing"] (defScope s__law_is_number) := ⟨rfl, rfl, rfl, by decide +kernel, rfl, by decide +kernel, by decide +kernel⟩
def m__law_is_number : MS := (sCons (sRet (mAnd (mIsi subC (mCons (mVar 0) (mCons (mCon (.ty "int")) mNil))) (mNot (mIsi subC (mCons (mVar 0) (mCons (mCon (.ty "bool")) mNil)))))) sNil)
def f__law_is_number : Fm := defR m__law_is_number 0
theorem ok__law_is_number (G : GL K mg T cc cp) {fd : FuncData} (F : Fun K "_law_is_number" "_law_is_number" s__law_is_number (T.fna 29) fd) : FnOk P w K mg base (L2.CX P w) 1 (T.fna 29) fd ["thing"] (spI K T.no f__law_is_number 1) := by
  exact den_fn (T := T.no) (m := m__law_is_number) F sc__law_is_number rfl rfl fun cdv A outer s H E hr W tk hp =>
    (den_scons (den_ret (den_and (by exact (den_isi G.kw rfl G.b_isinstance (den_cons (den_var rfl (.inl rfl) rfl rfl) (den_cons (den_ty rfl G.b_int bt_int (by decide) rfl) den_nil rfl) rfl) rfl rfl)) (den_one (den_not (by exact (den_isi G.kw rfl G.b_isinstance (den_cons (den_var rfl (.inl rfl) rfl rfl) (den_cons (den_ty rfl G.b_bool bt_bool (by decide) rfl) den_nil rfl) rfl) rfl rfl))))))
    den_snil)
abbrev s__law_is_row : Stmt := topS 41
theorem sc__law_is_row : FnScope ["thing", "pair", "hand", "value", "one", "other"] ["thing"] (defScope s__law_is_row) := ⟨rfl, rfl, rfl, by decide +kernel, rfl, by decide +kernel, by decide +kernel⟩
def m__law_is_row : MS := (sCons (sIf (mOr (mNot (mIsi subC (mCons (mVar 0) (mCons (mCon (.ty "tuple")) mNil)))) (mCmp .Eq (mBi false .len (mCons (mVar 0) mNil)) (mCon (.int 0)))) (sCons (sRet (mCon (.bl false))) sNil) sNil) (sCons (sIf (mCmp .NotEq (mComp false (mSrc (mVar 0)) (gNm 1) (mT (mOr (mNot (mIsi subC (mCons (mVar 1) (mCons (mCon (.ty "tuple")) mNil)))) (mCmp .NotEq (mBi false .len (mCons (mVar 1) mNil)) (mCon (.int 2))))) (mCon (.int 1)) [1]) (mLst false mNil)) (sCons (sRet (mCon (.bl false))) sNil) sNil) (sCons (sIf (mCmp .NotEq (mComp false (mSrc (mVar 0)) (gNm 1) (mT (mOr (mNot (mCallP f__law_is_number [0] (mCons (mIx (mVar 1) (mCon (.int 0))) mNil) mNil)) (mNot (mCallP f__law_is_number [0] (mCons (mIx (mVar 1) (mCon (.int 1))) mNil) mNil)))) (mCon (.int 1)) [1]) (mLst false mNil)) (sCons (sRet (mCon (.bl false))) sNil) sNil) (sCons (sIf (mCmp .NotEq (mComp false (mSrc (mVar 0)) (gTp 2 (gCs (gNm 2) (gCs (gNm 3) gNo))) (mT (mOr (mCmp .Lt (mVar 2) (mCon (.int 0))) (mOr (mCmp .Gt (mVar 2) (mCon (.int 3))) (mOr (mCmp .Lt (mVar 3) (mCon (.int 0))) (mCmp .Gt (mVar 3) (mCon (.int 999999999))))))) (mCon (.int 1)) [2, 3]) (mLst false mNil)) (sCons (sRet (mCon (.bl false))) sNil) sNil) (sCons (sRet (mCmp .Eq (mComp false (mZip (mCons (mVar 0) (mCons (mSl false (mVar 0) (mYes (mCon (.int 1))) mNo) mNil))) (gTp 2 (gCs (gNm 4) (gCs (gNm 5) gNo))) (mT (mCmp .GtE (mIx (mVar 4) (mCon (.int 0))) (mIx (mVar 5) (mCon (.int 0))))) (mCon (.int 1)) [4, 5]) (mLst false mNil))) sNil)))))
def f__law_is_row : Fm := defR m__law_is_row 5
theorem ok__law_is_row (G : GL K mg T cc cp) {fd : FuncData} (F : Fun K "_law_is_row" "_law_is_row" s__law_is_row (T.fna 30) fd) : FnOk P w K mg base (L2.CX P w) 2 (T.fna 30) fd ["thing"] (spI K T.no f__law_is_row 1) := by
  obtain ⟨fd__law_is_number, F__law_is_number⟩ := G.d__law_is_number
  exact den_fn (T := T.no) (m := m__law_is_row) F sc__law_is_row rfl rfl fun cdv A outer s H E hr W tk hp =>
    (den_scons (den_if (dent_ptA (dent_or (dent_not (dent_val (by exact (den_isi G.kw rfl G.b_isinstance (den_cons (den_var rfl (.inl rfl) rfl rfl) (den_cons (den_ty rfl G.b_tuple bt_tuple (by decide) rfl) den_nil rfl) rfl) rfl rfl)) (fun _ => rfl))) (dent_or1 (dent_cmpT hr.u65 (by exact (den_bi (b := .len) hr.u65 rfl rfl G.b_len (den_cons (den_var rfl (.inl rfl) rfl rfl) den_nil rfl) rfl rfl)) (den_flat rfl pe_int) rfl)))) (den_scons (den_ret (den_flat rfl pe_bl))
    den_snil) den_snil)
    (den_scons (den_if (dent_cmpT hr.u65 (by exact (den_comp rfl sc__law_is_row.nd (by exact (den_src (den_var rfl (.inl rfl) rfl rfl))) (blkOk_by (own := [("pair", 1)]) rfl) rfl (fun s H C cl fp => (den_gnm sc__law_is_row.nd rfl (.inl rfl) (.inr rfl))) (keeps_nm (i := 1) (by decide)) (mono_nm (i := 1)) (fun s H C cl fp => (den_oneT (dent_ptA (dent_or (dent_not (dent_val (by exact (den_isi G.kw rfl G.b_isinstance (den_cons (den_var rfl (.inl rfl) rfl rfl) (den_cons (den_ty rfl G.b_tuple bt_tuple (by decide) rfl) den_nil rfl) rfl) rfl rfl)) (fun _ => rfl))) (dent_or1 (dent_cmpT hr.u65 (by exact (den_bi (b := .len) hr.u65 rfl rfl G.b_len (den_cons (den_var rfl (.inl rfl) rfl rfl) den_nil rfl) rfl rfl)) (den_flat rfl pe_int) rfl)))))) (fun s H C cl fp => (den_flat rfl pe_int)) (fun _ => rfl))) (den_lst den_nil) rfl) (den_scons (den_ret (den_flat rfl pe_bl))
    den_snil) den_snil)
    (den_scons (den_if (dent_cmpT hr.u65 (by exact (den_comp rfl sc__law_is_row.nd (by exact (den_src (den_var rfl (.inl rfl) rfl rfl))) (blkOk_by (own := [("pair", 1)]) rfl) rfl (fun s H C cl fp => (den_gnm sc__law_is_row.nd rfl (.inl rfl) (.inr rfl))) (keeps_nm (i := 1) (by decide)) (mono_nm (i := 1)) (fun s H C cl fp => (den_oneT (dent_ptA (dent_or (dent_not (dent_val (by exact (den_callP (k := 1) (ps := ["thing"]) takes0 (ok__law_is_number G F__law_is_number) rfl rfl (hr.mono (by decide)) rfl G.g__law_is_number F__law_is_number.kp (bg__law_is_number_1_ F__law_is_number) (den_cons (den_ix hr.u1 (den_var rfl (.inl rfl) rfl rfl) (den_flat rfl pe_int) (fun _ _ => rfl)) den_nil rfl) denk_nil rfl rfl rfl rfl rfl (lenS len0) len0)) (fun _ => rfl))) (dent_or1 (dent_not (dent_val (by exact (den_callP (k := 1) (ps := ["thing"]) takes0 (ok__law_is_number G F__law_is_number) rfl rfl (hr.mono (by decide)) rfl G.g__law_is_number F__law_is_number.kp (bg__law_is_number_1_ F__law_is_number) (den_cons (den_ix hr.u1 (den_var rfl (.inl rfl) rfl rfl) (den_flat rfl pe_int) (fun _ _ => rfl)) den_nil rfl) denk_nil rfl rfl rfl rfl rfl (lenS len0) len0)) (fun _ => rfl)))))))) (fun s H C cl fp => (den_flat rfl pe_int)) (fun _ => rfl))) (den_lst den_nil) rfl) (den_scons (den_ret (den_flat rfl pe_bl))
    den_snil) den_snil)
    (den_scons (den_if (dent_cmpT hr.u65 (by exact (den_comp rfl sc__law_is_row.nd (by exact (den_src (den_var rfl (.inl rfl) rfl rfl))) (blkOk_by (own := [("hand", 2), ("value", 3)]) rfl) rfl (fun s H C cl fp => (den_gtp rfl (den_gcs (den_gnm sc__law_is_row.nd rfl (.inl rfl) (.inr rfl)) (den_gcs (den_gnm sc__law_is_row.nd rfl (.inl rfl) (.inr rfl)) den_gno rfl) rfl) rfl rfl)) (keeps_tp (K := K) (n := 2) (keeps_cs (mono_nm (i := 2)) (keeps_nm (i := 2) (by decide)) (keeps_cs (mono_nm (i := 3)) (keeps_nm (i := 3) (by decide)) keeps_no mono_no) (mono_cs (mono_nm (i := 3)) mono_no))) (mono_tp (K := K) (n := 2) (mono_cs (mono_nm (i := 2)) (mono_cs (mono_nm (i := 3)) mono_no))) (fun s H C cl fp => (den_oneT (dent_ptA (dent_or (dent_cmpT hr.u65 (den_var rfl (.inl rfl) rfl rfl) (den_flat rfl pe_int) rfl) (dent_or (dent_cmpT hr.u65 (den_var rfl (.inl rfl) rfl rfl) (den_flat rfl pe_int) rfl) (dent_or (dent_cmpT hr.u65 (den_var rfl (.inl rfl) rfl rfl) (den_flat rfl pe_int) rfl) (dent_or1 (dent_cmpT hr.u65 (den_var rfl (.inl rfl) rfl rfl) (den_flat rfl pe_int) rfl)))))))) (fun s H C cl fp => (den_flat rfl pe_int)) (fun _ => rfl))) (den_lst den_nil) rfl) (den_scons (den_ret (den_flat rfl pe_bl))
    den_snil) den_snil)
    (den_scons (den_ret (den_cmp hr.u65 (by exact (den_comp rfl sc__law_is_row.nd (by exact (den_zip rfl G.b_zip (den_cons (den_var rfl (.inl rfl) rfl rfl) (den_cons (den_sl (den_var rfl (.inl rfl) rfl rfl) (den_yes (den_flat rfl pe_int)) den_no) den_nil rfl) rfl) rfl rfl)) (blkOk_by (own := [("one", 4), ("other", 5)]) rfl) rfl (fun s H C cl fp => (den_gtp rfl (den_gcs (den_gnm sc__law_is_row.nd rfl (.inl rfl) (.inr rfl)) (den_gcs (den_gnm sc__law_is_row.nd rfl (.inl rfl) (.inr rfl)) den_gno rfl) rfl) rfl rfl)) (keeps_tp (K := K) (n := 2) (keeps_cs (mono_nm (i := 4)) (keeps_nm (i := 4) (by decide)) (keeps_cs (mono_nm (i := 5)) (keeps_nm (i := 5) (by decide)) keeps_no mono_no) (mono_cs (mono_nm (i := 5)) mono_no))) (mono_tp (K := K) (n := 2) (mono_cs (mono_nm (i := 4)) (mono_cs (mono_nm (i := 5)) mono_no))) (fun s H C cl fp => (den_oneT (dent_cmpT hr.u65 (den_ix hr.u1 (den_var rfl (.inl rfl) rfl rfl) (den_flat rfl pe_int) (fun _ _ => rfl)) (den_ix hr.u1 (den_var rfl (.inl rfl) rfl rfl) (den_flat rfl pe_int) (fun _ _ => rfl)) rfl))) (fun s H C cl fp => (den_flat rfl pe_int)) (fun _ => rfl))) (den_lst den_nil) rfl))
    den_snil)))))
abbrev s__law_hands : Stmt := topS 42
theorem sc__law_hands : FnScope ["row", "pair"] ["row"] (defScope s__law_hands) := ⟨rfl, rfl, rfl, by decide +kernel, rfl, by decide +kernel, by decide +kernel⟩
def m__law_hands : MS := (sCons (sRet (mBi false .tuple (mCons (mComp false (mSrc (mVar 0)) (gNm 1) mYesT (mIx (mVar 1) (mCon (.int 0))) [1]) mNil))) sNil)
def f__law_hands : Fm := defR m__law_hands 1
theorem ok__law_hands (G : GL K mg T cc cp) {fd : FuncData} (F : Fun K "_law_hands" "_law_hands" s__law_hands (T.fna 31) fd) : FnOk P w K mg base (L2.CX P w) 1 (T.fna 31) fd ["row"] (spI K T.no f__law_hands 1) := by
  exact den_fn (T := T.no) (m := m__law_hands) F sc__law_hands rfl rfl fun cdv A outer s H E hr W tk hp =>
    (den_scons (den_ret (by exact (den_bi (b := .tuple) hr.u65 rfl rfl G.b_tuple (den_cons (by exact (den_comp rfl sc__law_hands.nd (by exact (den_src (den_var rfl (.inl rfl) rfl rfl))) (blkOk_by (own := [("pair", 1)]) rfl) rfl (fun s H C cl fp => (den_gnm sc__law_hands.nd rfl (.inl rfl) (.inr rfl))) (keeps_nm (i := 1) (by decide)) (mono_nm (i := 1)) (fun s H C cl fp => den_yesT) (fun s H C cl fp => (den_ix hr.u1 (den_var rfl (.inl rfl) rfl rfl) (den_flat rfl pe_int) (fun _ _ => rfl))) (fun _ => rfl))) den_nil rfl) rfl rfl)))
    den_snil)
abbrev s__law_long : Stmt := topS 44
theorem sc__law_long : FnScope ["row"] ["row"] (defScope s__law_long) := ⟨rfl, rfl, rfl, by decide +kernel, rfl, by decide +kernel, by decide +kernel⟩
def m__law_long : MS := (sCons (sRet (mTup (mCons (mBi false .len (mCons (mVar 0) mNil)) (mCons (mVar 0) mNil)))) sNil)
def f__law_long : Fm := defR m__law_long 0
theorem ok__law_long (G : GL K mg T cc cp) {fd : FuncData} (F : Fun K "_law_long" "_law_long" s__law_long (T.fna 33) fd) : FnOk P w K mg base (L2.CX P w) 1 (T.fna 33) fd ["row"] (spI K T.no f__law_long 1) := by
  exact den_fn (T := T.no) (m := m__law_long) F sc__law_long rfl rfl fun cdv A outer s H E hr W tk hp =>
    (den_scons (den_ret (den_tup (den_cons (by exact (den_bi (b := .len) hr.u65 rfl rfl G.b_len (den_cons (den_var rfl (.inl rfl) rfl rfl) den_nil rfl) rfl rfl)) (den_cons (den_var rfl (.inl rfl) rfl rfl) den_nil rfl) rfl)))
    den_snil)
abbrev s__law_parts : Stmt := topS 43
theorem sc__law_parts : FnScope ["row", "found", "pair", "some"] ["row"] (defScope s__law_parts) := ⟨rfl, rfl, rfl, by decide +kernel, rfl, by decide +kernel, by decide +kernel⟩
def m__law_parts : MS := (sCons (sSet 1 (mLst false (mCons (mTup mNil) mNil))) (sCons (sFor (mSrc (mVar 0)) (gNm 2) (sCons (sSet 1 (mOp false .Add (mVar 1) (mComp false (mSrc (mVar 1)) (gNm 3) mYesT (mOp false .Add (mVar 3) (mTup (mCons (mVar 2) mNil))) [3]))) sNil)) (sCons (sRet (mSortK false f__law_long (mSl false (mVar 1) (mYes (mCon (.int 1))) mNo))) sNil)))
def f__law_parts : Fm := defR m__law_parts 3
theorem ok__law_parts (G : GL K mg T cc cp) {fd : FuncData} (F : Fun K "_law_parts" "_law_parts" s__law_parts (T.fna 32) fd) : FnOk P w K mg base (L2.CX P w) 4 (T.fna 32) fd ["row"] (spI K T.no f__law_parts 1) := by
  obtain ⟨fd__law_long, F__law_long⟩ := G.d__law_long
  exact den_fn (T := T.no) (m := m__law_parts) F sc__law_parts rfl rfl fun cdv A outer s H E hr W tk hp =>
    (den_scons (den_set sc__law_parts.nd rfl (.inl rfl) (.inl rfl) (den_lst (den_cons (den_tup den_nil) den_nil rfl)) rfl)
    (den_scons (den_for hp rfl (by exact (den_src (den_var rfl (.inl rfl) rfl rfl))) (den_gnm sc__law_parts.nd rfl (.inr rfl) (.inl rfl)) (den_scons (den_set sc__law_parts.nd rfl (.inl rfl) (.inl rfl) (den_bin (den_var rfl (.inl rfl) rfl rfl) (by exact (den_comp rfl sc__law_parts.nd (by exact (den_src (den_var rfl (.inl rfl) rfl rfl))) (blkOk_by (own := [("some", 3)]) rfl) rfl (fun s H C cl fp => (den_gnm sc__law_parts.nd rfl (.inl rfl) (.inr rfl))) (keeps_nm (i := 3) (by decide)) (mono_nm (i := 3)) (fun s H C cl fp => den_yesT) (fun s H C cl fp => (den_bin (den_var rfl (.inl rfl) rfl rfl) (den_tup (den_cons (den_var rfl (.inr (.inl rfl)) rfl rfl) den_nil rfl)))) (fun _ => rfl)))) rfl)
    den_snil) (fun _ => rfl))
    (den_scons (den_ret (by exact (den_sortK (k := 1) hr.u65 (ok__law_long (gl_nt G) F__law_long) rfl (bg__law_long_1_ F__law_long) (hr.mono (by decide)) rfl G.b_sorted (den_sl (den_var rfl (.inl rfl) rfl rfl) (den_yes (den_flat rfl pe_int)) den_no) rfl G.g__law_long rfl rfl rfl rfl rfl rfl rfl)))
    den_snil)))
abbrev s__law_is_part : Stmt := topS 45
theorem sc__law_is_part : FnScope ["one", "other", "pair"] ["one", "other"] (defScope s__law_is_part) := ⟨rfl, rfl, rfl, by decide +kernel, rfl, by decide +kernel, by decide +kernel⟩
def m__law_is_part : MS := (sCons (sRet (mCmp .Eq (mComp false (mSrc (mVar 0)) (gNm 2) (mT (mCmp .NotIn (mVar 2) (mVar 1))) (mCon (.int 1)) [2]) (mLst false mNil))) sNil)
def f__law_is_part : Fm := defR m__law_is_part 1
theorem ok__law_is_part (G : GL K mg T cc cp) {fd : FuncData} (F : Fun K "_law_is_part" "_law_is_part" s__law_is_part (T.fna 34) fd) : FnOk P w K mg base (L2.CX P w) 1 (T.fna 34) fd ["one", "other"] (spI K T.no f__law_is_part 2) := by
  exact den_fn (T := T.no) (m := m__law_is_part) F sc__law_is_part rfl rfl fun cdv A outer s H E hr W tk hp =>
    (den_scons (den_ret (den_cmp hr.u65 (by exact (den_comp rfl sc__law_is_part.nd (by exact (den_src (den_var rfl (.inl rfl) rfl rfl))) (blkOk_by (own := [("pair", 2)]) rfl) rfl (fun s H C cl fp => (den_gnm sc__law_is_part.nd rfl (.inl rfl) (.inr rfl))) (keeps_nm (i := 2) (by decide)) (mono_nm (i := 2)) (fun s H C cl fp => (den_oneT (dent_cmpT hr.u65 (den_var rfl (.inl rfl) rfl rfl) (den_var rfl (.inr (.inl rfl)) rfl rfl) rfl))) (fun s H C cl fp => (den_flat rfl pe_int)) (fun _ => rfl))) (den_lst den_nil) rfl))
    den_snil)
abbrev s__law_values : Stmt := topS 46
theorem sc__law_values : FnScope ["draw", "many", "first", "k"] ["draw", "many"] (defScope s__law_values) := ⟨rfl, rfl, rfl, by decide +kernel, rfl, by decide +kernel, by decide +kernel⟩
def m__law_values : MS := (sCons (sSet 2 (mCallX f__law_pick false [0, 1] (mCons (mVar 0) (mCons (mLst false (mCons (mCon (.int 0)) (mCons (mCon (.int 0)) (mCons (mCon (.int 3)) (mCons (mCon (.int 990)) (mCons (mOp false .Sub (mOp false .Pow (mCon (.int 10)) (mCon (.int 9))) (mCon (.int 40))) mNil)))))) mNil)) mNil)) (sCons (sRet (mBi false .sorted (mCons (mSl false (mCallX f__law_shuffled false [0, 1] (mCons (mVar 0) (mCons (mComp false (mSrc (mTup (mCons (mCon (.int 0)) (mCons (mCon (.int 1)) (mCons (mCon (.int 2)) (mCons (mCon (.int 3)) (mCons (mCon (.int 5)) (mCons (mCon (.int 8)) (mCons (mCon (.int 13)) (mCons (mCon (.int 21)) (mCons (mCon (.int 34)) mNil))))))))))) (gNm 3) mYesT (mOp false .Add (mVar 2) (mVar 3)) [3]) mNil)) mNil) mNo (mYes (mVar 1))) mNil))) sNil))
def f__law_values : Fm := defR m__law_values 2
theorem ok__law_values (G : GL K mg T cc cp) {fd : FuncData} (F : Fun K "_law_values" "_law_values" s__law_values (T.fna 35) fd) : FnOk P w K mg base (L2.CX P w) 4 (T.fna 35) fd ["draw", "many"] (spI K T.no f__law_values 2) := by
  obtain ⟨fd__law_pick, F__law_pick⟩ := G.d__law_pick
  obtain ⟨fd__law_shuffled, F__law_shuffled⟩ := G.d__law_shuffled
  exact den_fn (T := T.no) (m := m__law_values) F sc__law_values rfl rfl fun cdv A outer s H E hr W tk hp =>
    (den_scons (den_set sc__law_values.nd rfl (.inr rfl) (.inl rfl) (by exact (den_callX (k := 3) (ps := ["draw", "some"]) tk (ok__law_pick G F__law_pick) rfl (hr.mono (by decide)) rfl G.g__law_pick F__law_pick.kp (bg__law_pick_2_ F__law_pick) (den_cons (den_var rfl (.inl rfl) rfl rfl) (den_cons (den_lst (den_cons (den_flat rfl pe_int) (den_cons (den_flat rfl pe_int) (den_cons (den_flat rfl pe_int) (den_cons (den_flat rfl pe_int) (den_cons (den_bin (den_bin (den_flat rfl pe_int) (den_flat rfl pe_int)) (den_flat rfl pe_int)) den_nil rfl) rfl) rfl) rfl) rfl)) den_nil rfl) rfl) denk_nil rfl rfl rfl rfl rfl (lenS (lenS len0)) len0)) rfl)
    (den_scons (den_ret (by exact (den_bi (b := .sorted) hr.u65 rfl rfl G.b_sorted (den_cons (den_sl (by exact (den_callX (k := 3) (ps := ["draw", "some"]) tk (ok__law_shuffled G F__law_shuffled) rfl (hr.mono (by decide)) rfl G.g__law_shuffled F__law_shuffled.kp (bg__law_shuffled_2_ F__law_shuffled) (den_cons (den_var rfl (.inl rfl) rfl rfl) (den_cons (by exact (den_comp rfl sc__law_values.nd (by exact (den_src (den_tup (den_cons (den_flat rfl pe_int) (den_cons (den_flat rfl pe_int) (den_cons (den_flat rfl pe_int) (den_cons (den_flat rfl pe_int) (den_cons (den_flat rfl pe_int) (den_cons (den_flat rfl pe_int) (den_cons (den_flat rfl pe_int) (den_cons (den_flat rfl pe_int) (den_cons (den_flat rfl pe_int) den_nil rfl) rfl) rfl) rfl) rfl) rfl) rfl) rfl) rfl)))) (blkOk_by (own := [("k", 3)]) rfl) rfl (fun s H C cl fp => (den_gnm sc__law_values.nd rfl (.inl rfl) (.inr rfl))) (keeps_nm (i := 3) (by decide)) (mono_nm (i := 3)) (fun s H C cl fp => den_yesT) (fun s H C cl fp => (den_bin (den_var rfl (.inr (.inl rfl)) rfl rfl) (den_var rfl (.inl rfl) rfl rfl))) (fun _ => rfl))) den_nil rfl) rfl) denk_nil rfl rfl rfl rfl rfl (lenS (lenS len0)) len0)) den_no (den_yes (den_var rfl (.inl rfl) rfl rfl))) den_nil rfl) rfl rfl)))
    den_snil))
abbrev s__law_row : Stmt := topS 47
theorem sc__law_row : FnScope ["draw", "hands", "values", "hand"] ["draw", "hands", "values"] (defScope s__law_row) := ⟨rfl, rfl, rfl, by decide +kernel, rfl, by decide +kernel, by decide +kernel⟩
def m__law_row : MS := (sCons (sRet (mBi false .tuple (mCons (mComp false (mSrc (mVar 1)) (gNm 3) mYesT (mTup (mCons (mVar 3) (mCons (mCallX f__law_pick false [0, 1] (mCons (mVar 0) (mCons (mVar 2) mNil)) mNil) mNil))) [3]) mNil))) sNil)
def f__law_row : Fm := defR m__law_row 1
theorem ok__law_row (G : GL K mg T cc cp) {fd : FuncData} (F : Fun K "_law_row" "_law_row" s__law_row (T.fna 36) fd) : FnOk P w K mg base (L2.CX P w) 4 (T.fna 36) fd ["draw", "hands", "values"] (spI K T.no f__law_row 3) := by
  obtain ⟨fd__law_pick, F__law_pick⟩ := G.d__law_pick
  exact den_fn (T := T.no) (m := m__law_row) F sc__law_row rfl rfl fun cdv A outer s H E hr W tk hp =>
    (den_scons (den_ret (by exact (den_bi (b := .tuple) hr.u65 rfl rfl G.b_tuple (den_cons (by exact (den_comp rfl sc__law_row.nd (by exact (den_src (den_var rfl (.inl rfl) rfl rfl))) (blkOk_by (own := [("hand", 3)]) rfl) rfl (fun s H C cl fp => (den_gnm sc__law_row.nd rfl (.inl rfl) (.inr rfl))) (keeps_nm (i := 3) (by decide)) (mono_nm (i := 3)) (fun s H C cl fp => den_yesT) (fun s H C cl fp => (den_tup (den_cons (den_var rfl (.inl rfl) rfl rfl) (den_cons (by exact (den_callX (k := 3) (ps := ["draw", "some"]) takes0 (ok__law_pick G F__law_pick) rfl (hr.mono (by decide)) rfl G.g__law_pick F__law_pick.kp (bg__law_pick_2_ F__law_pick) (den_cons (den_var rfl (.inr (.inl rfl)) rfl rfl) (den_cons (den_var rfl (.inr (.inl rfl)) rfl rfl) den_nil rfl) rfl) denk_nil rfl rfl rfl rfl rfl (lenS (lenS len0)) len0)) den_nil rfl) rfl))) (fun _ => rfl))) den_nil rfl) rfl rfl)))
    den_snil)
abbrev s__law_some_hands : Stmt := topS 48
theorem sc__law_some_hands : FnScope ["draw", "many", "first", "hand"] ["draw", "many"] (defScope s__law_some_hands) := ⟨rfl, rfl, rfl, by decide +kernel, rfl, by decide +kernel, by decide +kernel⟩
def m__law_some_hands : MS := (sCons (sSet 2 (mCallX f__law_take false [0, 1] (mCons (mVar 0) (mCons (mVar 1) mNil)) mNil)) (sCons (sRet (mBi false .tuple (mCons (mComp false (mRng1 (mCons (mVar 1) mNil)) (gNm 3) (mT (mOr (mCmp .Eq (mVar 3) (mVar 2)) (mCmp .Eq (mCallX f__law_take false [0, 1] (mCons (mVar 0) (mCons (mCon (.int 2)) mNil)) mNil) (mCon (.int 0))))) (mVar 3) [3]) mNil))) sNil))
def f__law_some_hands : Fm := defR m__law_some_hands 2
theorem ok__law_some_hands (G : GL K mg T cc cp) {fd : FuncData} (F : Fun K "_law_some_hands" "_law_some_hands" s__law_some_hands (T.fna 37) fd) : FnOk P w K mg base (L2.CX P w) 3 (T.fna 37) fd ["draw", "many"] (spI K T.no f__law_some_hands 2) := by
  obtain ⟨fd__law_take, F__law_take⟩ := G.d__law_take
  exact den_fn (T := T.no) (m := m__law_some_hands) F sc__law_some_hands rfl rfl fun cdv A outer s H E hr W tk hp =>
    (den_scons (den_set sc__law_some_hands.nd rfl (.inr rfl) (.inl rfl) (by exact (den_callX (k := 2) (ps := ["draw", "size"]) tk (ok__law_take G F__law_take) rfl (hr.mono (by decide)) rfl G.g__law_take F__law_take.kp (bg__law_take_2_ F__law_take) (den_cons (den_var rfl (.inr (.inl rfl)) rfl rfl) (den_cons (den_var rfl (.inl rfl) rfl rfl) den_nil rfl) rfl) denk_nil rfl rfl rfl rfl rfl (lenS (lenS len0)) len0)) rfl)
    (den_scons (den_ret (by exact (den_bi (b := .tuple) hr.u65 rfl rfl G.b_tuple (den_cons (by exact (den_comp rfl sc__law_some_hands.nd (by exact (den_rng1 rfl G.b_range (den_cons (den_var rfl (.inl rfl) rfl rfl) den_nil rfl) rfl)) (blkOk_by (own := [("hand", 3)]) rfl) rfl (fun s H C cl fp => (den_gnm sc__law_some_hands.nd rfl (.inl rfl) (.inr rfl))) (keeps_nm (i := 3) (by decide)) (mono_nm (i := 3)) (fun s H C cl fp => (den_oneT (dent_ptA (dent_or (dent_cmpT hr.u65 (den_var rfl (.inl rfl) rfl rfl) (den_var rfl (.inr (.inl rfl)) rfl rfl) rfl) (dent_or1 (dent_cmpT hr.u65 (by exact (den_callX (k := 2) (ps := ["draw", "size"]) takes0 (ok__law_take G F__law_take) rfl (hr.mono (by decide)) rfl G.g__law_take F__law_take.kp (bg__law_take_2_ F__law_take) (den_cons (den_var rfl (.inr (.inl rfl)) rfl rfl) (den_cons (den_flat rfl pe_int) den_nil rfl) rfl) denk_nil rfl rfl rfl rfl rfl (lenS (lenS len0)) len0)) (den_flat rfl pe_int) rfl)))))) (fun s H C cl fp => (den_var rfl (.inl rfl) rfl rfl)) (fun _ => rfl))) den_nil rfl) rfl rfl)))
    den_snil))
abbrev s__law_odd_row : Stmt := topS 49
theorem sc__law_odd_row : FnScope ["draw", "row", "some", "hand", "value"] ["draw", "row"] (defScope s__law_odd_row) := ⟨rfl, rfl, rfl, by decide +kernel, rfl, by decide +kernel, by decide +kernel⟩
def m__law_odd_row : MS := (sCons (sAsg (gTp 2 (gCs (gNm 3) (gCs (gNm 4) gNo))) (mIx (mVar 1) (mCon (.int 0)))) (sCons (sSet 2 (mLst false (mCons (mCon .non) (mCons (mCon (.int 5)) (mCons (mTup mNil) (mCons (mCon (.str ("row" : Str))) (mCons (mDict false []) (mCons (mListA false (mCons (mVar 1) mNil)) (mCons (mOp false .Add (mVar 1) (mTup (mCons (mIx (mVar 1) (mCon (.int 0))) mNil))) (mCons (mOp false .Add (mVar 1) (mTup (mCons (mTup (mCons (mCon (.int 3)) (mCons (mCon (.int 0)) mNil))) (mCons (mTup (mCons (mCon (.int 3)) (mCons (mCon (.int 1)) mNil))) mNil)))) (mCons (mTup (mCons (mTup (mCons (mVar 3) mNil)) mNil)) (mCons (mTup (mCons (mTup (mCons (mVar 3) (mCons (mVar 4) (mCons (mCon (.int 0)) mNil)))) mNil)) mNil)))))))))))) (sCons (sSet 2 (mOp false .Add (mVar 2) (mLst false (mCons (mOp false .Add (mTup (mCons (mLst false (mCons (mVar 3) (mCons (mVar 4) mNil))) mNil)) (mSl false (mVar 1) (mYes (mCon (.int 1))) mNo)) (mCons (mOp false .Add (mTup (mCons (mTup (mCons (mVar 3) (mCons (mNeg (mCon (.int 1))) mNil))) mNil)) (mSl false (mVar 1) (mYes (mCon (.int 1))) mNo)) (mCons (mOp false .Add (mTup (mCons (mTup (mCons (mVar 3) (mCons (mOp false .Pow (mCon (.int 10)) (mCon (.int 9))) mNil))) mNil)) (mSl false (mVar 1) (mYes (mCon (.int 1))) mNo)) (mCons (mOp false .Add (mTup (mCons (mTup (mCons (mNeg (mCon (.int 1))) (mCons (mVar 4) mNil))) mNil)) (mVar 1)) mNil))))))) (sCons (sSet 2 (mOp false .Add (mVar 2) (mLst false (mCons (mTup (mCons (mTup (mCons (mCon (.int 4)) (mCons (mVar 4) mNil))) mNil)) (mCons (mTup (mCons (mTup (mCons (mCon (.bl true)) (mCons (mVar 4) mNil))) mNil)) (mCons (mTup (mCons (mTup (mCons (mVar 3) (mCons (mCon (.bl true)) mNil))) mNil)) (mCons (mOp false .Add (mTup (mCons (mTup (mCons (mVar 3) (mCons (mCon .non) mNil))) mNil)) (mSl false (mVar 1) (mYes (mCon (.int 1))) mNo)) (mCons (mTup (mCons (mTup (mCons (mCon (.str ("0" : Str))) (mCons (mVar 4) mNil))) mNil)) (mCons (mTup (mCons (mVar 3) (mCons (mVar 4) mNil))) mNil))))))))) (sCons (sRet (mCallX f__law_pick false [0, 1] (mCons (mVar 0) (mCons (mOp false .Add (mVar 2) (mLst false (mCons (mOp false .Add (mOp false .Add (mSl false (mVar 1) (mYes (mCon (.int 1))) mNo) (mSl false (mVar 1) mNo (mYes (mCon (.int 1))))) (mSl false (mVar 1) mNo (mYes (mCon (.int 1))))) mNil))) mNil)) mNil)) sNil)))))
def f__law_odd_row : Fm := defR m__law_odd_row 3
theorem ok__law_odd_row (G : GL K mg T cc cp) {fd : FuncData} (F : Fun K "_law_odd_row" "_law_odd_row" s__law_odd_row (T.fna 38) fd) : FnOk P w K mg base (L2.CX P w) 4 (T.fna 38) fd ["draw", "row"] (spI K T.no f__law_odd_row 2) := by
  obtain ⟨fd__law_pick, F__law_pick⟩ := G.d__law_pick
  exact den_fn (T := T.no) (m := m__law_odd_row) F sc__law_odd_row rfl rfl fun cdv A outer s H E hr W tk hp =>
    (den_scons (den_asg (den_ix hr.u1 (den_var rfl (.inl rfl) rfl rfl) (den_flat rfl pe_int) (fun _ _ => rfl)) (den_gtp rfl (den_gcs (den_gnm sc__law_odd_row.nd rfl (.inl rfl) (.inl rfl)) (den_gcs (den_gnm sc__law_odd_row.nd rfl (.inl rfl) (.inl rfl)) den_gno rfl) rfl) rfl rfl) rfl rfl rfl)
    (den_scons (den_set sc__law_odd_row.nd rfl (.inl rfl) (.inl rfl) (den_lst (den_cons (den_flat rfl pe_non) (den_cons (den_flat rfl pe_int) (den_cons (den_tup den_nil) (den_cons (den_flat rfl pe_str) (den_cons den_dnew (den_cons (by exact (den_listA rfl rfl G.b_list (den_cons (den_var rfl (.inl rfl) rfl rfl) den_nil rfl) rfl rfl)) (den_cons (den_bin (den_var rfl (.inl rfl) rfl rfl) (den_tup (den_cons (den_ix hr.u1 (den_var rfl (.inl rfl) rfl rfl) (den_flat rfl pe_int) (fun _ _ => rfl)) den_nil rfl))) (den_cons (den_bin (den_var rfl (.inl rfl) rfl rfl) (den_tup (den_cons (den_tup (den_cons (den_flat rfl pe_int) (den_cons (den_flat rfl pe_int) den_nil rfl) rfl)) (den_cons (den_tup (den_cons (den_flat rfl pe_int) (den_cons (den_flat rfl pe_int) den_nil rfl) rfl)) den_nil rfl) rfl))) (den_cons (den_tup (den_cons (den_tup (den_cons (den_var rfl (.inl rfl) rfl rfl) den_nil rfl)) den_nil rfl)) (den_cons (den_tup (den_cons (den_tup (den_cons (den_var rfl (.inl rfl) rfl rfl) (den_cons (den_var rfl (.inl rfl) rfl rfl) (den_cons (den_flat rfl pe_int) den_nil rfl) rfl) rfl)) den_nil rfl)) den_nil rfl) rfl) rfl) rfl) rfl) rfl) rfl) rfl) rfl) rfl)) rfl)
    (den_scons (den_set sc__law_odd_row.nd rfl (.inl rfl) (.inl rfl) (den_bin (den_var rfl (.inl rfl) rfl rfl) (den_lst (den_cons (den_bin (den_tup (den_cons (den_lst (den_cons (den_var rfl (.inl rfl) rfl rfl) (den_cons (den_var rfl (.inl rfl) rfl rfl) den_nil rfl) rfl)) den_nil rfl)) (den_sl (den_var rfl (.inl rfl) rfl rfl) (den_yes (den_flat rfl pe_int)) den_no)) (den_cons (den_bin (den_tup (den_cons (den_tup (den_cons (den_var rfl (.inl rfl) rfl rfl) (den_cons (den_neg (den_flat rfl pe_int)) den_nil rfl) rfl)) den_nil rfl)) (den_sl (den_var rfl (.inl rfl) rfl rfl) (den_yes (den_flat rfl pe_int)) den_no)) (den_cons (den_bin (den_tup (den_cons (den_tup (den_cons (den_var rfl (.inl rfl) rfl rfl) (den_cons (den_bin (den_flat rfl pe_int) (den_flat rfl pe_int)) den_nil rfl) rfl)) den_nil rfl)) (den_sl (den_var rfl (.inl rfl) rfl rfl) (den_yes (den_flat rfl pe_int)) den_no)) (den_cons (den_bin (den_tup (den_cons (den_tup (den_cons (den_neg (den_flat rfl pe_int)) (den_cons (den_var rfl (.inl rfl) rfl rfl) den_nil rfl) rfl)) den_nil rfl)) (den_var rfl (.inl rfl) rfl rfl)) den_nil rfl) rfl) rfl) rfl))) rfl)
    (den_scons (den_set sc__law_odd_row.nd rfl (.inl rfl) (.inl rfl) (den_bin (den_var rfl (.inl rfl) rfl rfl) (den_lst (den_cons (den_tup (den_cons (den_tup (den_cons (den_flat rfl pe_int) (den_cons (den_var rfl (.inl rfl) rfl rfl) den_nil rfl) rfl)) den_nil rfl)) (den_cons (den_tup (den_cons (den_tup (den_cons (den_flat rfl pe_bl) (den_cons (den_var rfl (.inl rfl) rfl rfl) den_nil rfl) rfl)) den_nil rfl)) (den_cons (den_tup (den_cons (den_tup (den_cons (den_var rfl (.inl rfl) rfl rfl) (den_cons (den_flat rfl pe_bl) den_nil rfl) rfl)) den_nil rfl)) (den_cons (den_bin (den_tup (den_cons (den_tup (den_cons (den_var rfl (.inl rfl) rfl rfl) (den_cons (den_flat rfl pe_non) den_nil rfl) rfl)) den_nil rfl)) (den_sl (den_var rfl (.inl rfl) rfl rfl) (den_yes (den_flat rfl pe_int)) den_no)) (den_cons (den_tup (den_cons (den_tup (den_cons (den_flat rfl pe_str) (den_cons (den_var rfl (.inl rfl) rfl rfl) den_nil rfl) rfl)) den_nil rfl)) (den_cons (den_tup (den_cons (den_var rfl (.inl rfl) rfl rfl) (den_cons (den_var rfl (.inl rfl) rfl rfl) den_nil rfl) rfl)) den_nil rfl) rfl) rfl) rfl) rfl) rfl))) rfl)
    (den_scons (den_ret (by exact (den_callX (k := 3) (ps := ["draw", "some"]) tk (ok__law_pick G F__law_pick) rfl (hr.mono (by decide)) rfl G.g__law_pick F__law_pick.kp (bg__law_pick_2_ F__law_pick) (den_cons (den_var rfl (.inl rfl) rfl rfl) (den_cons (den_bin (den_var rfl (.inl rfl) rfl rfl) (den_lst (den_cons (den_bin (den_bin (den_sl (den_var rfl (.inl rfl) rfl rfl) (den_yes (den_flat rfl pe_int)) den_no) (den_sl (den_var rfl (.inl rfl) rfl rfl) den_no (den_yes (den_flat rfl pe_int)))) (den_sl (den_var rfl (.inl rfl) rfl rfl) den_no (den_yes (den_flat rfl pe_int)))) den_nil rfl))) den_nil rfl) rfl) denk_nil rfl rfl rfl rfl rfl (lenS (lenS len0)) len0)))
    den_snil)))))
abbrev s__law_odd_hands : Stmt := topS 50
theorem sc__law_odd_hands : FnScope ["draw", "row", "hands", "some", "missing", "hand"] ["draw", "row"] (defScope s__law_odd_hands) := ⟨rfl, rfl, rfl, by decide +kernel, rfl, by decide +kernel, by decide +kernel⟩
def m__law_odd_hands : MS := (sCons (sSet 2 (mCallP f__law_hands [0] (mCons (mVar 1) mNil) mNil)) (sCons (sSet 3 (mLst false (mCons (mCon .non) (mCons (mCon (.int 5)) (mCons (mTup mNil) (mCons (mListA false (mCons (mVar 2) mNil)) (mCons (mOp false .Add (mVar 2) (mSl false (mVar 2) (mYes (mNeg (mCon (.int 1)))) mNo)) (mCons (mOp false .Add (mVar 2) (mTup (mCons (mCon (.int 9)) mNil))) (mCons (mOp false .Add (mTup (mCons (mNeg (mCon (.int 1))) mNil)) (mVar 2)) (mCons (mTup (mCons (mCon (.str ("0" : Str))) mNil)) (mCons (mTup (mCons (mCon .non) mNil)) (mCons (mDict false []) (mCons (mCon (.str ("0" : Str))) mNil))))))))))))) (sCons (sSet 4 (mComp false (mRng1 (mCons (mCon (.int 4)) mNil)) (gNm 5) (mT (mCmp .NotIn (mVar 5) (mVar 2))) (mVar 5) [5])) (sCons (sSet 3 (mOp false .Add (mOp false .Add (mVar 3) (mComp false (mSrc (mVar 4)) (gNm 5) mYesT (mTup (mCons (mVar 5) mNil)) [5])) (mIfe (mCmp .Gt (mBi false .len (mCons (mVar 2) mNil)) (mCon (.int 1))) (mLst false (mCons (mTRev (mVar 2)) mNil)) (mLst false (mCons (mTup (mCons (mCon (.bl true)) (mCons (mCon (.int 5)) mNil))) mNil))))) (sCons (sRet (mCallX f__law_pick false [0, 1] (mCons (mVar 0) (mCons (mVar 3) mNil)) mNil)) sNil)))))
def f__law_odd_hands : Fm := defR m__law_odd_hands 4
theorem ok__law_odd_hands (G : GL K mg T cc cp) {fd : FuncData} (F : Fun K "_law_odd_hands" "_law_odd_hands" s__law_odd_hands (T.fna 39) fd) : FnOk P w K mg base (L2.CX P w) 4 (T.fna 39) fd ["draw", "row"] (spI K T.no f__law_odd_hands 2) := by
  obtain ⟨fd__law_pick, F__law_pick⟩ := G.d__law_pick
  obtain ⟨fd__law_hands, F__law_hands⟩ := G.d__law_hands
  exact den_fn (T := T.no) (m := m__law_odd_hands) F sc__law_odd_hands rfl rfl fun cdv A outer s H E hr W tk hp =>
    (den_scons (den_set sc__law_odd_hands.nd rfl (.inr rfl) (.inl rfl) (by exact (den_callP (k := 1) (ps := ["row"]) tk (ok__law_hands G F__law_hands) rfl rfl (hr.mono (by decide)) rfl G.g__law_hands F__law_hands.kp (bg__law_hands_1_ F__law_hands) (den_cons (den_var rfl (.inl rfl) rfl rfl) den_nil rfl) denk_nil rfl rfl rfl rfl rfl (lenS len0) len0)) rfl)
    (den_scons (den_set sc__law_odd_hands.nd rfl (.inl rfl) (.inl rfl) (den_lst (den_cons (den_flat rfl pe_non) (den_cons (den_flat rfl pe_int) (den_cons (den_tup den_nil) (den_cons (by exact (den_listA rfl rfl G.b_list (den_cons (den_var rfl (.inr (.inl rfl)) rfl rfl) den_nil rfl) rfl rfl)) (den_cons (den_bin (den_var rfl (.inr (.inl rfl)) rfl rfl) (den_sl (den_var rfl (.inr (.inl rfl)) rfl rfl) (den_yes (den_neg (den_flat rfl pe_int))) den_no)) (den_cons (den_bin (den_var rfl (.inr (.inl rfl)) rfl rfl) (den_tup (den_cons (den_flat rfl pe_int) den_nil rfl))) (den_cons (den_bin (den_tup (den_cons (den_neg (den_flat rfl pe_int)) den_nil rfl)) (den_var rfl (.inr (.inl rfl)) rfl rfl)) (den_cons (den_tup (den_cons (den_flat rfl pe_str) den_nil rfl)) (den_cons (den_tup (den_cons (den_flat rfl pe_non) den_nil rfl)) (den_cons den_dnew (den_cons (den_flat rfl pe_str) den_nil rfl) rfl) rfl) rfl) rfl) rfl) rfl) rfl) rfl) rfl) rfl)) rfl)
    (den_scons (den_setComp rfl sc__law_odd_hands.nd rfl rfl (sw_true rfl rfl rfl (by decide +kernel)) (by exact (den_rng1 rfl G.b_range (den_cons (den_flat rfl pe_int) den_nil rfl) rfl)) (blkOk_by (own := [("hand", 5)]) rfl) rfl (fun s H C cl fp => (den_gnm sc__law_odd_hands.nd rfl (.inl rfl) (.inr rfl))) (keeps_nm (i := 5) (by decide)) (mono_nm (i := 5)) (fun s H C cl fp => (den_oneT (dent_cmpT hr.u65 (den_var rfl (.inl rfl) rfl rfl) (den_var rfl (.inr (.inl rfl)) rfl rfl) rfl))) (fun s H C cl fp => (den_var rfl (.inl rfl) rfl rfl)) (fun _ => rfl))
    (den_scons (den_set sc__law_odd_hands.nd rfl (.inl rfl) (.inl rfl) (den_bin (den_bin (den_var rfl (.inl rfl) rfl rfl) (by exact (den_comp rfl sc__law_odd_hands.nd (by exact (den_src (den_var rfl (.inl rfl) rfl rfl))) (blkOk_by (own := [("hand", 5)]) rfl) rfl (fun s H C cl fp => (den_gnm sc__law_odd_hands.nd rfl (.inl rfl) (.inr rfl))) (keeps_nm (i := 5) (by decide)) (mono_nm (i := 5)) (fun s H C cl fp => den_yesT) (fun s H C cl fp => (den_tup (den_cons (den_var rfl (.inl rfl) rfl rfl) den_nil rfl))) (fun _ => rfl)))) (den_ife (dent_cmpT hr.u65 (by exact (den_bi (b := .len) hr.u65 rfl rfl G.b_len (den_cons (den_var rfl (.inr (.inl rfl)) rfl rfl) den_nil rfl) rfl rfl)) (den_flat rfl pe_int) rfl) (den_lst (den_cons (den_trev (den_var rfl (.inr (.inl rfl)) rfl rfl)) den_nil rfl)) (den_lst (den_cons (den_tup (den_cons (den_flat rfl pe_bl) (den_cons (den_flat rfl pe_int) den_nil rfl) rfl)) den_nil rfl)))) rfl)
    (den_scons (den_ret (by exact (den_callX (k := 3) (ps := ["draw", "some"]) tk (ok__law_pick G F__law_pick) rfl (hr.mono (by decide)) rfl G.g__law_pick F__law_pick.kp (bg__law_pick_2_ F__law_pick) (den_cons (den_var rfl (.inl rfl) rfl rfl) (den_cons (den_var rfl (.inl rfl) rfl rfl) den_nil rfl) rfl) denk_nil rfl rfl rfl rfl rfl (lenS (lenS len0)) len0)))
    den_snil)))))
abbrev s__law_refused : Stmt := topS 51
theorem sc__law_refused : FnScope ["draw", "row", "other", "missing", "hand", "works", "odd", "hands", "work"] ["draw", "row", "other"] (defScope s__law_refused) := ⟨rfl, rfl, rfl, by decide +kernel, rfl, by decide +kernel, by decide +kernel⟩
def L__law_refused : List Lam := lamsOf s__law_refused
def b__law_refused_0 : M := (mCallP f_hands_of [0] (mCons (mVar 6) mNil) mNil)
def b__law_refused_1 : M := (mCallP f_value_of [0, 1] (mCons (mVar 6) (mCons (mVar 4) mNil)) mNil)
def b__law_refused_2 : M := (mCallP f_part [0, 1] (mCons (mVar 6) (mCons (mVar 7) mNil)) mNil)
def b__law_refused_3 : M := (mCallP f_parts [0] (mCons (mVar 6) mNil) mNil)
def b__law_refused_4 : M := (mCallP f_is_part [0, 1] (mCons (mVar 6) (mCons (mVar 2) mNil)) mNil)
def b__law_refused_5 : M := (mCallP f_is_part [0, 1] (mCons (mVar 2) (mCons (mVar 6) mNil)) mNil)
def b__law_refused_6 : M := (mCallP f_value_of [0, 1] (mCons (mVar 1) (mCons (mVar 4) mNil)) mNil)
def b__law_refused_7 : M := (mCallP f_part [0, 1] (mCons (mVar 1) (mCons (mVar 7) mNil)) mNil)
def bs__law_refused : List M := [b__law_refused_0, b__law_refused_1, b__law_refused_2, b__law_refused_3, b__law_refused_4, b__law_refused_5, b__law_refused_6, b__law_refused_7]
def m__law_refused : MS := (sCons (sAsg (gTp 2 (gCs (gNm 6) (gCs (gNm 7) gNo))) (mTup (mCons (mCallX f__law_odd_row false [0, 1] (mCons (mVar 0) (mCons (mVar 1) mNil)) mNil) (mCons (mCallX f__law_odd_hands false [0, 1] (mCons (mVar 0) (mCons (mVar 1) mNil)) mNil) mNil)))) (sCons (sSet 3 (mComp false (mRng1 (mCons (mCon (.int 5)) mNil)) (gNm 4) (mT (mCmp .NotIn (mVar 4) (mCallP f__law_hands [0] (mCons (mVar 1) mNil) mNil))) (mVar 4) [4])) (sCons (sSet 4 (mCallX f__law_pick false [0, 1] (mCons (mVar 0) (mCons (mOp false .Add (mLst false (mCons (mCon .non) (mCons (mNeg (mCon (.int 1))) (mCons (mCon (.str ("0" : Str))) (mCons (mCon (.bl true)) (mCons (mTup (mCons (mCon (.int 0)) mNil)) mNil)))))) (mVar 3)) mNil)) mNil)) (sFz 5 [(sSet 5 (mLst true (mCons (mCon (.clo 0)) mNil))), (sDrop (mLM .append (mVar 5) (mCons (mCon (.clo 1)) mNil))), (sDrop (mLM .append (mVar 5) (mCons (mCon (.clo 2)) mNil))), (sDrop (mLM .append (mVar 5) (mCons (mCon (.clo 3)) mNil))), (sDrop (mLM .append (mVar 5) (mCons (mCon (.clo 4)) mNil))), (sDrop (mLM .append (mVar 5) (mCons (mCon (.clo 5)) mNil)))] (sCons (sIf (mCmp .NotEq (mComp false (mSrc (mVar 5)) (gNm 8) (mT (mNot (mIsi subC (mCons (mCaughtW bs__law_refused [8] (mVar 8)) (mCons (mCon (.own 3)) mNil))))) (mCon (.int 1)) [8]) (mLst false mNil)) (sCons (sRet (mCon (.bl false))) sNil) sNil) (sCons (sIf (mNot (mIsi subC (mCons (mCaught bs__law_refused (mCon (.clo 6))) (mCons (mCon (.own 1)) mNil)))) (sCons (sRet (mCon (.bl false))) sNil) sNil) (sCons (sRet (mIsi subC (mCons (mCaught bs__law_refused (mCon (.clo 7))) (mCons (mCon (.own 2)) mNil)))) sNil)))))))
def f__law_refused : Fm := defRX m__law_refused 6
theorem ok__law_refused (G : GG K mg T cc cp) (TT_ : TT base mg cc cp) {fd : FuncData} (F : FunC K "_law_refused" "_law_refused" s__law_refused (T.fna 40) fd (cc 40)) : FnOk P w K mg base (L2.CX P w) 11 (T.fna 40) fd ["draw", "row", "other"] (spI K T.no f__law_refused 3) := by
  obtain ⟨fd_hands_of, F_hands_of⟩ := G.d_hands_of
  obtain ⟨fd_value_of, F_value_of⟩ := G.d_value_of
  obtain ⟨fd_part, F_part⟩ := G.d_part
  obtain ⟨fd_parts, F_parts⟩ := G.d_parts
  obtain ⟨fd_is_part, F_is_part⟩ := G.d_is_part
  obtain ⟨fd__law_pick, F__law_pick⟩ := G.d__law_pick
  obtain ⟨fd__law_caught, F__law_caught⟩ := G.d__law_caught
  obtain ⟨fd__law_hands, F__law_hands⟩ := G.d__law_hands
  obtain ⟨fd__law_odd_row, F__law_odd_row⟩ := G.d__law_odd_row
  obtain ⟨fd__law_odd_hands, F__law_odd_hands⟩ := G.d__law_odd_hands
  refine den_fnC (m := m__law_refused) F sc__law_refused rfl rfl fun A outer s H E hr W tk hp => ⟨cloT (cxOf (L2.CX P w) P w K mg base ["draw", "row", "other", "missing", "hand", "works", "odd", "hands", "work"] "_law_refused" (defScope s__law_refused) (T.fna 40) (.ref (cc 40)) A outer s H E) "_law_refused.<locals>.<lambda>" L__law_refused, ?_⟩
  have cl : CloL (cxOf (L2.CX P w) P w K mg base ["draw", "row", "other", "missing", "hand", "works", "odd", "hands", "work"] "_law_refused" (defScope s__law_refused) (T.fna 40) (.ref (cc 40)) A outer s H E) (T.with (cloT (cxOf (L2.CX P w) P w K mg base ["draw", "row", "other", "missing", "hand", "works", "odd", "hands", "work"] "_law_refused" (defScope s__law_refused) (T.fna 40) (.ref (cc 40)) A outer s H E) "_law_refused.<locals>.<lambda>" L__law_refused)) 8 "_law_refused.<locals>.<lambda>" L__law_refused bs__law_refused :=
    ⟨⟨rfl, LamX.lamS_by rfl, fun _ _ _ => rfl, fun A outer s H E f c' hr W tk => (by exact (den_callP (k := 8) (ps := ["row"]) tk (ok_hands_of G.toGL F_hands_of) rfl rfl (hr.mono (by decide)) rfl G.g_hands_of F_hands_of.kp (bg_hands_of_1_ F_hands_of) (den_cons (den_var rfl (.inr (.inr rfl)) rfl rfl) den_nil rfl) denk_nil rfl rfl rfl rfl rfl (lenS len0) len0))⟩, ⟨rfl, LamX.lamS_by rfl, fun _ _ _ => rfl, fun A outer s H E f c' hr W tk => (by exact (den_callP (k := 8) (ps := ["row", "hand"]) tk (ok_value_of G.toGL F_value_of) rfl rfl (hr.mono (by decide)) rfl G.g_value_of F_value_of.kp (bg_value_of_2_ F_value_of) (den_cons (den_var rfl (.inr (.inr rfl)) rfl rfl) (den_cons (den_var rfl (.inr (.inr rfl)) rfl rfl) den_nil rfl) rfl) denk_nil rfl rfl rfl rfl rfl (lenS (lenS len0)) len0))⟩, ⟨rfl, LamX.lamS_by rfl, fun _ _ _ => rfl, fun A outer s H E f c' hr W tk => (by exact (den_callP (k := 8) (ps := ["row", "hands"]) tk (ok_part G.toGL F_part) rfl rfl (hr.mono (by decide)) rfl G.g_part F_part.kp (bg_part_2_ F_part) (den_cons (den_var rfl (.inr (.inr rfl)) rfl rfl) (den_cons (den_var rfl (.inr (.inr rfl)) rfl rfl) den_nil rfl) rfl) denk_nil rfl rfl rfl rfl rfl (lenS (lenS len0)) len0))⟩, ⟨rfl, LamX.lamS_by rfl, fun _ _ _ => rfl, fun A outer s H E f c' hr W tk => (by exact (den_callP (k := 8) (ps := ["row"]) tk (ok_parts G.toGL F_parts) rfl rfl (hr.mono (by decide)) rfl G.g_parts F_parts.kp (bg_parts_1_ F_parts) (den_cons (den_var rfl (.inr (.inr rfl)) rfl rfl) den_nil rfl) denk_nil rfl rfl rfl rfl rfl (lenS len0) len0))⟩, ⟨rfl, LamX.lamS_by rfl, fun _ _ _ => rfl, fun A outer s H E f c' hr W tk => (by exact (den_callP (k := 8) (ps := ["one", "other"]) tk (ok_is_part G.toGL F_is_part) rfl rfl (hr.mono (by decide)) rfl G.g_is_part F_is_part.kp (bg_is_part_2_ F_is_part) (den_cons (den_var rfl (.inr (.inr rfl)) rfl rfl) (den_cons (den_var rfl (.inr (.inr rfl)) rfl rfl) den_nil rfl) rfl) denk_nil rfl rfl rfl rfl rfl (lenS (lenS len0)) len0))⟩, ⟨rfl, LamX.lamS_by rfl, fun _ _ _ => rfl, fun A outer s H E f c' hr W tk => (by exact (den_callP (k := 8) (ps := ["one", "other"]) tk (ok_is_part G.toGL F_is_part) rfl rfl (hr.mono (by decide)) rfl G.g_is_part F_is_part.kp (bg_is_part_2_ F_is_part) (den_cons (den_var rfl (.inr (.inr rfl)) rfl rfl) (den_cons (den_var rfl (.inr (.inr rfl)) rfl rfl) den_nil rfl) rfl) denk_nil rfl rfl rfl rfl rfl (lenS (lenS len0)) len0))⟩, ⟨rfl, LamX.lamS_by rfl, fun _ _ _ => rfl, fun A outer s H E f c' hr W tk => (by exact (den_callP (k := 8) (ps := ["row", "hand"]) tk (ok_value_of G.toGL F_value_of) rfl rfl (hr.mono (by decide)) rfl G.g_value_of F_value_of.kp (bg_value_of_2_ F_value_of) (den_cons (den_var rfl (.inr (.inr rfl)) rfl rfl) (den_cons (den_var rfl (.inr (.inr rfl)) rfl rfl) den_nil rfl) rfl) denk_nil rfl rfl rfl rfl rfl (lenS (lenS len0)) len0))⟩, ⟨rfl, LamX.lamS_by rfl, fun _ _ _ => rfl, fun A outer s H E f c' hr W tk => (by exact (den_callP (k := 8) (ps := ["row", "hands"]) tk (ok_part G.toGL F_part) rfl rfl (hr.mono (by decide)) rfl G.g_part F_part.kp (bg_part_2_ F_part) (den_cons (den_var rfl (.inr (.inr rfl)) rfl rfl) (den_cons (den_var rfl (.inr (.inr rfl)) rfl rfl) den_nil rfl) rfl) denk_nil rfl rfl rfl rfl rfl (lenS (lenS len0)) len0))⟩, trivial⟩
  exact (den_scons (den_asg (den_tup (den_cons (by exact (den_callX (k := 4) (ps := ["draw", "row"]) tk (ok__law_odd_row G.toGL F__law_odd_row) rfl (hr.mono (by decide)) rfl G.g__law_odd_row F__law_odd_row.kp (bg__law_odd_row_2_ F__law_odd_row) (den_cons (den_var rfl (.inl rfl) rfl rfl) (den_cons (den_var rfl (.inr (.inl rfl)) rfl rfl) den_nil rfl) rfl) denk_nil rfl rfl rfl rfl rfl (lenS (lenS len0)) len0)) (den_cons (by exact (den_callX (k := 4) (ps := ["draw", "row"]) tk (ok__law_odd_hands G.toGL F__law_odd_hands) rfl (hr.mono (by decide)) rfl G.g__law_odd_hands F__law_odd_hands.kp (bg__law_odd_hands_2_ F__law_odd_hands) (den_cons (den_var rfl (.inl rfl) rfl rfl) (den_cons (den_var rfl (.inr (.inl rfl)) rfl rfl) den_nil rfl) rfl) denk_nil rfl rfl rfl rfl rfl (lenS (lenS len0)) len0)) den_nil rfl) rfl)) (den_gtp rfl (den_gcs (den_gnm sc__law_refused.nd rfl (.inr rfl) (.inl rfl)) (den_gcs (den_gnm sc__law_refused.nd rfl (.inr rfl) (.inl rfl)) den_gno rfl) rfl) rfl rfl) rfl rfl rfl)
    (den_scons (den_setComp rfl sc__law_refused.nd rfl rfl (sw_true rfl rfl rfl (by decide +kernel)) (by exact (den_rng1 rfl G.b_range (den_cons (den_flat rfl pe_int) den_nil rfl) rfl)) (blkOk_by (own := [("hand", 4)]) rfl) rfl (fun s H C cl fp => (den_gnm sc__law_refused.nd rfl (.inl rfl) (.inr rfl))) (keeps_nm (i := 4) (by decide)) (mono_nm (i := 4)) (fun s H C cl fp => (den_oneT (dent_cmpT hr.u65 (den_var rfl (.inl rfl) rfl rfl) (by exact (den_callP (k := 1) (ps := ["row"]) takes0 (ok__law_hands G.toGL F__law_hands) rfl rfl (hr.mono (by decide)) rfl G.g__law_hands F__law_hands.kp (bg__law_hands_1_ F__law_hands) (den_cons (den_var rfl (.inr (.inl rfl)) rfl rfl) den_nil rfl) denk_nil rfl rfl rfl rfl rfl (lenS len0) len0)) rfl))) (fun s H C cl fp => (den_var rfl (.inl rfl) rfl rfl)) (fun _ => rfl))
    (den_scons (den_set sc__law_refused.nd rfl (.inr rfl) (.inl rfl) (by exact (den_callX (k := 3) (ps := ["draw", "some"]) tk (ok__law_pick G.toGL F__law_pick) rfl (hr.mono (by decide)) rfl G.g__law_pick F__law_pick.kp (bg__law_pick_2_ F__law_pick) (den_cons (den_var rfl (.inl rfl) rfl rfl) (den_cons (den_bin (den_lst (den_cons (den_flat rfl pe_non) (den_cons (den_neg (den_flat rfl pe_int)) (den_cons (den_flat rfl pe_str) (den_cons (den_flat rfl pe_bl) (den_cons (den_tup (den_cons (den_flat rfl pe_int) den_nil rfl)) den_nil rfl) rfl) rfl) rfl) rfl)) (den_var rfl (.inl rfl) rfl rfl)) den_nil rfl) rfl) denk_nil rfl rfl rfl rfl rfl (lenS (lenS len0)) len0)) rfl)
    (den_fz (i := 5) (.cons (den_set sc__law_refused.nd rfl (.inl rfl) (.inl rfl) (den_lst (den_cons (den_lam (j := 0) rfl (fun _ => rfl) TT_.x__law_refused rfl G.t__law_refused G.u__law_refused rfl (LamX.lamS_by rfl)) den_nil rfl)) rfl)
    (.cons (den_drop (by exact (den_lm1 (b := .append) (.inl rfl) (den_var rfl (.inl rfl) rfl rfl) (den_cons (den_lam (j := 1) rfl (fun _ => rfl) TT_.x__law_refused rfl G.t__law_refused G.u__law_refused rfl (LamX.lamS_by rfl)) den_nil rfl) rfl rfl rfl rfl rfl)) rfl)
    (.cons (den_drop (by exact (den_lm1 (b := .append) (.inl rfl) (den_var rfl (.inl rfl) rfl rfl) (den_cons (den_lam (j := 2) rfl (fun _ => rfl) TT_.x__law_refused rfl G.t__law_refused G.u__law_refused rfl (LamX.lamS_by rfl)) den_nil rfl) rfl rfl rfl rfl rfl)) rfl)
    (.cons (den_drop (by exact (den_lm1 (b := .append) (.inl rfl) (den_var rfl (.inl rfl) rfl rfl) (den_cons (den_lam (j := 3) rfl (fun _ => rfl) TT_.x__law_refused rfl G.t__law_refused G.u__law_refused rfl (LamX.lamS_by rfl)) den_nil rfl) rfl rfl rfl rfl rfl)) rfl)
    (.cons (den_drop (by exact (den_lm1 (b := .append) (.inl rfl) (den_var rfl (.inl rfl) rfl rfl) (den_cons (den_lam (j := 4) rfl (fun _ => rfl) TT_.x__law_refused rfl G.t__law_refused G.u__law_refused rfl (LamX.lamS_by rfl)) den_nil rfl) rfl rfl rfl rfl rfl)) rfl)
    (.cons (den_drop (by exact (den_lm1 (b := .append) (.inl rfl) (den_var rfl (.inl rfl) rfl rfl) (den_cons (den_lam (j := 5) rfl (fun _ => rfl) TT_.x__law_refused rfl G.t__law_refused G.u__law_refused rfl (LamX.lamS_by rfl)) den_nil rfl) rfl rfl rfl rfl rfl)) rfl)
    .nil))))))
    (den_scons (den_if (dent_cmpT hr.u65 (by exact (den_compC rfl sc__law_refused.nd (by exact (den_src (den_var rfl (.inl rfl) rfl rfl))) (blkOk_by (own := [("work", 8)]) rfl) rfl (fun s H C cl fp => (den_gnm sc__law_refused.nd rfl (.inl rfl) (.inr rfl))) (keeps_nm (i := 8) (by decide)) (mono_nm (i := 8)) (fun pins s2 σ2 H2 C2 cl2 fp2 I3 f3 => pts_one (gdent_not (gdent_val (gden_isi G.kw.with_ rfl G.b_isinstance (gden_two (d := .own 3) (by exact (den_caughtB I3 f3 rfl G.g__law_caught F__law_caught rfl (Fun.bind1 F__law_caught fun _ _ _ _ _ _ _ => rfl) sc__law_caught rfl rfl rfl rfl G.c_HandError ⟨rfl, rfl, rfl, rfl, rfl, rfl, rfl, rfl⟩ G.exm (hr.mono (by decide)) cl (den_var rfl (.inl rfl) rfl rfl) rfl rfl)) (pe_glob (v := .ref (T.cls 3)) rfl G.c_BadRow rfl rfl) (fun _ _ => by unfold RelD; rfl) rfl rfl) rfl rfl) (fun _ => rfl)))) (fun s H C cl fp => (den_flat rfl pe_int)) (fun _ => rfl))) (den_lst den_nil) rfl) (den_scons (den_ret (den_flat rfl pe_bl))
    den_snil) den_snil)
    (den_scons (den_if (dent_not (dent_val (by exact (den_isi G.kw.with_ rfl G.b_isinstance (den_cons (by exact (den_caughtF rfl G.g__law_caught F__law_caught rfl (Fun.bind1 F__law_caught fun _ _ _ _ _ _ _ => rfl) sc__law_caught rfl rfl rfl rfl G.c_HandError ⟨rfl, rfl, rfl, rfl, rfl, rfl, rfl, rfl⟩ G.exm (hr.mono (by decide)) cl (den_lam (j := 6) rfl (fun _ => rfl) TT_.x__law_refused rfl G.t__law_refused G.u__law_refused rfl (LamX.lamS_by rfl)) rfl rfl)) (den_cons (den_own rfl G.c_BadHand rfl) den_nil rfl) rfl) rfl rfl)) (fun _ => rfl))) (den_scons (den_ret (den_flat rfl pe_bl))
    den_snil) den_snil)
    (den_scons (den_ret (by exact (den_isi G.kw.with_ rfl G.b_isinstance (den_cons (by exact (den_caughtF rfl G.g__law_caught F__law_caught rfl (Fun.bind1 F__law_caught fun _ _ _ _ _ _ _ => rfl) sc__law_caught rfl rfl rfl rfl G.c_HandError ⟨rfl, rfl, rfl, rfl, rfl, rfl, rfl, rfl⟩ G.exm (hr.mono (by decide)) cl (den_lam (j := 7) rfl (fun _ => rfl) TT_.x__law_refused rfl G.t__law_refused G.u__law_refused rfl (LamX.lamS_by rfl)) rfl rfl)) (den_cons (den_own rfl G.c_BadHands rfl) den_nil rfl) rfl) rfl rfl)))
    den_snil)))))))
abbrev s_law : Stmt := topS 52
theorem sc_law : FnScope ["script", "draw", "lap", "values", "row", "near", "odd", "some", "one", "other", "hand", "value"] ["script"] (defScope s_law) := ⟨rfl, rfl, rfl, by decide +kernel, rfl, by decide +kernel, by decide +kernel⟩
def m_law : MS := (sCons (sSet 1 (mCallX f__law_begun true [0] (mCons (mVar 0) mNil) mNil)) (sCons (sFor (mRng1 (mCons (mOp false .Add (mCon (.int 3)) (mBi false .min2 (mCons (mBi false .len (mCons (mVar 0) mNil)) (mCons (mCon (.int 3)) mNil)))) mNil)) (gNm 2) (sCons (sSet 3 (mCallX f__law_values false [0, 1] (mCons (mVar 1) (mCons (mCon (.int 3)) mNil)) mNil)) (sCons (sSet 4 (mCallX f__law_row false [0, 1, 2] (mCons (mVar 1) (mCons (mCallX f__law_some_hands false [0, 1] (mCons (mVar 1) (mCons (mCon (.int 4)) mNil)) mNil) (mCons (mVar 3) mNil))) mNil)) (sCons (sSet 5 (mComp false (mSrc (mVar 4)) (gTp 2 (gCs (gNm 10) (gCs (gNm 11) gNo))) mYesT (mTup (mCons (mVar 10) (mCons (mCallX f__law_pick false [0, 1] (mCons (mVar 1) (mCons (mLst false (mCons (mVar 11) (mCons (mVar 11) (mCons (mCallX f__law_pick false [0, 1] (mCons (mVar 1) (mCons (mVar 3) mNil)) mNil) mNil)))) mNil)) mNil) mNil))) [10, 11])) (sCons (sSet 5 (mCallX f__law_pick false [0, 1] (mCons (mVar 1) (mCons (mCallP f__law_parts [0] (mCons (mBi false .tuple (mCons (mVar 5) mNil)) mNil) mNil) mNil)) mNil)) (sCons (sSet 6 (mCallX f__law_odd_row false [0, 1] (mCons (mVar 1) (mCons (mVar 4) mNil)) mNil)) (sCons (sIf (mOr (mCmp .IsNot (mCallP f_is_row [0] (mCons (mVar 4) mNil) mNil) (mCon (.bl true))) (mNot (mCallP f__law_says [0, 1] (mCons (mCallP f_is_row [0] mNil (mCons (mVar 6) mNil)) (mCons (mCallP f__law_is_row [0] (mCons (mVar 6) mNil) mNil) mNil)) mNil))) (sCons (sRet (mCon (.bl false))) sNil) sNil) (sCons (sIf (mOr (mCmp .NotEq (mCallP f_hands_of [0] mNil (mCons (mVar 4) mNil)) (mCallP f__law_hands [0] (mCons (mVar 4) mNil) mNil)) (mCmp .NotEq (mListA false (mCons (mCallP f_parts [0] mNil (mCons (mVar 4) mNil)) mNil)) (mCallP f__law_parts [0] (mCons (mVar 4) mNil) mNil))) (sCons (sRet (mCon (.bl false))) sNil) sNil) (sCons (sIf (mCmp .NotEq (mComp false (mSrc (mVar 4)) (gTp 2 (gCs (gNm 10) (gCs (gNm 11) gNo))) (mT (mOr (mCmp .NotEq (mCallP f_value_of [0, 1] (mCons (mVar 4) (mCons (mVar 10) mNil)) mNil) (mVar 11)) (mCmp .NotEq (mCallP f_value_of [1, 0] mNil (mCons (mVar 10) (mCons (mVar 4) mNil))) (mVar 11)))) (mCon (.int 1)) [10, 11]) (mLst false mNil)) (sCons (sRet (mCon (.bl false))) sNil) sNil) (sCons (sFor (mSrc (mCallP f__law_parts [0] (mCons (mVar 4) mNil) mNil)) (gNm 7) (sCons (sIf (mOr (mCmp .NotEq (mCallP f_part [0, 1] (mCons (mVar 4) (mCons (mCallP f__law_hands [0] (mCons (mVar 7) mNil) mNil) mNil)) mNil) (mVar 7)) (mCmp .NotEq (mCallP f_part [1, 0] mNil (mCons (mCallP f__law_hands [0] (mCons (mVar 7) mNil) mNil) (mCons (mVar 4) mNil))) (mVar 7))) (sCons (sRet (mCon (.bl false))) sNil) sNil) (sCons (sIf (mCmp .IsNot (mCallP f_is_part [0, 1] (mCons (mVar 7) (mCons (mVar 4) mNil)) mNil) (mCon (.bl true))) (sCons (sRet (mCon (.bl false))) sNil) sNil) sNil))) (sCons (sFor (mSrc (mLst false (mCons (mTup (mCons (mVar 5) (mCons (mVar 4) mNil))) (mCons (mTup (mCons (mVar 4) (mCons (mVar 5) mNil))) (mCons (mTup (mCons (mVar 5) (mCons (mVar 5) mNil))) mNil))))) (gTp 2 (gCs (gNm 8) (gCs (gNm 9) gNo))) (sCons (sIf (mNot (mCallP f__law_says [0, 1] (mCons (mCallP f_is_part [1, 0] mNil (mCons (mVar 9) (mCons (mVar 8) mNil))) (mCons (mCallP f__law_is_part [0, 1] (mCons (mVar 8) (mCons (mVar 9) mNil)) mNil) mNil)) mNil)) (sCons (sRet (mCon (.bl false))) sNil) sNil) sNil)) (sCons (sIf (mNot (mCallX f__law_refused false [0, 1, 2] (mCons (mVar 1) (mCons (mVar 4) (mCons (mVar 5) mNil))) mNil)) (sCons (sRet (mCon (.bl false))) sNil) sNil) sNil)))))))))))) (sCons (sRet (mCon (.bl true))) sNil)))
def f_law : Fm := defR m_law 11
theorem ok_law (G : GG K mg T cc cp) (TT_ : TT base mg cc cp) {fd : FuncData} (F : Fun K "law" "law" s_law (T.fna 41) fd) : FnOk P w K mg base (L2.CX P w) 12 (T.fna 41) fd ["script"] (spI K T.no f_law 1) := by
  obtain ⟨fd_is_row, F_is_row⟩ := G.d_is_row
  obtain ⟨fd_hands_of, F_hands_of⟩ := G.d_hands_of
  obtain ⟨fd_value_of, F_value_of⟩ := G.d_value_of
  obtain ⟨fd_part, F_part⟩ := G.d_part
  obtain ⟨fd_parts, F_parts⟩ := G.d_parts
  obtain ⟨fd_is_part, F_is_part⟩ := G.d_is_part
  obtain ⟨fd__law_begun, F__law_begun⟩ := G.d__law_begun
  obtain ⟨fd__law_pick, F__law_pick⟩ := G.d__law_pick
  obtain ⟨fd__law_says, F__law_says⟩ := G.d__law_says
  obtain ⟨fd__law_is_row, F__law_is_row⟩ := G.d__law_is_row
  obtain ⟨fd__law_hands, F__law_hands⟩ := G.d__law_hands
  obtain ⟨fd__law_parts, F__law_parts⟩ := G.d__law_parts
  obtain ⟨fd__law_is_part, F__law_is_part⟩ := G.d__law_is_part
  obtain ⟨fd__law_values, F__law_values⟩ := G.d__law_values
  obtain ⟨fd__law_row, F__law_row⟩ := G.d__law_row
  obtain ⟨fd__law_some_hands, F__law_some_hands⟩ := G.d__law_some_hands
  obtain ⟨fd__law_odd_row, F__law_odd_row⟩ := G.d__law_odd_row
  obtain ⟨fd__law_refused, F__law_refused⟩ := G.d__law_refused
  exact den_fn (T := T.no) (m := m_law) F sc_law rfl rfl fun cdv A outer s H E hr W tk hp =>
    (den_scons (den_set sc_law.nd rfl (.inr rfl) (.inl rfl) (by exact (den_callX (k := 1) (ps := ["script"]) tk (ok__law_begun G.toGL F__law_begun) rfl (hr.mono (by decide)) rfl G.g__law_begun F__law_begun.kp (bg__law_begun_1_ F__law_begun) (den_cons (den_var rfl (.inl rfl) rfl rfl) den_nil rfl) denk_nil rfl rfl rfl rfl rfl (lenS len0) len0)) rfl)
    (den_scons (den_for hp rfl (by exact (den_rng1 rfl G.b_range (den_cons (den_bin (den_flat rfl pe_int) (by exact (den_bi (b := .min2) hr.u65 rfl rfl G.b_min (den_cons (by exact (den_bi (b := .len) hr.u65 rfl rfl G.b_len (den_cons (den_var rfl (.inl rfl) rfl rfl) den_nil rfl) rfl rfl)) (den_cons (den_flat rfl pe_int) den_nil rfl) rfl) rfl rfl))) den_nil rfl) rfl)) (den_gnm sc_law.nd rfl (.inl rfl) (.inl rfl)) (den_scons (den_set sc_law.nd rfl (.inr rfl) (.inl rfl) (by exact (den_callX (k := 4) (ps := ["draw", "many"]) tk (ok__law_values G.toGL F__law_values) rfl (hr.mono (by decide)) rfl G.g__law_values F__law_values.kp (bg__law_values_2_ F__law_values) (den_cons (den_var rfl (.inr (.inl rfl)) rfl rfl) (den_cons (den_flat rfl pe_int) den_nil rfl) rfl) denk_nil rfl rfl rfl rfl rfl (lenS (lenS len0)) len0)) rfl)
    (den_scons (den_set sc_law.nd rfl (.inr rfl) (.inl rfl) (by exact (den_callX (k := 4) (ps := ["draw", "hands", "values"]) tk (ok__law_row G.toGL F__law_row) rfl (hr.mono (by decide)) rfl G.g__law_row F__law_row.kp (bg__law_row_3_ F__law_row) (den_cons (den_var rfl (.inr (.inl rfl)) rfl rfl) (den_cons (by exact (den_callX (k := 3) (ps := ["draw", "many"]) tk (ok__law_some_hands G.toGL F__law_some_hands) rfl (hr.mono (by decide)) rfl G.g__law_some_hands F__law_some_hands.kp (bg__law_some_hands_2_ F__law_some_hands) (den_cons (den_var rfl (.inr (.inl rfl)) rfl rfl) (den_cons (den_flat rfl pe_int) den_nil rfl) rfl) denk_nil rfl rfl rfl rfl rfl (lenS (lenS len0)) len0)) (den_cons (den_var rfl (.inr (.inl rfl)) rfl rfl) den_nil rfl) rfl) rfl) denk_nil rfl rfl rfl rfl rfl (lenS (lenS (lenS len0))) len0)) rfl)
    (den_scons (den_setComp rfl sc_law.nd rfl rfl (sw_true rfl rfl rfl (by decide +kernel)) (by exact (den_src (den_var rfl (.inr (.inl rfl)) rfl rfl))) (blkOk_by (own := [("hand", 10), ("value", 11)]) rfl) rfl (fun s H C cl fp => (den_gtp rfl (den_gcs (den_gnm sc_law.nd rfl (.inl rfl) (.inr rfl)) (den_gcs (den_gnm sc_law.nd rfl (.inl rfl) (.inr rfl)) den_gno rfl) rfl) rfl rfl)) (keeps_tp (K := K) (n := 2) (keeps_cs (mono_nm (i := 10)) (keeps_nm (i := 10) (by decide)) (keeps_cs (mono_nm (i := 11)) (keeps_nm (i := 11) (by decide)) keeps_no mono_no) (mono_cs (mono_nm (i := 11)) mono_no))) (mono_tp (K := K) (n := 2) (mono_cs (mono_nm (i := 10)) (mono_cs (mono_nm (i := 11)) mono_no))) (fun s H C cl fp => den_yesT) (fun s H C cl fp => (den_tup (den_cons (den_var rfl (.inl rfl) rfl rfl) (den_cons (by exact (den_callX (k := 3) (ps := ["draw", "some"]) takes0 (ok__law_pick G.toGL F__law_pick) rfl (hr.mono (by decide)) rfl G.g__law_pick F__law_pick.kp (bg__law_pick_2_ F__law_pick) (den_cons (den_var rfl (.inr (.inl rfl)) rfl rfl) (den_cons (den_lst (den_cons (den_var rfl (.inl rfl) rfl rfl) (den_cons (den_var rfl (.inl rfl) rfl rfl) (den_cons (by exact (den_callX (k := 3) (ps := ["draw", "some"]) takes0 (ok__law_pick G.toGL F__law_pick) rfl (hr.mono (by decide)) rfl G.g__law_pick F__law_pick.kp (bg__law_pick_2_ F__law_pick) (den_cons (den_var rfl (.inr (.inl rfl)) rfl rfl) (den_cons (den_var rfl (.inr (.inl rfl)) rfl rfl) den_nil rfl) rfl) denk_nil rfl rfl rfl rfl rfl (lenS (lenS len0)) len0)) den_nil rfl) rfl) rfl)) den_nil rfl) rfl) denk_nil rfl rfl rfl rfl rfl (lenS (lenS len0)) len0)) den_nil rfl) rfl))) (fun _ => rfl))
    (den_scons (den_set sc_law.nd rfl (.inl rfl) (.inl rfl) (by exact (den_callX (k := 3) (ps := ["draw", "some"]) tk (ok__law_pick G.toGL F__law_pick) rfl (hr.mono (by decide)) rfl G.g__law_pick F__law_pick.kp (bg__law_pick_2_ F__law_pick) (den_cons (den_var rfl (.inr (.inl rfl)) rfl rfl) (den_cons (by exact (den_callP (k := 4) (ps := ["row"]) tk (ok__law_parts G.toGL F__law_parts) rfl rfl (hr.mono (by decide)) rfl G.g__law_parts F__law_parts.kp (bg__law_parts_1_ F__law_parts) (den_cons (by exact (den_bi (b := .tuple) hr.u65 rfl rfl G.b_tuple (den_cons (den_var rfl (.inl rfl) rfl rfl) den_nil rfl) rfl rfl)) den_nil rfl) denk_nil rfl rfl rfl rfl rfl (lenS len0) len0)) den_nil rfl) rfl) denk_nil rfl rfl rfl rfl rfl (lenS (lenS len0)) len0)) rfl)
    (den_scons (den_set sc_law.nd rfl (.inl rfl) (.inl rfl) (by exact (den_callX (k := 4) (ps := ["draw", "row"]) tk (ok__law_odd_row G.toGL F__law_odd_row) rfl (hr.mono (by decide)) rfl G.g__law_odd_row F__law_odd_row.kp (bg__law_odd_row_2_ F__law_odd_row) (den_cons (den_var rfl (.inr (.inl rfl)) rfl rfl) (den_cons (den_var rfl (.inr (.inl rfl)) rfl rfl) den_nil rfl) rfl) denk_nil rfl rfl rfl rfl rfl (lenS (lenS len0)) len0)) rfl)
    (den_scons (den_if (dent_ptA (dent_or (dent_cmpT hr.u65 (by exact (den_callP (k := 7) (ps := ["thing"]) tk (ok_is_row G.toGL F_is_row) rfl rfl (hr.mono (by decide)) rfl G.g_is_row F_is_row.kp (bg_is_row_1_ F_is_row) (den_cons (den_var rfl (.inr (.inl rfl)) rfl rfl) den_nil rfl) denk_nil rfl rfl rfl rfl rfl (lenS len0) len0)) (den_flat rfl pe_bl) rfl) (dent_or1 (dent_not (dent_val (by exact (den_callP (k := 1) (ps := ["found", "due"]) tk (ok__law_says G.toGL F__law_says) rfl rfl (hr.mono (by decide)) rfl G.g__law_says F__law_says.kp (bg__law_says_2_ F__law_says) (den_cons (by exact (den_callP0 (k := 7) (ps := ["thing"]) tk (ok_is_row G.toGL F_is_row) rfl rfl (hr.mono (by decide)) rfl G.g_is_row F_is_row.kp (bg_is_row_0_thing F_is_row) (denk_cons (den_var rfl (.inl rfl) rfl rfl) denk_nil) rfl rfl rfl rfl (lenS len0))) (den_cons (by exact (den_callP (k := 2) (ps := ["thing"]) tk (ok__law_is_row G.toGL F__law_is_row) rfl rfl (hr.mono (by decide)) rfl G.g__law_is_row F__law_is_row.kp (bg__law_is_row_1_ F__law_is_row) (den_cons (den_var rfl (.inl rfl) rfl rfl) den_nil rfl) denk_nil rfl rfl rfl rfl rfl (lenS len0) len0)) den_nil rfl) rfl) denk_nil rfl rfl rfl rfl rfl (lenS (lenS len0)) len0)) (fun _ => rfl)))))) (den_scons (den_ret (den_flat rfl pe_bl))
    den_snil) den_snil)
    (den_scons (den_if (dent_ptA (dent_or (dent_cmpT hr.u65 (by exact (den_callP0 (k := 8) (ps := ["row"]) tk (ok_hands_of G.toGL F_hands_of) rfl rfl (hr.mono (by decide)) rfl G.g_hands_of F_hands_of.kp (bg_hands_of_0_row F_hands_of) (denk_cons (den_var rfl (.inr (.inl rfl)) rfl rfl) denk_nil) rfl rfl rfl rfl (lenS len0))) (by exact (den_callP (k := 1) (ps := ["row"]) tk (ok__law_hands G.toGL F__law_hands) rfl rfl (hr.mono (by decide)) rfl G.g__law_hands F__law_hands.kp (bg__law_hands_1_ F__law_hands) (den_cons (den_var rfl (.inr (.inl rfl)) rfl rfl) den_nil rfl) denk_nil rfl rfl rfl rfl rfl (lenS len0) len0)) rfl) (dent_or1 (dent_cmpT hr.u65 (by exact (den_listA rfl rfl G.b_list (den_cons (by exact (den_callP0 (k := 8) (ps := ["row"]) tk (ok_parts G.toGL F_parts) rfl rfl (hr.mono (by decide)) rfl G.g_parts F_parts.kp (bg_parts_0_row F_parts) (denk_cons (den_var rfl (.inr (.inl rfl)) rfl rfl) denk_nil) rfl rfl rfl rfl (lenS len0))) den_nil rfl) rfl rfl)) (by exact (den_callP (k := 4) (ps := ["row"]) tk (ok__law_parts G.toGL F__law_parts) rfl rfl (hr.mono (by decide)) rfl G.g__law_parts F__law_parts.kp (bg__law_parts_1_ F__law_parts) (den_cons (den_var rfl (.inr (.inl rfl)) rfl rfl) den_nil rfl) denk_nil rfl rfl rfl rfl rfl (lenS len0) len0)) rfl)))) (den_scons (den_ret (den_flat rfl pe_bl))
    den_snil) den_snil)
    (den_scons (den_if (dent_cmpT hr.u65 (by exact (den_comp rfl sc_law.nd (by exact (den_src (den_var rfl (.inr (.inl rfl)) rfl rfl))) (blkOk_by (own := [("hand", 10), ("value", 11)]) rfl) rfl (fun s H C cl fp => (den_gtp rfl (den_gcs (den_gnm sc_law.nd rfl (.inl rfl) (.inr rfl)) (den_gcs (den_gnm sc_law.nd rfl (.inl rfl) (.inr rfl)) den_gno rfl) rfl) rfl rfl)) (keeps_tp (K := K) (n := 2) (keeps_cs (mono_nm (i := 10)) (keeps_nm (i := 10) (by decide)) (keeps_cs (mono_nm (i := 11)) (keeps_nm (i := 11) (by decide)) keeps_no mono_no) (mono_cs (mono_nm (i := 11)) mono_no))) (mono_tp (K := K) (n := 2) (mono_cs (mono_nm (i := 10)) (mono_cs (mono_nm (i := 11)) mono_no))) (fun s H C cl fp => (den_oneT (dent_ptA (dent_or (dent_cmpT hr.u65 (by exact (den_callP (k := 8) (ps := ["row", "hand"]) takes0 (ok_value_of G.toGL F_value_of) rfl rfl (hr.mono (by decide)) rfl G.g_value_of F_value_of.kp (bg_value_of_2_ F_value_of) (den_cons (den_var rfl (.inr (.inl rfl)) rfl rfl) (den_cons (den_var rfl (.inl rfl) rfl rfl) den_nil rfl) rfl) denk_nil rfl rfl rfl rfl rfl (lenS (lenS len0)) len0)) (den_var rfl (.inl rfl) rfl rfl) rfl) (dent_or1 (dent_cmpT hr.u65 (by exact (den_callP0 (k := 8) (ps := ["row", "hand"]) takes0 (ok_value_of G.toGL F_value_of) rfl rfl (hr.mono (by decide)) rfl G.g_value_of F_value_of.kp (bg_value_of_0_hand_row F_value_of) (denk_cons (den_var rfl (.inl rfl) rfl rfl) (denk_cons (den_var rfl (.inr (.inl rfl)) rfl rfl) denk_nil)) rfl rfl rfl rfl (lenS (lenS len0)))) (den_var rfl (.inl rfl) rfl rfl) rfl)))))) (fun s H C cl fp => (den_flat rfl pe_int)) (fun _ => rfl))) (den_lst den_nil) rfl) (den_scons (den_ret (den_flat rfl pe_bl))
    den_snil) den_snil)
    (den_scons (den_for hp rfl (by exact (den_src (by exact (den_callP (k := 4) (ps := ["row"]) tk (ok__law_parts G.toGL F__law_parts) rfl rfl (hr.mono (by decide)) rfl G.g__law_parts F__law_parts.kp (bg__law_parts_1_ F__law_parts) (den_cons (den_var rfl (.inr (.inl rfl)) rfl rfl) den_nil rfl) denk_nil rfl rfl rfl rfl rfl (lenS len0) len0)))) (den_gnm sc_law.nd rfl (.inl rfl) (.inl rfl)) (den_scons (den_if (dent_ptA (dent_or (dent_cmpT hr.u65 (by exact (den_callP (k := 8) (ps := ["row", "hands"]) tk (ok_part G.toGL F_part) rfl rfl (hr.mono (by decide)) rfl G.g_part F_part.kp (bg_part_2_ F_part) (den_cons (den_var rfl (.inr (.inl rfl)) rfl rfl) (den_cons (by exact (den_callP (k := 1) (ps := ["row"]) tk (ok__law_hands G.toGL F__law_hands) rfl rfl (hr.mono (by decide)) rfl G.g__law_hands F__law_hands.kp (bg__law_hands_1_ F__law_hands) (den_cons (den_var rfl (.inl rfl) rfl rfl) den_nil rfl) denk_nil rfl rfl rfl rfl rfl (lenS len0) len0)) den_nil rfl) rfl) denk_nil rfl rfl rfl rfl rfl (lenS (lenS len0)) len0)) (den_var rfl (.inl rfl) rfl rfl) rfl) (dent_or1 (dent_cmpT hr.u65 (by exact (den_callP0 (k := 8) (ps := ["row", "hands"]) tk (ok_part G.toGL F_part) rfl rfl (hr.mono (by decide)) rfl G.g_part F_part.kp (bg_part_0_hands_row F_part) (denk_cons (by exact (den_callP (k := 1) (ps := ["row"]) tk (ok__law_hands G.toGL F__law_hands) rfl rfl (hr.mono (by decide)) rfl G.g__law_hands F__law_hands.kp (bg__law_hands_1_ F__law_hands) (den_cons (den_var rfl (.inl rfl) rfl rfl) den_nil rfl) denk_nil rfl rfl rfl rfl rfl (lenS len0) len0)) (denk_cons (den_var rfl (.inr (.inl rfl)) rfl rfl) denk_nil)) rfl rfl rfl rfl (lenS (lenS len0)))) (den_var rfl (.inl rfl) rfl rfl) rfl)))) (den_scons (den_ret (den_flat rfl pe_bl))
    den_snil) den_snil)
    (den_scons (den_if (dent_cmpT hr.u65 (by exact (den_callP (k := 8) (ps := ["one", "other"]) tk (ok_is_part G.toGL F_is_part) rfl rfl (hr.mono (by decide)) rfl G.g_is_part F_is_part.kp (bg_is_part_2_ F_is_part) (den_cons (den_var rfl (.inl rfl) rfl rfl) (den_cons (den_var rfl (.inr (.inl rfl)) rfl rfl) den_nil rfl) rfl) denk_nil rfl rfl rfl rfl rfl (lenS (lenS len0)) len0)) (den_flat rfl pe_bl) rfl) (den_scons (den_ret (den_flat rfl pe_bl))
    den_snil) den_snil)
    den_snil)) (fun _ => rfl))
    (den_scons (den_for hp rfl (by exact (den_src (den_lst (den_cons (den_tup (den_cons (den_var rfl (.inl rfl) rfl rfl) (den_cons (den_var rfl (.inr (.inl rfl)) rfl rfl) den_nil rfl) rfl)) (den_cons (den_tup (den_cons (den_var rfl (.inr (.inl rfl)) rfl rfl) (den_cons (den_var rfl (.inl rfl) rfl rfl) den_nil rfl) rfl)) (den_cons (den_tup (den_cons (den_var rfl (.inl rfl) rfl rfl) (den_cons (den_var rfl (.inl rfl) rfl rfl) den_nil rfl) rfl)) den_nil rfl) rfl) rfl)))) (den_gtp rfl (den_gcs (den_gnm sc_law.nd rfl (.inl rfl) (.inl rfl)) (den_gcs (den_gnm sc_law.nd rfl (.inl rfl) (.inl rfl)) den_gno rfl) rfl) rfl rfl) (den_scons (den_if (dent_not (dent_val (by exact (den_callP (k := 1) (ps := ["found", "due"]) tk (ok__law_says G.toGL F__law_says) rfl rfl (hr.mono (by decide)) rfl G.g__law_says F__law_says.kp (bg__law_says_2_ F__law_says) (den_cons (by exact (den_callP0 (k := 8) (ps := ["one", "other"]) tk (ok_is_part G.toGL F_is_part) rfl rfl (hr.mono (by decide)) rfl G.g_is_part F_is_part.kp (bg_is_part_0_other_one F_is_part) (denk_cons (den_var rfl (.inl rfl) rfl rfl) (denk_cons (den_var rfl (.inl rfl) rfl rfl) denk_nil)) rfl rfl rfl rfl (lenS (lenS len0)))) (den_cons (by exact (den_callP (k := 1) (ps := ["one", "other"]) tk (ok__law_is_part G.toGL F__law_is_part) rfl rfl (hr.mono (by decide)) rfl G.g__law_is_part F__law_is_part.kp (bg__law_is_part_2_ F__law_is_part) (den_cons (den_var rfl (.inl rfl) rfl rfl) (den_cons (den_var rfl (.inl rfl) rfl rfl) den_nil rfl) rfl) denk_nil rfl rfl rfl rfl rfl (lenS (lenS len0)) len0)) den_nil rfl) rfl) denk_nil rfl rfl rfl rfl rfl (lenS (lenS len0)) len0)) (fun _ => rfl))) (den_scons (den_ret (den_flat rfl pe_bl))
    den_snil) den_snil)
    den_snil) (fun _ => rfl))
    (den_scons (den_if (dent_not (dent_val (by exact (den_callX (k := 11) (ps := ["draw", "row", "other"]) tk (ok__law_refused G TT_ F__law_refused) rfl (hr.mono (by decide)) rfl G.g__law_refused F__law_refused.kp (bg__law_refused_3_ F__law_refused.toFun) (den_cons (den_var rfl (.inr (.inl rfl)) rfl rfl) (den_cons (den_var rfl (.inr (.inl rfl)) rfl rfl) (den_cons (den_var rfl (.inl rfl) rfl rfl) den_nil rfl) rfl) rfl) denk_nil rfl rfl rfl rfl rfl (lenS (lenS (lenS len0))) len0)) (fun _ => rfl))) (den_scons (den_ret (den_flat rfl pe_bl))
    den_snil) den_snil)
    den_snil))))))))))) (fun _ => rfl))
    (den_scons (den_ret (den_flat rfl pe_bl))
    den_snil)))
end
end K00

set_option maxRecDepth 100000
namespace K00
open PySem PySem.Spec PyProof.Rows L2 Iv
-- the end
theorem at_law {l : PySem.W.OpenLaw} {w : World} {K : PySem.W.Frag} {h : Heap} {mg : Str → Option Value} {fa : Addr} (X : K.In h) (G : h.Ns mainGlobals mg) (hfa : mg "law" = some (.ref fa))
    (cn : PySem.W.specialIn K (.builtin "object.__class__") "__get__" = some (some (.builtin "getset_descriptor.__get__"))) (tk : PySem.W.takesIn K (.builtin "object.__class__") = some true)
    {C0 C1 C2 C3 : Addr}
    (k0 : ClsF K "HandError" bmB newB C0 C0)
    (k1 : ClsF K "BadHand" bmB newB C0 C1)
    (k2 : ClsF K "BadHands" bmB newB C0 C2)
    (k3 : ClsF K "BadRow" bmB newB C0 C3)
    (pr_0_1 : PySem.W.subIn K (.ref C0) (.ref C1) = some false)
    (pr_0_2 : PySem.W.subIn K (.ref C0) (.ref C2) = some false)
    (pr_0_3 : PySem.W.subIn K (.ref C0) (.ref C3) = some false)
    (pr_1_2 : PySem.W.subIn K (.ref C1) (.ref C2) = some false)
    (pr_1_3 : PySem.W.subIn K (.ref C1) (.ref C3) = some false)
    (pr_2_1 : PySem.W.subIn K (.ref C2) (.ref C1) = some false)
    (pr_2_3 : PySem.W.subIn K (.ref C2) (.ref C3) = some false)
    (pr_3_1 : PySem.W.subIn K (.ref C3) (.ref C1) = some false)
    (pr_3_2 : PySem.W.subIn K (.ref C3) (.ref C2) = some false)
    {f0 f1 f2 f3 f4 f5 f6 f7 f8 f9 f10 f11 f12 f13 f14 f15 f16 f17 f18 f19 f20 f21 f22 f23 f24 f25 f26 f27 f28 f29 f30 f31 f32 f33 f34 f35 f36 f37 f38 f39 f40 f41 : Addr}
    (d0 : DF K "is_number" (topS 8) f0)
    (d1 : DF K "is_from" (topS 9) f1)
    (d2 : DF K "is_value" (topS 10) f2)
    (d3 : DF K "is_hand" (topS 11) f3)
    (d4 : DF K "is_rising" (topS 12) f4)
    (d5 : DF K "are_hands" (topS 13) f5)
    (d6 : DF K "are_hands_of" (topS 14) f6)
    (d7 : DF K "is_pair" (topS 15) f7)
    (d8 : DF K "are_pairs" (topS 16) f8)
    (d9 : DF K "is_rowlike" (topS 17) f9)
    (d10 : DF K "ask_row" (topS 19) f10)
    (d11 : DF K "is_row" (topS 21) f11)
    (d12 : DF K "hands_of" (topS 22) f12)
    (d13 : DF K "value_of" (topS 23) f13)
    (d14 : DF K "part" (topS 24) f14)
    (d15 : DF K "parts" (topS 25) f15)
    (d16 : DF K "is_part" (topS 26) f16)
    (d17 : DF K "hands_in" (topS 27) f17)
    (d18 : DF K "told_of" (topS 28) f18)
    (d19 : DF K "part_with" (topS 29) f19)
    (d20 : DF K "is_within" (topS 30) f20)
    (d21 : DF K "by_length" (topS 31) f21)
    (d22 : DF K "_law_begun" (topS 33) f22)
    (d23 : DF K "_law_blend" (topS 34) f23)
    (d24 : DF K "_law_take" (topS 35) f24)
    (d25 : DF K "_law_pick" (topS 36) f25)
    (d26 : DF K "_law_shuffled" (topS 37) f26)
    (d27 : DF K "_law_caught" (topS 38) f27)
    (d28 : DF K "_law_says" (topS 39) f28)
    (d29 : DF K "_law_is_number" (topS 40) f29)
    (d30 : DF K "_law_is_row" (topS 41) f30)
    (d31 : DF K "_law_hands" (topS 42) f31)
    (d32 : DF K "_law_parts" (topS 43) f32)
    (d33 : DF K "_law_long" (topS 44) f33)
    (d34 : DF K "_law_is_part" (topS 45) f34)
    (d35 : DF K "_law_values" (topS 46) f35)
    (d36 : DF K "_law_row" (topS 47) f36)
    (d37 : DF K "_law_some_hands" (topS 48) f37)
    (d38 : DF K "_law_odd_row" (topS 49) f38)
    (d39 : DF K "_law_odd_hands" (topS 50) f39)
    {c40 p40 : Addr} (d40 : DFC K "_law_refused" (topS 51) f40 c40 p40) (t40 : h.get? p40 = some { cls := .none, data := .fields #[] })
    (d41 : DF K "law" (topS 52) f41)
    (z_abs : PySem.W.nsIn K mainGlobals "abs" = some none)
    (z_all : PySem.W.nsIn K mainGlobals "all" = some none)
    (z_bool : PySem.W.nsIn K mainGlobals "bool" = some none)
    (z_int : PySem.W.nsIn K mainGlobals "int" = some none)
    (z_isinstance : PySem.W.nsIn K mainGlobals "isinstance" = some none)
    (z_len : PySem.W.nsIn K mainGlobals "len" = some none)
    (z_list : PySem.W.nsIn K mainGlobals "list" = some none)
    (z_min : PySem.W.nsIn K mainGlobals "min" = some none)
    (z_range : PySem.W.nsIn K mainGlobals "range" = some none)
    (z_sorted : PySem.W.nsIn K mainGlobals "sorted" = some none)
    (z_tuple : PySem.W.nsIn K mainGlobals "tuple" = some none)
    (z_zip : PySem.W.nsIn K mainGlobals "zip" = some none)
    (n_GREATEST : ∃ t, PySem.W.nsIn K mainGlobals "GREATEST" = some (some (.int 999999999 t)))
    (n_HANDS_MOST : ∃ t, PySem.W.nsIn K mainGlobals "HANDS_MOST" = some (some (.int 4 t)))
    (hlaw : ∀ ns : List Int, ns.length ≤ 63 → ∀ d, d = .scr (ns.map .int) ∨ d = .lst (ns.map .int) → ∃ h', f_law [d] [] = .ok (.bl true) h') :
    LamX.LawAtS l w K (L2.CX l.prog w) 12 63 "script" mg fa h := by
  have e := hfa.symm.trans (d41.gm X G)
  cases e
  have F : ∀ i, i < ([C0, C1, C2, C3] : List Addr).length → ∃ x, ClsF K x bmB newB C0 (([C0, C1, C2, C3] : List Addr).getD i C0) := fun i hi => match i, hi with
    | 0, _ => ⟨_, k0⟩
    | 1, _ => ⟨_, k1⟩
    | 2, _ => ⟨_, k2⟩
    | 3, _ => ⟨_, k3⟩
  have pr : ∀ i j, i < ([C0, C1, C2, C3] : List Addr).length → j < ([C0, C1, C2, C3] : List Addr).length → i ≠ j → j ≠ 0 → PySem.W.subIn K (.ref (([C0, C1, C2, C3] : List Addr).getD i C0)) (.ref (([C0, C1, C2, C3] : List Addr).getD j C0)) = some false := fun i j hi hj e1 e2 => match i, j, hi, hj, e1, e2 with
    | 0, 0, _, _, _, e2 => absurd rfl e2
    | 0, 1, _, _, e1, _ => pr_0_1
    | 0, 2, _, _, e1, _ => pr_0_2
    | 0, 3, _, _, e1, _ => pr_0_3
    | 1, 0, _, _, _, e2 => absurd rfl e2
    | 1, 1, _, _, e1, _ => absurd rfl e1
    | 1, 2, _, _, e1, _ => pr_1_2
    | 1, 3, _, _, e1, _ => pr_1_3
    | 2, 0, _, _, _, e2 => absurd rfl e2
    | 2, 1, _, _, e1, _ => pr_2_1
    | 2, 2, _, _, e1, _ => absurd rfl e1
    | 2, 3, _, _, e1, _ => pr_2_3
    | 3, 0, _, _, _, e2 => absurd rfl e2
    | 3, 1, _, _, e1, _ => pr_3_1
    | 3, 2, _, _, e1, _ => pr_3_2
    | 3, 3, _, _, e1, _ => absurd rfl e1
  have GK : GG K mg (mkTb C0 [C0, C1, C2, C3] [f0, f1, f2, f3, f4, f5, f6, f7, f8, f9, f10, f11, f12, f13, f14, f15, f16, f17, f18, f19, f20, f21, f22, f23, f24, f25, f26, f27, f28, f29, f30, f31, f32, f33, f34, f35, f36, f37, f38, f39, f40, fa] [(p40, "_law_refused.<locals>.<lambda>")]) (fun i => ([0, 0, 0, 0, 0, 0, 0, 0, 0, 0, 0, 0, 0, 0, 0, 0, 0, 0, 0, 0, 0, 0, 0, 0, 0, 0, 0, 0, 0, 0, 0, 0, 0, 0, 0, 0, 0, 0, 0, 0, c40] : List Addr).getD i 0) (fun i => ([0, 0, 0, 0, 0, 0, 0, 0, 0, 0, 0, 0, 0, 0, 0, 0, 0, 0, 0, 0, 0, 0, 0, 0, 0, 0, 0, 0, 0, 0, 0, 0, 0, 0, 0, 0, 0, 0, 0, 0, p40] : List Addr).getD i 0) := {
    kw := kw_of (T := (mkTb C0 [C0, C1, C2, C3] [f0, f1, f2, f3, f4, f5, f6, f7, f8, f9, f10, f11, f12, f13, f14, f15, f16, f17, f18, f19, f20, f21, f22, f23, f24, f25, f26, f27, f28, f29, f30, f31, f32, f33, f34, f35, f36, f37, f38, f39, f40, fa] [(p40, "_law_refused.<locals>.<lambda>")]).no) (cs := [C0, C1, C2, C3]) rfl (Nat.succ_pos _) rfl F pr cn tk
    exm := exm_all (cs := [C0, C1, C2, C3]) rfl (Nat.succ_pos _) F
    b_abs := PySem.W.mg_none_of X G z_abs
    b_all := PySem.W.mg_none_of X G z_all
    b_bool := PySem.W.mg_none_of X G z_bool
    b_int := PySem.W.mg_none_of X G z_int
    b_isinstance := PySem.W.mg_none_of X G z_isinstance
    b_len := PySem.W.mg_none_of X G z_len
    b_list := PySem.W.mg_none_of X G z_list
    b_min := PySem.W.mg_none_of X G z_min
    b_range := PySem.W.mg_none_of X G z_range
    b_sorted := PySem.W.mg_none_of X G z_sorted
    b_tuple := PySem.W.mg_none_of X G z_tuple
    b_zip := PySem.W.mg_none_of X G z_zip
    c_HandError := PySem.W.mg_of X G k0.a
    x_HandError := k0.ex
    k_HandError := k0.kp
    r_HandError := fun Y e => k0.raises Y e
    c_BadHand := PySem.W.mg_of X G k1.a
    x_BadHand := k1.ex
    k_BadHand := k1.kp
    r_BadHand := fun Y e => k1.raises Y e
    c_BadHands := PySem.W.mg_of X G k2.a
    x_BadHands := k2.ex
    k_BadHands := k2.kp
    r_BadHands := fun Y e => k2.raises Y e
    c_BadRow := PySem.W.mg_of X G k3.a
    x_BadRow := k3.ex
    k_BadRow := k3.kp
    r_BadRow := fun Y e => k3.raises Y e
    n_GREATEST := let ⟨t, e⟩ := n_GREATEST; ⟨t, PySem.W.mg_of X G e⟩
    n_HANDS_MOST := let ⟨t, e⟩ := n_HANDS_MOST; ⟨t, PySem.W.mg_of X G e⟩
    g_is_number := d0.gm X G
    d_is_number := d0.fn
    g_is_from := d1.gm X G
    d_is_from := d1.fn
    g_is_value := d2.gm X G
    d_is_value := d2.fn
    g_is_hand := d3.gm X G
    d_is_hand := d3.fn
    g_is_rising := d4.gm X G
    d_is_rising := d4.fn
    g_are_hands := d5.gm X G
    d_are_hands := d5.fn
    g_are_hands_of := d6.gm X G
    d_are_hands_of := d6.fn
    g_is_pair := d7.gm X G
    d_is_pair := d7.fn
    g_are_pairs := d8.gm X G
    d_are_pairs := d8.fn
    g_is_rowlike := d9.gm X G
    d_is_rowlike := d9.fn
    g_ask_row := d10.gm X G
    d_ask_row := d10.fn
    g_is_row := d11.gm X G
    d_is_row := d11.fn
    g_hands_of := d12.gm X G
    d_hands_of := d12.fn
    g_value_of := d13.gm X G
    d_value_of := d13.fn
    g_part := d14.gm X G
    d_part := d14.fn
    g_parts := d15.gm X G
    d_parts := d15.fn
    g_is_part := d16.gm X G
    d_is_part := d16.fn
    g_hands_in := d17.gm X G
    d_hands_in := d17.fn
    g_told_of := d18.gm X G
    d_told_of := d18.fn
    g_part_with := d19.gm X G
    d_part_with := d19.fn
    g_is_within := d20.gm X G
    d_is_within := d20.fn
    g_by_length := d21.gm X G
    d_by_length := d21.fn
    g__law_begun := d22.gm X G
    d__law_begun := d22.fn
    g__law_blend := d23.gm X G
    d__law_blend := d23.fn
    g__law_take := d24.gm X G
    d__law_take := d24.fn
    g__law_pick := d25.gm X G
    d__law_pick := d25.fn
    g__law_shuffled := d26.gm X G
    d__law_shuffled := d26.fn
    g__law_caught := d27.gm X G
    d__law_caught := d27.fn
    g__law_says := d28.gm X G
    d__law_says := d28.fn
    g__law_is_number := d29.gm X G
    d__law_is_number := d29.fn
    g__law_is_row := d30.gm X G
    d__law_is_row := d30.fn
    g__law_hands := d31.gm X G
    d__law_hands := d31.fn
    g__law_parts := d32.gm X G
    d__law_parts := d32.fn
    g__law_long := d33.gm X G
    d__law_long := d33.fn
    g__law_is_part := d34.gm X G
    d__law_is_part := d34.fn
    g__law_values := d35.gm X G
    d__law_values := d35.fn
    g__law_row := d36.gm X G
    d__law_row := d36.fn
    g__law_some_hands := d37.gm X G
    d__law_some_hands := d37.fn
    g__law_odd_row := d38.gm X G
    d__law_odd_row := d38.fn
    g__law_odd_hands := d39.gm X G
    d__law_odd_hands := d39.fn
    g__law_refused := d40.gm X G
    d__law_refused := d40.fn
    t__law_refused := by simp
    u__law_refused := by simp
    g_law := d41.gm X G
    d_law := d41.fn
  }
  obtain ⟨oc, od, kV, doc, pm, an, cdv, ct, osl, _, lk, ck, kp⟩ := d41
  refine ⟨_, [(c40, p40)], _, ?_, ?_, ?_, fun s u => .of_eq rfl, fun H a ns hl _ hH hS => law_start (T := mkTb C0 [C0, C1, C2, C3] [f0, f1, f2, f3, f4, f5, f6, f7, f8, f9, f10, f11, f12, f13, f14, f15, f16, f17, f18, f19, f20, f21, f22, f23, f24, f25, f26, f27, f28, f29, f30, f31, f32, f33, f34, f35, f36, f37, f38, f39, f40, fa] [(p40, "_law_refused.<locals>.<lambda>")]) (φ := f_law) ?_ hS (hlaw ns hl), fun base _ _ hB => ok_law GK ⟨rfl, hB (c40, p40) (by simp)⟩ (fun_mk (st := s_law) lk ck kp)⟩
  · intro p hp
    simp only [List.mem_cons, List.not_mem_nil, or_false] at hp
    rcases hp with rfl
    · exact t40
  · intro p hp
    simp only [List.mem_cons, List.not_mem_nil, or_false] at hp
    rcases hp with rfl
    · exact d40.no
  · intro p hp
    simp only [List.mem_cons, List.not_mem_nil, or_false] at hp
    rcases hp with rfl
    · exact d40.hd X
  · intro p hp
    simp only [List.mem_cons, List.not_mem_nil, or_false] at hp
    rcases hp with rfl
    · exact LamX.TabS.nil (hH (c40, p40) (by simp))
-- the row
end K00

set_option maxRecDepth 100000
namespace K00
open PySem L2 Iv PySem.Spec PyProof.Rows
theorem take_eq : f__law_take = takeF := by rfl
theorem pick_eq : f__law_pick = pickF := by rfl
theorem shuf_eq : f__law_shuffled = shufF := by rfl
theorem begun_eq : f__law_begun = begunF := by rfl
def isH : D → Bool
  | .int i => decide (0 ≤ i) && decide (i ≤ 3)
  | _ => false
theorem isn_int (i : Int) : f_is_number [.int i] [] = .ok (.bl true) [] := by kernel_rfl
theorem lisn_int (i : Int) : f__law_is_number [.int i] [] = .ok (.bl true) [] := by kernel_rfl
theorem isn_other {x : D} {b : Nat} (hx : pl b x = true) (hn : ∀ i, x ≠ .int i) : f_is_number [x] [] = .ok (.bl false) [] ∧ f__law_is_number [x] [] = .ok (.bl false) [] := by
  cases x with
  | int i => exact absurd rfl (hn i)
  | non => exact ⟨by kernel_rfl, by kernel_rfl⟩
  | bl c => exact ⟨by kernel_rfl, by kernel_rfl⟩
  | str c => exact ⟨by kernel_rfl, by kernel_rfl⟩
  | tup c => exact ⟨by kernel_rfl, by kernel_rfl⟩
  | lst c => exact ⟨by kernel_rfl, by kernel_rfl⟩
  | dct k c => exact ⟨by kernel_rfl, by kernel_rfl⟩
  | dcu k c => exact ⟨by kernel_rfl, by kernel_rfl⟩
  | scr c => unfold pl at hx; cases hx
  | ref c => unfold pl at hx; cases hx
  | ty c => unfold pl at hx; cases hx
  | own c => unfold pl at hx; cases hx
  | exc c => unfold pl at hx; cases hx
  | fn c => unfold pl at hx; cases hx
  | clo c => unfold pl at hx; cases hx
theorem isH_int {x : D} (h : isH x = true) : ∃ i, x = .int i := by
  cases x with
  | int i => exact ⟨i, rfl⟩
  | _ => cases h
theorem ish_ok {x : D} {b : Nat} (hx : pl b x = true) : f_is_hand [x] [] = .ok (.bl (isH x)) [] := by
  have lt := pl_lt x hx
  have lt3 : ltDs 0 [x, .int 0, .int 3] = true := by unfold ltDs; rw [lt]; rfl
  have e : f_is_from [x, .int 0, .int 3] [] = .ok (.bl (isH x)) [] := by
    refine defR_ret (k := 0) ?_
    by_cases hi : ∃ i, x = .int i
    · obtain ⟨i, rfl⟩ := hi
      rw [mAnd_t (h1 := []) (callP_ok (ds := [.int i]) (es := []) (h1 := []) (j := []) rfl rfl rfl rfl (isn_int i) rfl)]
      exact chain_le (x := 0) (y := i) (z := 3) rfl rfl rfl
    · rw [mAnd_f (h1 := []) (callP_ok (ds := [x]) (es := []) (h1 := []) (j := []) rfl rfl (by show ltDs 0 [x] = true; unfold ltDs; rw [lt]; rfl) rfl (isn_other hx fun i e => hi ⟨i, e⟩).1 rfl)]
      have : isH x = false := by
        cases x with
        | int i => exact absurd ⟨i, rfl⟩ hi
        | _ => rfl
      rw [this]
  refine defR_ret (k := 0) ?_
  exact callP_ok (ds := [x, .int 0, .int 3]) (es := []) (h1 := []) (j := []) rfl rfl lt3 rfl e rfl
theorem all_ints {xs : List D} (h : xs.all isH = true) : ∃ ns : List Int, xs = ns.map .int := by
  induction xs with
  | nil => exact ⟨[], rfl⟩
  | cons x xs ih =>
    rw [List.all_cons, Bool.and_eq_true] at h
    obtain ⟨i, rfl⟩ := isH_int h.1
    obtain ⟨ns, rfl⟩ := ih h.2
    exact ⟨i :: ns, rfl⟩
def rise : List Int → Bool
  | a :: b :: r => decide (a < b) && rise (b :: r)
  | _ => true
theorem rise_range : ∀ ns : List Int, rise ns = (List.range (ns.length - 1)).all fun j => decide (ns.getD j 0 < ns.getD (j + 1) 0)
  | [] => rfl
  | [_] => rfl
  | a :: b :: r => by
    unfold rise
    rw [rise_range (b :: r)]
    show _ = (List.range (r.length + 1)).all _
    rw [List.range_succ_eq_map, List.all_cons, List.all_map]
    rfl
theorem bools_some : ∀ bs : List Bool, boolsD (bs.map .bl) = some bs
  | [] => rfl
  | b :: bs => by
    show (boolsD (bs.map .bl)).map (b :: ·) = _
    rw [bools_some bs]; rfl
theorem rise_ok {ns : List Int} (hl : ns.length ≤ 100) : f_is_rising [.tup (ns.map .int)] [] = .ok (.bl (rise ns)) [] := by
  refine defR_ret (k := 1) ?_
  have hg : ∀ j : Nat, j < ns.length → atI (ns.map D.int) (j : Int) = some (.int (ns.getD j 0)) := by
    intro j hj
    unfold atI ixN
    rw [if_pos (by omega), if_pos (by rw [List.length_map]; omega)]
    show (ns.map D.int)[(j : Int).toNat]? = _
    rw [Int.toNat_natCast, List.getElem?_map, List.getElem?_eq_getElem hj, List.getD_eq_getElem?_getD, List.getElem?_eq_getElem hj]; rfl
  have hsrc : (mRng1 (mCons (mOp false .Sub (mBi false .len (mCons (mVar 0) mNil)) (mCon (.int 1))) mNil)) [some (.tup (ns.map .int)), none] [] = .ok (.fix (rngD 0 ((ns.length : Int) - 1))) [] := by
    show (if rngOk (((ns.map D.int).length : Int) - 1) = true then R.ok (Src.fix (rngD 0 (((ns.map D.int).length : Int) - 1))) [] else .bad) = _
    rw [List.length_map, if_pos (by unfold rngOk; simp only [Bool.and_eq_true, decide_eq_true_eq]; omega)]
  have hr : rngD 0 ((ns.length : Int) - 1) = (List.range (ns.length - 1)).map fun j : Nat => D.int j := by
    unfold rngD
    rw [show ((ns.length : Int) - 1 - 0).toNat = ns.length - 1 by omega]
    apply List.map_congr_left
    intro j _
    rw [Int.zero_add]
  have hst : ∀ x ∈ rngD 0 ((ns.length : Int) - 1), ∀ acc, step (gNm 1) mYesT (mCmp .Lt (mIx (mVar 0) (mVar 1)) (mIx (mVar 0) (mOp false .Add (mVar 1) (mCon (.int 1))))) (wipeE [some (.tup (ns.map .int)), none] [1]) x ([] ++ [.lst acc]) =
      .ok ((fun x => match x with | .int i => some (D.bl (decide (ns.getD i.toNat 0 < ns.getD (i.toNat + 1) 0))) | _ => none) x) ([] ++ [.lst acc]) := by
    intro x hx acc
    rw [hr] at hx
    obtain ⟨j, hj, rfl⟩ := List.mem_map.mp hx
    have hj' := List.mem_range.mp hj
    refine step_t (e := [some (.tup (ns.map .int)), some (.int j)]) rfl rfl ?_ rfl
    have a1 : mIx (mVar 0) (mVar 1) [some (.tup (ns.map .int)), some (.int j)] ([] ++ [.lst acc]) = .ok (.int (ns.getD j 0)) ([] ++ [.lst acc]) := by
      show (match atI (ns.map D.int) (j : Int) with | some d => R.ok d _ | none => .bad) = _
      rw [hg j (by omega)]
    have a2 : mIx (mVar 0) (mOp false .Add (mVar 1) (mCon (.int 1))) [some (.tup (ns.map .int)), some (.int j)] ([] ++ [.lst acc]) = .ok (.int (ns.getD (j + 1) 0)) ([] ++ [.lst acc]) := by
      show (match atI (ns.map D.int) ((j : Int) + 1) with | some d => R.ok d _ | none => .bad) = _
      rw [show (j : Int) + 1 = ((j + 1 : Nat) : Int) from rfl, hg (j + 1) (by omega)]
    exact mCmp_ok a1 a2 rfl
  refine mBi_ok (ds := [.lst ((rngD 0 ((ns.length : Int) - 1)).filterMap _)]) (h1 := []) (mCons_ok ((comp_ok _ hsrc hst (by rw [hr, List.length_map, List.length_range]; unfold most; omega)).trans (gc_lst rfl ?_)) rfl) ?_
  · rw [hr, List.filterMap_map]
    exact ltDs_of _ fun d hd => by
      obtain ⟨j, _, e⟩ := List.mem_filterMap.mp hd
      cases e; rfl
  · have el : (rngD 0 ((ns.length : Int) - 1)).filterMap (fun x => match x with | .int i => some (D.bl (decide (ns.getD i.toNat 0 < ns.getD (i.toNat + 1) 0))) | _ => none) = ((List.range (ns.length - 1)).map fun j => decide (ns.getD j 0 < ns.getD (j + 1) 0)).map D.bl := by
      rw [hr, List.filterMap_map, List.map_map]
      exact List.filterMap_eq_map ▸ rfl
    rw [el]
    show (match boolsD (((List.range (ns.length - 1)).map fun j => decide (ns.getD j 0 < ns.getD (j + 1) 0)).map D.bl) with | some bs => R.ok (D.bl (bs.all id)) [] | none => .bad) = _
    rw [bools_some, rise_range]
    dsimp only
    rw [List.all_map]
    rfl
def toI : D → Int
  | .int i => i
  | _ => 0
theorem toI_map (ns : List Int) : (ns.map D.int).map toI = ns := by
  rw [List.map_map]
  have : (toI ∘ D.int) = id := rfl
  rw [this, List.map_id]
def okB : D → Bool
  | .tup xs => (decide ((1 : Int) ≤ xs.length) && decide ((xs.length : Int) ≤ 4)) && (xs.all isH && rise (xs.map toI))
  | _ => false
theorem filterMap_some {α β : Type} (f : α → β) (xs : List α) : xs.filterMap (fun x => some (f x)) = xs.map f := by
  induction xs with
  | nil => rfl
  | cons x xs ih => rw [List.filterMap_cons_some (f := fun x => some (f x)) rfl, ih]; rfl
theorem tup_of {b : Nat} {xs : List D} (h : pl b (.tup xs) = true) : xs.length ≤ b ∧ pls b xs = true := by
  unfold pl at h
  rw [Bool.and_eq_true, decide_eq_true_eq] at h
  exact h
theorem all_bools {α : Type} (f : α → Bool) (xs : List α) {h : Hs} {k : Bool} : biF k .all [.lst (xs.map fun x => D.bl (f x))] h = .ok (.bl (xs.all f)) h := by
  show (match boolsD (xs.map fun x => D.bl (f x)) with | some bs => R.ok (D.bl (bs.all id)) h | none => .bad) = _
  have e : xs.map (fun x => D.bl (f x)) = (xs.map f).map D.bl := by rw [List.map_map]; rfl
  rw [e, bools_some]
  dsimp only
  rw [List.all_map]
  rfl
theorem areh_ok {x : D} {b : Nat} (hx : pl b x = true) (hb : b ≤ 100) : f_are_hands [x] [] = .ok (.bl (okB x)) [] := by
  cases x with
  | int i => kernel_rfl
  | non => kernel_rfl
  | bl c => kernel_rfl
  | str c => kernel_rfl
  | lst c => kernel_rfl
  | dct k c => kernel_rfl
  | dcu k c => kernel_rfl
  | scr c => unfold pl at hx; cases hx
  | ref c => unfold pl at hx; cases hx
  | ty c => unfold pl at hx; cases hx
  | own c => unfold pl at hx; cases hx
  | exc c => unfold pl at hx; cases hx
  | fn c => unfold pl at hx; cases hx
  | clo c => unfold pl at hx; cases hx
  | tup xs =>
    obtain ⟨hl, hp⟩ := tup_of hx
    have lt := pls_lt xs hp
    have hp' := pls_iff.mp hp
    refine defR_rt (k := 1) ?_
    show m_are_hands [some (.tup xs), none] [] = _
    unfold m_are_hands
    have c1 : (mNot (mIsi subC (mCons (mVar 0) (mCons (mCon (.ty "tuple")) mNil)))) [some (.tup xs), none] [] = .ok (.bl false) [] := by kernel_rfl
    have c2 : (mNot (mChain .LtE .LtE (mCon (.int 1)) (mBi false .len (mCons (mVar 0) mNil)) (mCon (.int 4)))) [some (.tup xs), none] [] = .ok (.bl (!(decide ((1 : Int) ≤ xs.length) && decide ((xs.length : Int) ≤ 4)))) [] := mNotb (chain_le rfl rfl rfl)
    cases hq : (decide ((1 : Int) ≤ xs.length) && decide ((xs.length : Int) ≤ 4)) with
    | false =>
      rw [hq] at c2
      have e : okB (.tup xs) = false := by
        show ((decide ((1 : Int) ≤ xs.length) && decide ((xs.length : Int) ≤ 4)) && (xs.all isH && rise (xs.map toI))) = false
        rw [hq]; rfl
      rw [e]
      exact sCons_rt (sIf_rt ((mOr_f c1).trans c2) rfl)
    | true =>
      rw [hq] at c2
      have e : okB (.tup xs) = (xs.all isH && rise (xs.map toI)) := by
        show ((decide ((1 : Int) ≤ xs.length) && decide ((xs.length : Int) ≤ 4)) && (xs.all isH && rise (xs.map toI))) = _
        rw [hq]; rfl
      rw [e, sCons_nx (sIf_nx ((mOr_f c1).trans c2))]
      refine sCons_rt (sRet_ok ?_)
      have hst : ∀ x ∈ xs, ∀ acc, step (gNm 1) mYesT (mCallP f_is_hand [0] (mCons (mVar 1) mNil) mNil) (wipeE [some (.tup xs), none] [1]) x ([] ++ [.lst acc]) = .ok (some (D.bl (isH x))) ([] ++ [.lst acc]) := by
        intro x hx acc
        have lx : ltDs 0 [x] = true := by unfold ltDs; rw [pl_lt x (hp' x hx)]; rfl
        exact step_t (e := [some (.tup xs), some x]) rfl rfl (callP_ok (ds := [x]) (es := []) (j := []) rfl rfl lx rfl (ish_ok (hp' x hx)) rfl) rfl
      have hc := (comp_ok (m := false) (mi := mSrc (mVar 0)) (mt := gNm 1) (mc := mYesT) (own := [1]) (env := [some (.tup xs), none]) (h := []) (h1 := []) (fun x => some (D.bl (isH x))) rfl hst (by unfold most; omega)).trans (gc_lst rfl (by rw [filterMap_some]; exact ltDs_of _ fun d hd => by obtain ⟨x, _, rfl⟩ := List.mem_map.mp hd; rfl))
      rw [filterMap_some] at hc
      have ha : (mBi false .all (mCons (mComp false (mSrc (mVar 0)) (gNm 1) mYesT (mCallP f_is_hand [0] (mCons (mVar 1) mNil) mNil) [1]) mNil)) [some (.tup xs), none] [] = .ok (.bl (xs.all isH)) [] := mBi_ok (mCons_ok hc rfl) (all_bools isH xs)
      cases hi : xs.all isH with
      | false =>
        rw [hi] at ha
        exact mAnd_f ha
      | true =>
        rw [hi] at ha
        obtain ⟨ns, rfl⟩ := all_ints hi
        rw [toI_map]
        rw [mAnd_t ha]
        rw [List.length_map] at hl
        exact callP_ok (ds := [.tup (ns.map .int)]) (es := []) (j := []) rfl rfl (by show ltDs 0 [.tup (ns.map .int)] = true; unfold ltDs; show (ltDs 0 (ns.map .int) && true) = true; rw [ltDs_ints]; rfl) rfl (rise_ok (by omega)) rfl

def isV : D → Bool
  | .int i => decide (0 ≤ i) && decide (i ≤ 999999999)
  | _ => false
theorem isv_ok {x : D} {b : Nat} (hx : pl b x = true) : f_is_value [x] [] = .ok (.bl (isV x)) [] := by
  have lt := pl_lt x hx
  have lt3 : ltDs 0 [x, .int 0, .int 999999999] = true := by unfold ltDs; rw [lt]; rfl
  have e : f_is_from [x, .int 0, .int 999999999] [] = .ok (.bl (isV x)) [] := by
    refine defR_ret (k := 0) ?_
    by_cases hi : ∃ i, x = .int i
    · obtain ⟨i, rfl⟩ := hi
      rw [mAnd_t (h1 := []) (callP_ok (ds := [.int i]) (es := []) (h1 := []) (j := []) rfl rfl rfl rfl (isn_int i) rfl)]
      exact chain_le (x := 0) (y := i) (z := 999999999) rfl rfl rfl
    · rw [mAnd_f (h1 := []) (callP_ok (ds := [x]) (es := []) (h1 := []) (j := []) rfl rfl (by show ltDs 0 [x] = true; unfold ltDs; rw [lt]; rfl) rfl (isn_other hx fun i e => hi ⟨i, e⟩).1 rfl)]
      have : isV x = false := by
        cases x with
        | int i => exact absurd ⟨i, rfl⟩ hi
        | _ => rfl
      rw [this]
  refine defR_ret (k := 0) ?_
  exact callP_ok (ds := [x, .int 0, .int 999999999]) (es := []) (h1 := []) (j := []) rfl rfl lt3 rfl e rfl
def isP : D → Bool
  | .tup xs => decide (xs.length = 2)
  | _ => false
theorem cmp_eqI {a b : Int} {h : Hs} : cmpD .Eq (.int a) (.int b) h = some (decide (a = b)) := by
  show orO (eqC (.int a) (.int b) h) (eqS (.int a) (.int b) h) = _
  have : eqC (.int a) (.int b) h = some (a == b) := rfl
  rw [this]
  show some (a == b) = _
  congr 1
theorem isp_ok {x : D} {b : Nat} (hx : pl b x = true) : f_is_pair [x] [] = .ok (.bl (isP x)) [] := by
  cases x with
  | int i => kernel_rfl
  | non => kernel_rfl
  | bl c => kernel_rfl
  | str c => kernel_rfl
  | lst c => kernel_rfl
  | dct k c => kernel_rfl
  | dcu k c => kernel_rfl
  | scr c => unfold pl at hx; cases hx
  | ref c => unfold pl at hx; cases hx
  | ty c => unfold pl at hx; cases hx
  | own c => unfold pl at hx; cases hx
  | exc c => unfold pl at hx; cases hx
  | fn c => unfold pl at hx; cases hx
  | clo c => unfold pl at hx; cases hx
  | tup xs =>
    refine defR_ret (k := 0) ?_
    refine (mAnd_t (by kernel_rfl)).trans ((mCmp_ok (x := .int xs.length) (y := .int 2) (h1 := []) rfl rfl cmp_eqI).trans ?_)
    show R.ok (D.bl (decide ((xs.length : Int) = 2))) [] = .ok (.bl (decide (xs.length = 2))) []
    congr 2
    exact decide_eq_decide.mpr ⟨fun h => by omega, fun h => by omega⟩
end K00

set_option maxRecDepth 100000
namespace K00
open PySem L2 Iv PySem.Spec PyProof.Rows
theorem all_comp {mi : MI} {mt : MTg} {mc me : M} {own : List Nat} {env : Iv.Env} {xs : List D} {p : D → Bool} (hs : mi env [] = .ok (.fix xs) []) (hst : ∀ x ∈ xs, ∀ acc, Iv.step mt mc me (wipeE env own) x ([] ++ [.lst acc]) = .ok (some (D.bl (p x))) ([] ++ [.lst acc])) (hl : xs.length < most) :
    (mBi false .all (mCons (mComp false mi mt mc me own) mNil)) env [] = .ok (.bl (xs.all p)) [] := by
  have hc := (comp_ok (m := false) (h := []) (h1 := []) (fun x => some (D.bl (p x))) hs hst hl).trans (gc_lst rfl (by rw [filterMap_some]; exact ltDs_of _ fun d hd => by obtain ⟨x, _, rfl⟩ := List.mem_map.mp hd; rfl))
  rw [filterMap_some] at hc
  exact mBi_ok (mCons_ok hc rfl) (all_bools p xs)
/-- [e(x) for x in xs], frozen -/
theorem map_comp {mi : MI} {mt : MTg} {mc me : M} {own : List Nat} {env : Iv.Env} {xs : List D} {f : D → D} (hs : mi env [] = .ok (.fix xs) []) (hst : ∀ x ∈ xs, ∀ acc, Iv.step mt mc me (wipeE env own) x ([] ++ [.lst acc]) = .ok (some (f x)) ([] ++ [.lst acc])) (hf : ∀ x ∈ xs, ltD 0 (f x) = true) (hl : xs.length < most) :
    (mComp false mi mt mc me own) env [] = .ok (.lst (xs.map f)) [] := by
  have hc := (comp_ok (m := false) (h := []) (h1 := []) (fun x => some (f x)) hs hst hl).trans (gc_lst rfl (by rw [filterMap_some]; exact ltDs_of _ fun d hd => by obtain ⟨x, hx, rfl⟩ := List.mem_map.mp hd; exact hf x hx))
  rw [filterMap_some] at hc
  exact hc
theorem lt1 {d : D} (h : ltD 0 d = true) : ltDs 0 [d] = true := by
  show (ltD 0 d && true) = true
  rw [h]; rfl
theorem lt2 {x y : D} (hx : ltD 0 x = true) (hy : ltD 0 y = true) : ltDs 0 [x, y] = true := by
  show (ltD 0 x && (ltD 0 y && true)) = true
  rw [hx, hy]; rfl
/-- a call with one, two values at hand -/
theorem call1 {φ : Fm} {ms : Ms} {env : Iv.Env} {h h1 j : Hs} {x d : D} (q1 : ms env h = .ok [x] h1) (hx : ltD 0 x = true) (hp : h1.all plainO = true) (q : φ [x] [] = .ok d j) (hd : ltD 0 d = true) : mCallP φ [0] ms mNil env h = .ok d h1 := callP_ok (ds := [x]) (es := []) (perm := [0]) q1 rfl (lt1 hx) hp q hd
theorem call2 {φ : Fm} {ms : Ms} {env : Iv.Env} {h h1 j : Hs} {x y d : D} (q1 : ms env h = .ok [x, y] h1) (hx : ltD 0 x = true) (hy : ltD 0 y = true) (hp : h1.all plainO = true) (q : φ [x, y] [] = .ok d j) (hd : ltD 0 d = true) : mCallP φ [0, 1] ms mNil env h = .ok d h1 := callP_ok (ds := [x, y]) (es := []) (perm := [0, 1]) q1 rfl (lt2 hx hy) hp q hd
theorem ex1 {φ : Fm} {ms : Ms} {env : Iv.Env} {h h1 j : Hs} {x : D} {c : Nat} (q1 : ms env h = .ok [x] h1) (hx : ltD 0 x = true) (hp : h1.all plainO = true) (q : φ [x] [] = .ex c j) : mCallP φ [0] ms mNil env h = .ex c h1 := by
  rw [callP_r (ds := [x]) (es := []) (perm := [0]) q1 rfl (lt1 hx) hp]
  exact pure_ex q
theorem defR_nx {m : MS} {k : Nat} {ds : List D} {h h' : Hs} {e' : Iv.Env} (e : m (ds.map some ++ List.replicate k none) h = .nx e' h') : defR m k ds h = .ok .non h' := by
  unfold defR
  rw [e]
theorem defR_ex {m : MS} {k c : Nat} {ds : List D} {h h' : Hs} {e' : Iv.Env} (e : m (ds.map some ++ List.replicate k none) h = .ex c e' h') : defR m k ds h = .ex c h' := by
  unfold defR
  rw [e]
theorem sCons_ex {s ss : MS} {e e' : Iv.Env} {h h' : Hs} {c : Nat} (q : s e h = .ex c e' h') : sCons s ss e h = .ex c e' h' := by
  unfold sCons
  rw [q]; rfl
theorem sIf_ex {a : M} {x y : MS} {env e' : Iv.Env} {h h1 j : Hs} {c : Nat} (q : a env h = .ok (.bl true) h1) (p : x env h1 = .ex c e' j) : sIf a x y env h = .ex c e' j := by
  unfold sIf
  rw [mTbl q]
  exact p
theorem sDrop_ex {m : M} {env : Iv.Env} {h h1 : Hs} {c : Nat} (q : m env h = .ex c h1) : sDrop m env h = .ex c env h1 := by
  unfold sDrop
  rw [q]; rfl
def fstD : D → D
  | .tup (a :: _) => a
  | _ => .non
def sndD : D → D
  | .tup (_ :: b :: _) => b
  | _ => .non
theorem isP_at {x : D} (h : isP x = true) : ∃ a b, x = .tup [a, b] := by
  cases x with
  | tup xs =>
    have h : xs.length = 2 := of_decide_eq_true h
    match xs, h with
    | [a, b], _ => exact ⟨a, b, rfl⟩
  | _ => cases h
theorem pl_pair {c : Nat} {a b : D} (h : pl c (.tup [a, b]) = true) : pl c a = true ∧ pl c b = true := by
  obtain ⟨_, h⟩ := tup_of h
  exact ⟨pls_iff.mp h a (by simp), pls_iff.mp h b (by simp)⟩
def lenOk (xs : List D) : Bool := decide ((1 : Int) ≤ xs.length) && decide ((xs.length : Int) ≤ 4)
def okP : D → Bool
  | .tup ps => lenOk ps && (ps.all isP && okB (.tup (ps.map fstD)))
  | _ => false
theorem arep_ok {x : D} {b : Nat} (hx : pl b x = true) (hb : b ≤ 100) : f_are_pairs [x] [] = .ok (.bl (okP x)) [] := by
  cases x with
  | int i => kernel_rfl
  | non => kernel_rfl
  | bl c => kernel_rfl
  | str c => kernel_rfl
  | lst c => kernel_rfl
  | dct k c => kernel_rfl
  | dcu k c => kernel_rfl
  | scr c => unfold pl at hx; cases hx
  | ref c => unfold pl at hx; cases hx
  | ty c => unfold pl at hx; cases hx
  | own c => unfold pl at hx; cases hx
  | exc c => unfold pl at hx; cases hx
  | fn c => unfold pl at hx; cases hx
  | clo c => unfold pl at hx; cases hx
  | tup xs =>
    obtain ⟨hl, hp⟩ := tup_of hx
    have hp' := pls_iff.mp hp
    refine defR_rt (k := 1) ?_
    show m_are_pairs [some (.tup xs), none] [] = _
    unfold m_are_pairs
    have c1 : (mNot (mIsi subC (mCons (mVar 0) (mCons (mCon (.ty "tuple")) mNil)))) [some (.tup xs), none] [] = .ok (.bl false) [] := by kernel_rfl
    have c2 : (mNot (mChain .LtE .LtE (mCon (.int 1)) (mBi false .len (mCons (mVar 0) mNil)) (mCon (.int 4)))) [some (.tup xs), none] [] = .ok (.bl (!(lenOk xs))) [] := mNotb (chain_le rfl rfl rfl)
    have e : okP (.tup xs) = (lenOk xs && (xs.all isP && okB (.tup (xs.map fstD)))) := rfl
    rw [e]
    cases hq : lenOk xs with
    | false =>
      rw [hq] at c2
      exact sCons_rt (sIf_rt ((mOr_f c1).trans c2) rfl)
    | true =>
      rw [hq] at c2
      rw [sCons_nx (sIf_nx ((mOr_f c1).trans c2)), Bool.true_and]
      have ha : (mBi false .all (mCons (mComp false (mSrc (mVar 0)) (gNm 1) mYesT (mCallP f_is_pair [0] (mCons (mVar 1) mNil) mNil) [1]) mNil)) [some (.tup xs), none] [] = .ok (.bl (xs.all isP)) [] := by
        refine all_comp rfl (fun x hx acc => ?_) (by unfold most; omega)
        have lx : ltDs 0 [x] = true := by unfold ltDs; rw [pl_lt x (hp' x hx)]; rfl
        exact step_t (e := [some (.tup xs), some x]) rfl rfl (callP_ok (ds := [x]) (es := []) (j := []) rfl rfl lx rfl (isp_ok (hp' x hx)) rfl) rfl
      cases hi : xs.all isP with
      | false =>
        rw [hi] at ha
        exact sCons_rt (sIf_rt (mNotb ha) rfl)
      | true =>
        rw [hi] at ha
        rw [sCons_nx (sIf_nx (mNotb ha)), Bool.true_and]
        have pr : ∀ x ∈ xs, ∃ a c, x = .tup [a, c] := fun x hx => isP_at (List.all_eq_true.mp hi x hx)
        have pf : ∀ x ∈ xs, pl b (fstD x) = true := fun x hx => by
          obtain ⟨a, c, rfl⟩ := pr x hx
          exact (pl_pair (hp' _ hx)).1
        have hm : (mComp false (mSrc (mVar 0)) (gNm 1) mYesT (mIx (mVar 1) (mCon (.int 0))) [1]) [some (.tup xs), none] [] = .ok (.lst (xs.map fstD)) [] := by
          refine map_comp rfl (fun x hx acc => ?_) (fun x hx => pl_lt _ (pf x hx)) (by unfold most; omega)
          have lf := pl_lt _ (pf x hx)
          obtain ⟨a, c, rfl⟩ := pr x hx
          exact step_t (e := [some (.tup xs), some (.tup [a, c])]) rfl rfl rfl (ltD_mono (Nat.zero_le _) _ lf)
        have ht : (mBi false .tuple (mCons (mComp false (mSrc (mVar 0)) (gNm 1) mYesT (mIx (mVar 1) (mCon (.int 0))) [1]) mNil)) [some (.tup xs), none] [] = .ok (.tup (xs.map fstD)) [] := by
          refine mBi_ok (mCons_ok hm rfl) ?_
          show mkT (xs.map fstD) [] = _
          unfold mkT
          rw [if_pos (by rw [List.length_map]; unfold most; omega)]
        have pt : pl b (.tup (xs.map fstD)) = true := by
          unfold pl
          rw [Bool.and_eq_true, decide_eq_true_eq, List.length_map]
          exact ⟨hl, pls_iff.mpr fun y hy => by obtain ⟨x, hx, rfl⟩ := List.mem_map.mp hy; exact pf x hx⟩
        exact sCons_rt (sRet_ok (call1 (mCons_ok ht rfl) (pl_lt _ pt) rfl (areh_ok pt hb) rfl))
def okRow : D → Bool
  | .tup ps => okP (.tup ps) && ps.all fun p => isV (sndD p)
  | _ => false
theorem rowl_ok {x : D} {b : Nat} (hx : pl b x = true) (hb : b ≤ 100) : f_is_rowlike [x] [] = .ok (.bl (okRow x)) [] := by
  have l1 : ltDs 0 [x] = true := by unfold ltDs; rw [pl_lt x hx]; rfl
  refine defR_ret (k := 1) ?_
  have ha : mCallP f_are_pairs [0] (mCons (mVar 0) mNil) mNil [some x, none] [] = .ok (.bl (okP x)) [] := call1 rfl (pl_lt x hx) rfl (arep_ok hx hb) rfl
  cases hi : okP x with
  | false =>
    rw [hi] at ha
    have : okRow x = false := by
      cases x with
      | tup xs => show (okP (.tup xs) && _) = false; rw [hi]; rfl
      | _ => rfl
    rw [this]
    exact mAnd_f ha
  | true =>
    rw [hi] at ha
    refine (mAnd_t ha).trans ?_
    cases x with
    | tup xs =>
      obtain ⟨hl, hp⟩ := tup_of hx
      have hp' := pls_iff.mp hp
      have hi2 : (lenOk xs && (xs.all isP && okB (.tup (xs.map fstD)))) = true := hi
      rw [Bool.and_eq_true, Bool.and_eq_true] at hi2
      have pr : ∀ x ∈ xs, ∃ a c, x = .tup [a, c] := fun x hx => isP_at (List.all_eq_true.mp hi2.2.1 x hx)
      have e : okRow (.tup xs) = xs.all fun p => isV (sndD p) := by show (okP (.tup xs) && _) = _; rw [hi]; rfl
      rw [e]
      refine all_comp (p := fun p => isV (sndD p)) rfl (fun x hx acc => ?_) (by unfold most; omega)
      obtain ⟨a, c, rfl⟩ := pr x hx
      have pc := (pl_pair (hp' _ hx)).2
      have lx : ltDs 0 [c] = true := by unfold ltDs; rw [pl_lt c pc]; rfl
      exact step_t (e := [some (.tup xs), some (.tup [a, c])]) rfl rfl (callP_ok (ds := [c]) (es := []) (j := []) rfl rfl lx rfl (isv_ok pc) rfl) rfl
    | _ => cases hi
theorem isrow_ok {x : D} {b : Nat} (hx : pl b x = true) (hb : b ≤ 100) : f_is_row [x] [] = .ok (.bl (okRow x)) [] := by
  have l1 : ltDs 0 [x] = true := by unfold ltDs; rw [pl_lt x hx]; rfl
  exact defR_ret (k := 0) (callP_ok (ds := [x]) (es := []) (j := []) rfl rfl l1 rfl (rowl_ok hx hb) rfl)
theorem rowl_call {x : D} {b : Nat} {env : Iv.Env} (hx : pl b x = true) (hb : b ≤ 100) (he : env[0]? = some (some x)) : mCallP f_is_rowlike [0] (mCons (mVar 0) mNil) mNil env [] = .ok (.bl (okRow x)) [] := by
  have v : mVar 0 env [] = .ok x [] := by unfold mVar; rw [he]
  exact call1 (mCons_ok v rfl) (pl_lt x hx) rfl (rowl_ok hx hb) rfl
theorem ask_t {x : D} {b : Nat} (hx : pl b x = true) (hb : b ≤ 100) (h : okRow x = true) : f_ask_row [x] [] = .ok .non [] := by
  have q := rowl_call (env := [some x]) hx hb rfl
  rw [h] at q
  exact defR_nx (k := 0) ((sCons_nx (sIf_nx (mNotb q))).trans rfl)
theorem ask_f {x : D} {b : Nat} (hx : pl b x = true) (hb : b ≤ 100) (h : okRow x = false) : f_ask_row [x] [] = .ex 3 [] := by
  have q := rowl_call (env := [some x]) hx hb rfl
  rw [h] at q
  exact defR_ex (k := 0) (sCons_ex (sIf_ex (mNotb q) rfl))
end K00

set_option maxRecDepth 100000
namespace K00
open PySem L2 Iv PySem.Spec PyProof.Rows
theorem ones_of (p : D → Bool) : ∀ ys : List D, ∃ ms : List Int, ys.filterMap (fun y => if p y = true then none else some (D.int 1)) = ms.map .int ∧ ms.isEmpty = ys.all p ∧ ms.length ≤ ys.length
  | [] => ⟨[], rfl, rfl, Nat.le_refl _⟩
  | y :: ys => by
    obtain ⟨ms, e, he, hl⟩ := ones_of p ys
    by_cases hp : p y = true
    · refine ⟨ms, ?_, ?_, by simp; omega⟩
      · rw [List.filterMap_cons_none (f := fun y => if p y = true then none else some (D.int 1)) (by rw [if_pos hp]), e]
      · rw [List.all_cons, hp, he]; rfl
    · refine ⟨1 :: ms, ?_, ?_, by simp; omega⟩
      · rw [List.filterMap_cons_some (f := fun y => if p y = true then none else some (D.int 1)) (b := D.int 1) (by rw [if_neg hp]), e]; rfl
      · rw [List.all_cons]
        rw [Bool.not_eq_true] at hp
        rw [hp]; rfl
theorem eq_nilL {h : Hs} {ns : List Int} : cmpD .Eq (.lst (ns.map .int)) (.lst []) h = some ns.isEmpty := by
  have n := ne_nilL (h := h) (x := .lst (ns.map .int)) (y := .lst []) (ns := ns) rfl rfl
  show orO (eqC (.lst (ns.map .int)) (.lst []) h) _ = _
  unfold eqC
  have n' : orO ((eqO (.lst (ns.map .int)) (.lst []) h).map (!·)) ((eqS (.lst (ns.map .int)) (.lst []) h).map (!·)) = some (!ns.isEmpty) := n
  cases e : eqO (.lst (ns.map .int)) (.lst []) h with
  | none =>
    have : eqE (.lst (ns.map .int)) (.lst []) h = some ns.isEmpty := by
      show some (ns.map D.int).isEmpty = _
      cases ns <;> rfl
    dsimp only
    rw [this]; rfl
  | some b =>
    rw [e] at n'
    have n' : some (!b) = some (!ns.isEmpty) := n'
    injection n' with n'
    show some b = _
    cases b <;> cases hn : ns.isEmpty <;> rw [hn] at n' <;> first | rfl | cases n'
section
variable {mi : MI} {mt : MTg} {mc : M} {own : List Nat} {env : Iv.Env} {h : Hs} {xs : List D} {p : D → Bool}
theorem step_one {env e : Iv.Env} {x : D} {p : Bool} (ht : mt x env = some e) (hc : mc e h = .ok (.bl (!p)) h) : Iv.step mt mc (mCon (.int 1)) env x h = .ok (if p = true then none else some (.int 1)) h := by
  cases p with
  | true => exact step_f ht hc
  | false => exact step_t ht hc rfl rfl
theorem ones_comp (hcl : h.all (ltO h.length) = true) (hs : mi env h = .ok (.fix xs) h) (hst : ∀ x ∈ xs, ∀ acc, Iv.step mt mc (mCon (.int 1)) (wipeE env own) x (h ++ [.lst acc]) = .ok (if p x = true then none else some (.int 1)) (h ++ [.lst acc])) (hl : xs.length < most) :
    ∃ ms : List Int, (mComp false mi mt mc (mCon (.int 1)) own) env h = .ok (.lst (ms.map .int)) h ∧ ms.isEmpty = xs.all p := by
  obtain ⟨ms, e, he, hl2⟩ := ones_of p xs
  refine ⟨ms, ?_, he⟩
  have hc := comp_ok (m := false) (mi := mi) (mt := mt) (mc := mc) (own := own) (env := env) (h := h) (h1 := h) (fun x => if p x = true then none else some (.int 1)) hs hst hl
  rw [e] at hc
  exact hc.trans (gc_lst hcl (ltDs_ints _ _))
theorem ones_ne (hcl : h.all (ltO h.length) = true) (hs : mi env h = .ok (.fix xs) h) (hst : ∀ x ∈ xs, ∀ acc, Iv.step mt mc (mCon (.int 1)) (wipeE env own) x (h ++ [.lst acc]) = .ok (if p x = true then none else some (.int 1)) (h ++ [.lst acc])) (hl : xs.length < most) :
    (mCmp .NotEq (mComp false mi mt mc (mCon (.int 1)) own) (mLst false mNil)) env h = .ok (.bl (!(xs.all p))) h := by
  obtain ⟨ms, e, he⟩ := ones_comp hcl hs hst hl
  rw [← he]
  exact mCmp_ok e rfl (ne_nilL rfl rfl)
theorem ones_eq (hcl : h.all (ltO h.length) = true) (hs : mi env h = .ok (.fix xs) h) (hst : ∀ x ∈ xs, ∀ acc, Iv.step mt mc (mCon (.int 1)) (wipeE env own) x (h ++ [.lst acc]) = .ok (if p x = true then none else some (.int 1)) (h ++ [.lst acc])) (hl : xs.length < most) :
    (mCmp .Eq (mComp false mi mt mc (mCon (.int 1)) own) (mLst false mNil)) env h = .ok (.bl (xs.all p)) h := by
  obtain ⟨ms, e, he⟩ := ones_comp hcl hs hst hl
  rw [← he]
  exact mCmp_ok e rfl eq_nilL
end
def isN : D → Bool
  | .int _ => true
  | _ => false
theorem lisn_ok {x : D} {b : Nat} (hx : pl b x = true) : f__law_is_number [x] [] = .ok (.bl (isN x)) [] := by
  by_cases hi : ∃ i, x = .int i
  · obtain ⟨i, rfl⟩ := hi
    exact lisn_int i
  · have : isN x = false := by
      cases x with
      | int i => exact absurd ⟨i, rfl⟩ hi
      | _ => rfl
    rw [this]
    exact (isn_other hx fun i e => hi ⟨i, e⟩).2
theorem isN_at {x : D} (h : isN x = true) : ∃ i, x = .int i := by
  cases x with
  | int i => exact ⟨i, rfl⟩
  | _ => cases h
def prD (r : Int × Int) : D := .tup [.int r.1, .int r.2]
def rowD (rs : List (Int × Int)) : D := .tup (rs.map prD)
def okI (rs : List (Int × Int)) : Bool := (decide ((1 : Int) ≤ rs.length) && decide ((rs.length : Int) ≤ 4)) && ((rs.all fun r => decide (0 ≤ r.1) && decide (r.1 ≤ 3)) && rise (rs.map (·.1)) && rs.all fun r => decide (0 ≤ r.2) && decide (r.2 ≤ 999999999))
theorem okRow_rowD (rs : List (Int × Int)) : okRow (rowD rs) = okI rs := by
  have e1 : (rs.map prD).all isP = true := List.all_eq_true.mpr fun x hx => by obtain ⟨r, _, rfl⟩ := List.mem_map.mp hx; rfl
  have e2 : (rs.map prD).map fstD = (rs.map (·.1)).map D.int := by rw [List.map_map, List.map_map]; rfl
  have e3 : ((rs.map (·.1)).map D.int).all isH = rs.all fun r => decide (0 ≤ r.1) && decide (r.1 ≤ 3) := by rw [List.all_map, List.all_map]; rfl
  have e4 : ((rs.map prD).all fun p => isV (sndD p)) = rs.all fun r => decide (0 ≤ r.2) && decide (r.2 ≤ 999999999) := by rw [List.all_map]; rfl
  show ((lenOk (rs.map prD) && ((rs.map prD).all isP && okB (.tup ((rs.map prD).map fstD)))) && (rs.map prD).all fun p => isV (sndD p)) = _
  rw [e1, e2, e4, Bool.true_and]
  show (((decide ((1 : Int) ≤ (rs.map prD).length) && decide (((rs.map prD).length : Int) ≤ 4)) && ((decide ((1 : Int) ≤ ((rs.map (·.1)).map D.int).length) && decide ((((rs.map (·.1)).map D.int).length : Int) ≤ 4)) && (((rs.map (·.1)).map D.int).all isH && rise (((rs.map (·.1)).map D.int).map toI)))) && _) = _
  rw [e3, toI_map, List.length_map, List.length_map, List.length_map]
  unfold okI
  cases (decide ((1 : Int) ≤ rs.length) && decide ((rs.length : Int) ≤ 4)) with
  | false => rfl
  | true => simp only [Bool.true_and]
theorem nums_of : ∀ {ps : List D}, ps.all isP = true → ps.all (fun p => isN (fstD p) && isN (sndD p)) = true → ∃ rs : List (Int × Int), ps = rs.map prD
  | [], _, _ => ⟨[], rfl⟩
  | p :: ps, h1, h2 => by
    rw [List.all_cons, Bool.and_eq_true] at h1 h2
    obtain ⟨rs, rfl⟩ := nums_of h1.2 h2.2
    obtain ⟨a, c, rfl⟩ := isP_at h1.1
    have h3 := h2.1
    rw [Bool.and_eq_true] at h3
    obtain ⟨i, rfl⟩ := isN_at (x := a) h3.1
    obtain ⟨k, rfl⟩ := isN_at (x := c) h3.2
    exact ⟨(i, k) :: rs, rfl⟩
theorem isH_N {x : D} (h : isH x = true) : isN x = true := by
  obtain ⟨i, rfl⟩ := isH_int h; rfl
theorem isV_N {x : D} (h : isV x = true) : isN x = true := by
  cases x with
  | int i => rfl
  | _ => cases h
theorem okRow_parts {ps : List D} (h : okRow (.tup ps) = true) : ps ≠ [] ∧ ps.all isP = true ∧ ps.all (fun p => isN (fstD p) && isN (sndD p)) = true := by
  have h : ((lenOk ps && (ps.all isP && okB (.tup (ps.map fstD)))) && ps.all fun p => isV (sndD p)) = true := h
  rw [Bool.and_eq_true, Bool.and_eq_true, Bool.and_eq_true] at h
  obtain ⟨⟨h0, h1, h2⟩, h3⟩ := h
  have h2 : ((decide ((1 : Int) ≤ (ps.map fstD).length) && decide (((ps.map fstD).length : Int) ≤ 4)) && ((ps.map fstD).all isH && rise ((ps.map fstD).map toI))) = true := h2
  rw [Bool.and_eq_true, Bool.and_eq_true, Bool.and_eq_true, List.all_map] at h2
  refine ⟨?_, h1, List.all_eq_true.mpr fun x hx => ?_⟩
  · rintro rfl
    exact absurd h0 (by decide)
  · rw [Bool.and_eq_true]
    exact ⟨isH_N (List.all_eq_true.mp h2.2.1 x hx), isV_N (List.all_eq_true.mp h3 x hx)⟩
theorem okRow_nums {ps : List D} (h : okRow (.tup ps) = true) : ∃ rs : List (Int × Int), ps = rs.map prD := nums_of (okRow_parts h).2.1 (okRow_parts h).2.2
theorem rise_len : ∀ {ns : List Int}, rise ns = true → (∀ n ∈ ns, 0 ≤ n ∧ n ≤ 3) → ∀ a r, ns = a :: r → (ns.length : Int) ≤ 4 - a
  | [], _, _, a, r, e => by cases e
  | [x], _, hb, a, r, e => by
    cases e
    have := hb x List.mem_cons_self
    simp; omega
  | x :: y :: s, h, hb, a, r, e => by
    cases e
    unfold rise at h
    rw [Bool.and_eq_true, decide_eq_true_eq] at h
    have := rise_len h.2 (fun n hn => hb n (List.mem_cons_of_mem _ hn)) y s rfl
    rw [List.length_cons]
    omega
/-- as the law says it -/
theorem okI_law {rs : List (Int × Int)} (hn : rs ≠ []) : okI rs = ((rs.all fun r => (decide (0 ≤ r.1) && decide (r.1 ≤ 3)) && (decide (0 ≤ r.2) && decide (r.2 ≤ 999999999))) && rise (rs.map (·.1))) := by
  have e : (rs.all fun r => (decide (0 ≤ r.1) && decide (r.1 ≤ 3)) && (decide (0 ≤ r.2) && decide (r.2 ≤ 999999999))) = ((rs.all fun r => decide (0 ≤ r.1) && decide (r.1 ≤ 3)) && rs.all fun r => decide (0 ≤ r.2) && decide (r.2 ≤ 999999999)) := by
    clear hn
    induction rs with
    | nil => rfl
    | cons r rs ih => rw [List.all_cons, List.all_cons, List.all_cons, ih]; simp only [Bool.and_assoc, Bool.and_left_comm, Bool.and_comm]
  unfold okI
  rw [e]
  cases h1 : rs.all fun r => decide (0 ≤ r.1) && decide (r.1 ≤ 3) with
  | false => simp only [Bool.false_and, Bool.and_false]
  | true =>
    cases h2 : rise (rs.map (·.1)) with
    | false => simp only [Bool.true_and, Bool.false_and, Bool.and_false]
    | true =>
      have hb : ∀ n ∈ rs.map (·.1), 0 ≤ n ∧ n ≤ 3 := fun n hn => by
        obtain ⟨r, hr, rfl⟩ := List.mem_map.mp hn
        have := List.all_eq_true.mp h1 r hr
        simpa using this
      cases rs with
      | nil => exact absurd rfl hn
      | cons a r =>
        have h3 := rise_len h2 hb a.1 (r.map (·.1)) rfl
        have h4 := (hb a.1 List.mem_cons_self).1
        rw [List.length_map] at h3
        rw [decide_eq_true (show (1 : Int) ≤ ((a :: r).length : Int) by simp; omega), decide_eq_true (show (((a :: r).length : Nat) : Int) ≤ 4 by omega)]
        simp only [Bool.true_and, Bool.and_true]
end K00

set_option maxRecDepth 100000
namespace K00
open PySem L2 Iv PySem.Spec PyProof.Rows
abbrev cR1 : M := (mOr (mNot (mIsi subC (mCons (mVar 0) (mCons (mCon (.ty "tuple")) mNil)))) (mCmp .Eq (mBi false .len (mCons (mVar 0) mNil)) (mCon (.int 0))))
abbrev tR2 : M := (mT (mOr (mNot (mIsi subC (mCons (mVar 1) (mCons (mCon (.ty "tuple")) mNil)))) (mCmp .NotEq (mBi false .len (mCons (mVar 1) mNil)) (mCon (.int 2)))))
abbrev tR3 : M := (mT (mOr (mNot (mCallP f__law_is_number [0] (mCons (mIx (mVar 1) (mCon (.int 0))) mNil) mNil)) (mNot (mCallP f__law_is_number [0] (mCons (mIx (mVar 1) (mCon (.int 1))) mNil) mNil))))
abbrev tR4 : M := (mT (mOr (mCmp .Lt (mVar 2) (mCon (.int 0))) (mOr (mCmp .Gt (mVar 2) (mCon (.int 3))) (mOr (mCmp .Lt (mVar 3) (mCon (.int 0))) (mCmp .Gt (mVar 3) (mCon (.int 999999999)))))))
abbrev tR5 : M := (mT (mCmp .GtE (mIx (mVar 4) (mCon (.int 0))) (mIx (mVar 5) (mCon (.int 0)))))
abbrev nO (mi : MI) (mt : MTg) (mc : M) (own : List Nat) : M := mCmp .NotEq (mComp false mi mt mc (mCon (.int 1)) own) (mLst false mNil)
abbrev rF (c : M) : MS := sIf c (sCons (sRet (mCon (.bl false))) sNil) sNil
theorem isrow_is : m__law_is_row = sCons (rF cR1) (sCons (rF (nO (mSrc (mVar 0)) (gNm 1) tR2 [1])) (sCons (rF (nO (mSrc (mVar 0)) (gNm 1) tR3 [1])) (sCons (rF (nO (mSrc (mVar 0)) (gTp 2 (gCs (gNm 2) (gCs (gNm 3) gNo))) tR4 [2, 3])) (sCons (sRet (mCmp .Eq (mComp false (mZip (mCons (mVar 0) (mCons (mSl false (mVar 0) (mYes (mCon (.int 1))) mNo) mNil))) (gTp 2 (gCs (gNm 4) (gCs (gNm 5) gNo))) tR5 (mCon (.int 1)) [4, 5]) (mLst false mNil))) sNil)))) := by rfl
theorem cmp_neI {a b : Int} {h : Hs} : cmpD .NotEq (.int a) (.int b) h = some (!(decide (a = b))) := by
  show some (!(a == b)) = _
  congr 1
theorem nil_ok {env : Iv.Env} {h : Hs} : mNil env h = .ok [] h := rfl
theorem t2_ok {x : D} {b : Nat} {e : Iv.Env} {h : Hs} (hx : pl b x = true) (he : e[1]? = some (some x)) : tR2 e h = .ok (.bl (!(isP x))) h := by
  have v : mVar 1 e h = .ok x h := by unfold mVar; rw [he]
  refine mTbl ?_
  have is : ∀ c : Bool, isiB subC x (.ty "tuple") h = some c → (mNot (mIsi subC (mCons (mVar 1) (mCons (mCon (.ty "tuple")) mNil)))) e h = .ok (.bl (!c)) h := fun c q => by
    refine mNotb ?_
    unfold mIsi
    rw [mCons_ok v (mCons_ok (d := .ty "tuple") rfl rfl)]
    show ans (isiB subC x (.ty "tuple") h) h = _
    rw [q]; rfl
  cases x with
  | tup xs =>
    refine (mOr_f (is true rfl)).trans ?_
    refine (mCmp_ok (x := .int xs.length) (y := .int 2) (mBi_ok (mCons_ok v rfl) rfl) rfl cmp_neI).trans ?_
    show R.ok (D.bl (!(decide ((xs.length : Int) = 2)))) h = .ok (.bl (!(decide (xs.length = 2)))) h
    congr 3
    exact decide_eq_decide.mpr ⟨fun h => by omega, fun h => by omega⟩
  | int i => exact mOr_t (is false rfl)
  | non => exact mOr_t (is false rfl)
  | bl c => exact mOr_t (is false rfl)
  | str c => exact mOr_t (is false rfl)
  | lst c => exact mOr_t (is false rfl)
  | dct k c => exact mOr_t (is false rfl)
  | dcu k c => exact mOr_t (is false rfl)
  | scr c => unfold pl at hx; cases hx
  | ref c => unfold pl at hx; cases hx
  | ty c => unfold pl at hx; cases hx
  | own c => unfold pl at hx; cases hx
  | exc c => unfold pl at hx; cases hx
  | fn c => unfold pl at hx; cases hx
  | clo c => unfold pl at hx; cases hx
theorem t3_ok {a c : D} {b : Nat} {e : Iv.Env} {h : Hs} (ha : pl b a = true) (hc : pl b c = true) (hp : h.all plainO = true) (he : e[1]? = some (some (.tup [a, c]))) : tR3 e h = .ok (.bl (!(isN a && isN c))) h := by
  have v : mVar 1 e h = .ok (.tup [a, c]) h := by unfold mVar; rw [he]
  have i0 : mIx (mVar 1) (mCon (.int 0)) e h = .ok a h := by
    unfold mIx
    rw [v]; rfl
  have i1 : mIx (mVar 1) (mCon (.int 1)) e h = .ok c h := by
    unfold mIx
    rw [v]; rfl
  have q0 := mNotb (call1 (mCons_ok i0 nil_ok) (pl_lt a ha) hp (lisn_ok ha) rfl)
  have q1 := mNotb (call1 (mCons_ok i1 nil_ok) (pl_lt c hc) hp (lisn_ok hc) rfl)
  refine mTbl ?_
  cases hn : isN a with
  | false => rw [hn] at q0; exact mOr_t q0
  | true => rw [hn] at q0; exact (mOr_f q0).trans q1
theorem t4_ok {i k : Int} {e : Iv.Env} {h : Hs} (h2 : e[2]? = some (some (.int i))) (h3 : e[3]? = some (some (.int k))) : tR4 e h = .ok (.bl (!((decide (0 ≤ i) && decide (i ≤ 3)) && (decide (0 ≤ k) && decide (k ≤ 999999999))))) h := by
  have v2 : mVar 2 e h = .ok (.int i) h := by unfold mVar; rw [h2]
  have v3 : mVar 3 e h = .ok (.int k) h := by unfold mVar; rw [h3]
  refine mTbl ?_
  have c1 : (mCmp .Lt (mVar 2) (mCon (.int 0))) e h = .ok (.bl (decide (i < 0))) h := mCmp_ok v2 rfl rfl
  have c2 : (mCmp .Gt (mVar 2) (mCon (.int 3))) e h = .ok (.bl (decide (3 < i))) h := mCmp_ok v2 rfl rfl
  have c3 : (mCmp .Lt (mVar 3) (mCon (.int 0))) e h = .ok (.bl (decide (k < 0))) h := mCmp_ok v3 rfl rfl
  have c4 : (mCmp .Gt (mVar 3) (mCon (.int 999999999))) e h = .ok (.bl (decide (999999999 < k))) h := mCmp_ok v3 rfl rfl
  by_cases g1 : i < 0
  · rw [decide_eq_true g1] at c1
    rw [decide_eq_false (show ¬ 0 ≤ i by omega)]
    exact mOr_t c1
  rw [decide_eq_false g1] at c1
  rw [decide_eq_true (show 0 ≤ i by omega)]
  refine (mOr_f c1).trans ?_
  by_cases g2 : 3 < i
  · rw [decide_eq_true g2] at c2
    rw [decide_eq_false (show ¬ i ≤ 3 by omega)]
    exact mOr_t c2
  rw [decide_eq_false g2] at c2
  rw [decide_eq_true (show i ≤ 3 by omega)]
  refine (mOr_f c2).trans ?_
  by_cases g3 : k < 0
  · rw [decide_eq_true g3] at c3
    rw [decide_eq_false (show ¬ 0 ≤ k by omega)]
    exact mOr_t c3
  rw [decide_eq_false g3] at c3
  rw [decide_eq_true (show 0 ≤ k by omega)]
  refine (mOr_f c3).trans ?_
  by_cases g4 : 999999999 < k
  · rw [decide_eq_true g4] at c4
    rw [decide_eq_false (show ¬ k ≤ 999999999 by omega)]
    exact c4
  rw [decide_eq_false g4] at c4
  rw [decide_eq_true (show k ≤ 999999999 by omega)]
  exact c4
def upD : D → Bool
  | .tup [.tup (.int i :: _), .tup (.int k :: _)] => decide (i < k)
  | _ => true
theorem up_rise : ∀ rs : List (Int × Int), (zipD (rs.map prD) (rs.map prD).tail).all upD = rise (rs.map (·.1))
  | [] => rfl
  | [_] => rfl
  | a :: b :: r => by
    show (decide (a.1 < b.1) && (zipD ((b :: r).map prD) ((b :: r).map prD).tail).all upD) = (decide (a.1 < b.1) && rise ((b :: r).map (·.1)))
    rw [up_rise (b :: r)]
theorem zip_mem : ∀ {xs ys : List D} {z : D}, z ∈ zipD xs ys → ∃ x y, x ∈ xs ∧ y ∈ ys ∧ z = .tup [x, y]
  | [], ys, z, h => by unfold zipD at h; cases h
  | x :: xs, [], z, h => by unfold zipD at h; cases h
  | x :: xs, y :: ys, z, h => by
    unfold zipD at h
    rcases List.mem_cons.mp h with rfl | h
    · exact ⟨x, y, List.mem_cons_self, List.mem_cons_self, rfl⟩
    · obtain ⟨x', y', h1, h2, e⟩ := zip_mem h
      exact ⟨x', y', List.mem_cons_of_mem _ h1, List.mem_cons_of_mem _ h2, e⟩
theorem zip_len : ∀ xs ys : List D, (zipD xs ys).length ≤ xs.length
  | [], ys => by unfold zipD; exact Nat.le_refl _
  | x :: xs, [] => by unfold zipD; exact Nat.zero_le _
  | x :: xs, y :: ys => by
    unfold zipD
    rw [List.length_cons, List.length_cons]
    exact Nat.succ_le_succ (zip_len xs ys)
theorem cut1 (xs : List D) : Iv.cutD xs (some 1) none = xs.drop 1 := by
  unfold Iv.cutD
  rw [show HT.sIx xs.length 0 (some 1) = min 1 xs.length from HT.sIx_nat _ _ 1, HT.sIx_none]
  cases xs with
  | nil => rfl
  | cons x xs =>
    rw [show min 1 (x :: xs).length = 1 by simp]
    exact List.take_of_length_le (by rw [List.length_drop]; exact Nat.le_refl _)
theorem lawrow_ok {x : D} {b : Nat} (hx : pl b x = true) (hb : b ≤ 100) : f__law_is_row [x] [] = .ok (.bl (okRow x)) [] := by
  refine defR_rt (k := 5) ?_
  show m__law_is_row [some x, none, none, none, none, none] [] = _
  rw [isrow_is]
  cases x with
  | int i => exact sCons_rt (by kernel_rfl)
  | non => exact sCons_rt (by kernel_rfl)
  | bl c => exact sCons_rt (by kernel_rfl)
  | str c => exact sCons_rt (by kernel_rfl)
  | lst c => exact sCons_rt (by kernel_rfl)
  | dct k c => exact sCons_rt (by kernel_rfl)
  | dcu k c => exact sCons_rt (by kernel_rfl)
  | scr c => unfold pl at hx; cases hx
  | ref c => unfold pl at hx; cases hx
  | ty c => unfold pl at hx; cases hx
  | own c => unfold pl at hx; cases hx
  | exc c => unfold pl at hx; cases hx
  | fn c => unfold pl at hx; cases hx
  | clo c => unfold pl at hx; cases hx
  | tup xs =>
    obtain ⟨hl, hp⟩ := tup_of hx
    have hp' := pls_iff.mp hp
    have hm : xs.length < most := by unfold most; omega
    have r1 : cR1 [some (.tup xs), none, none, none, none, none] [] = .ok (.bl xs.isEmpty) [] := by
      refine (mOr_f (by kernel_rfl)).trans ((mCmp_ok (x := .int xs.length) (y := .int 0) (h1 := []) rfl rfl cmp_eqI).trans ?_)
      cases xs with
      | nil => rfl
      | cons y ys =>
        rw [decide_eq_false (by simp; omega)]; rfl
    cases he : xs.isEmpty with
    | true =>
      rw [he] at r1
      have : xs = [] := List.isEmpty_iff.mp he
      subst this
      exact sCons_rt (sIf_rt r1 rfl)
    | false =>
      rw [he] at r1
      have hne : xs ≠ [] := fun h => by rw [h] at he; cases he
      rw [sCons_nx (sIf_nx r1)]
      have r2 : nO (mSrc (mVar 0)) (gNm 1) tR2 [1] [some (.tup xs), none, none, none, none, none] [] = .ok (.bl (!(xs.all isP))) [] := by
        refine ones_ne (xs := xs) rfl rfl (fun y hy acc => ?_) hm
        exact step_one (e := [some (.tup xs), some y, none, none, none, none]) rfl (t2_ok (hp' y hy) rfl)
      cases hi : xs.all isP with
      | false =>
        rw [hi] at r2
        have : okRow (.tup xs) = false := by
          cases ho : okRow (.tup xs) with
          | false => rfl
          | true => rw [(okRow_parts ho).2.1] at hi; cases hi
        rw [this]
        exact sCons_rt (sIf_rt r2 rfl)
      | true =>
        rw [hi] at r2
        rw [sCons_nx (sIf_nx r2)]
        have r3 : nO (mSrc (mVar 0)) (gNm 1) tR3 [1] [some (.tup xs), none, none, none, none, none] [] = .ok (.bl (!(xs.all fun p => isN (fstD p) && isN (sndD p)))) [] := by
          refine ones_ne (xs := xs) (p := fun p => isN (fstD p) && isN (sndD p)) rfl rfl (fun y hy acc => ?_) hm
          have py := hp' y hy
          obtain ⟨a, c, rfl⟩ := isP_at (List.all_eq_true.mp hi y hy)
          exact step_one (e := [some (.tup xs), some (.tup [a, c]), none, none, none, none]) rfl (t3_ok (pl_pair py).1 (pl_pair py).2 rfl rfl)
        cases hn : xs.all fun p => isN (fstD p) && isN (sndD p) with
        | false =>
          rw [hn] at r3
          have : okRow (.tup xs) = false := by
            cases ho : okRow (.tup xs) with
            | false => rfl
            | true => rw [(okRow_parts ho).2.2] at hn; cases hn
          rw [this]
          exact sCons_rt (sIf_rt r3 rfl)
        | true =>
          rw [hn] at r3
          rw [sCons_nx (sIf_nx r3)]
          obtain ⟨rs, rfl⟩ := nums_of hi hn
          have hrs : rs ≠ [] := fun h => hne (by rw [h]; rfl)
          have eo : okRow (.tup (rs.map prD)) = _ := (okRow_rowD rs).trans (okI_law hrs)
          rw [eo]
          have r4 : nO (mSrc (mVar 0)) (gTp 2 (gCs (gNm 2) (gCs (gNm 3) gNo))) tR4 [2, 3] [some (.tup (rs.map prD)), none, none, none, none, none] [] = .ok (.bl (!(rs.all fun r => (decide (0 ≤ r.1) && decide (r.1 ≤ 3)) && (decide (0 ≤ r.2) && decide (r.2 ≤ 999999999))))) [] := by
            have e5 : (rs.all fun r => (decide (0 ≤ r.1) && decide (r.1 ≤ 3)) && (decide (0 ≤ r.2) && decide (r.2 ≤ 999999999))) = (rs.map prD).all fun p => isH (fstD p) && isV (sndD p) := by rw [List.all_map]; rfl
            rw [e5]
            refine ones_ne (xs := rs.map prD) (p := fun p => isH (fstD p) && isV (sndD p)) rfl rfl (fun y hy acc => ?_) hm
            obtain ⟨r, _, rfl⟩ := List.mem_map.mp hy
            exact step_one (e := [some (.tup (rs.map prD)), none, some (.int r.1), some (.int r.2), none, none]) rfl (t4_ok rfl rfl)
          cases hv : rs.all fun r => (decide (0 ≤ r.1) && decide (r.1 ≤ 3)) && (decide (0 ≤ r.2) && decide (r.2 ≤ 999999999)) with
          | false =>
            rw [hv] at r4
            exact sCons_rt (sIf_rt r4 rfl)
          | true =>
            rw [hv] at r4
            rw [sCons_nx (sIf_nx r4), Bool.true_and, ← up_rise]
            refine sCons_rt (sRet_ok ?_)
            have sl : (mSl false (mVar 0) (mYes (mCon (.int 1))) mNo) [some (.tup (rs.map prD)), none, none, none, none, none] [] = .ok (.tup (rs.map prD).tail) [] := by
              show mkT (Iv.cutD (rs.map prD) (some 1) none) [] = _
              rw [cut1, List.drop_one]
              unfold mkT
              rw [if_pos (by rw [List.length_tail]; omega)]
            refine ones_eq (xs := zipD (rs.map prD) (rs.map prD).tail) (p := upD) rfl ?_ (fun y hy acc => ?_) (Nat.lt_of_le_of_lt (zip_len _ _) hm)
            · unfold mZip
              rw [mCons_ok (d := .tup (rs.map prD)) (h1 := []) rfl (mCons_ok sl rfl)]
              rfl
            · obtain ⟨y1, y2, h1, h2, rfl⟩ := zip_mem hy
              obtain ⟨q1, _, rfl⟩ := List.mem_map.mp h1
              obtain ⟨q2, _, rfl⟩ := List.mem_map.mp (List.mem_of_mem_tail h2)
              refine step_one (e := [some (.tup (rs.map prD)), none, none, none, some (prD q1), some (prD q2)]) (p := decide (q1.1 < q2.1)) rfl ?_
              refine mTbl ((mCmp_ok (x := .int q1.1) (y := .int q2.1) (h1 := [] ++ [.lst acc]) rfl rfl rfl).trans ?_)
              show R.ok (D.bl (decide (q2.1 ≤ q1.1))) _ = .ok (.bl (!(decide (q1.1 < q2.1)))) _
              congr 2
              by_cases g : q1.1 < q2.1
              · rw [decide_eq_true g, decide_eq_false (show ¬ q2.1 ≤ q1.1 by omega)]; rfl
              · rw [decide_eq_false g, decide_eq_true (show q2.1 ≤ q1.1 by omega)]; rfl
end K00

set_option maxRecDepth 100000
namespace K00
open PySem L2 Iv PySem.Spec PyProof.Rows
/-! rows as data -/
def prP (r : Int × Int) : PyData := .tuple [.int r.1, .int r.2]
def rowP (rs : List (Int × Int)) : PyData := .tuple (rs.map prP)
theorem toPys_map {α : Type} {f : α → D} {g : α → PyData} (h : ∀ a, toPy (f a) = some (g a)) : ∀ xs : List α, toPys (xs.map f) = some (xs.map g)
  | [] => rfl
  | x :: xs => by
    show (match toPy (f x), toPys (xs.map f) with | some p, some ps => some (p :: ps) | _, _ => none) = _
    rw [h x, toPys_map h xs]; rfl
theorem toPy_pr (r : Int × Int) : toPy (prD r) = some (prP r) := rfl
theorem toPy_row (rs : List (Int × Int)) : toPy (rowD rs) = some (rowP rs) := by
  show (toPys (rs.map prD)).map PyData.tuple = _
  rw [toPys_map toPy_pr]; rfl
theorem toPy_rows (ps : List (List (Int × Int))) : toPy (.lst (ps.map rowD)) = some (.list (ps.map rowP)) := by
  show (toPys (ps.map rowD)).map PyData.list = _
  rw [toPys_map toPy_row]; rfl
theorem lay_map {α : Type} {g : α → PyData} (h : ∀ a, (g a).canLay0 = true) : ∀ xs : List α, PyData.canLayAll0 (xs.map g) = true
  | [] => rfl
  | x :: xs => by
    show (PyData.canLay0 (g x) && PyData.canLayAll0 (xs.map g)) = true
    rw [h x, lay_map h xs]; rfl
theorem dep_map {α : Type} {g : α → PyData} {n : Nat} (h : ∀ a, (g a).depth ≤ n) : ∀ xs : List α, PyData.depthAll (xs.map g) ≤ n
  | [] => Nat.zero_le _
  | x :: xs => by
    have h1 := h x
    have h2 := dep_map h xs
    simp only [List.map_cons, PyData.depthAll]
    omega
theorem lay_pr (r : Int × Int) : (prP r).canLay0 = true := rfl
theorem dep_pr (r : Int × Int) : (prP r).depth ≤ 1 := by
  show PyData.depthAll _ + 1 ≤ 1
  simp [PyData.depthAll, PyData.depth]
theorem lay_row (rs : List (Int × Int)) : (rowP rs).canLay0 = true := lay_map lay_pr rs
theorem dep_row (rs : List (Int × Int)) : (rowP rs).depth ≤ 2 := Nat.succ_le_succ (dep_map dep_pr rs)
theorem shp_of {p : PyData} (h1 : p.canLay0 = true) (h2 : p.depth ≤ 64) : shp p = true := by
  show (p.canLay0 && decide (p.depth ≤ 64)) = true
  rw [h1, decide_eq_true h2]; rfl
theorem shp_pr (r : Int × Int) : shp (prP r) = true := shp_of (lay_pr r) (Nat.le_trans (dep_pr r) (by decide))
theorem shp_row (rs : List (Int × Int)) : shp (rowP rs) = true := shp_of (lay_row rs) (Nat.le_trans (dep_row rs) (by decide))
theorem shp_rowL (rs : List (Int × Int)) : shp (.list (rs.map prP)) = true := shp_of (lay_map lay_pr rs) (Nat.le_trans (Nat.succ_le_succ (dep_map dep_pr rs)) (by decide))
theorem shp_rows (ps : List (List (Int × Int))) : shp (.list (ps.map rowP)) = true := shp_of (lay_map lay_row ps) (Nat.le_trans (Nat.succ_le_succ (dep_map dep_row ps)) (by decide))
/-- what is the same is not unlike -/
theorem ne_self {x : D} {p : PyData} {h : Hs} (hx : look h x = x) (e : toPy x = some p) (hs : shp p = true) (hl : p.canLay0 = true) : cmpD .NotEq x x h = some false := by
  show orO ((eqO x x h).map (!·)) _ = _
  have : eqO x x h = some true := by
    unfold eqO
    rw [hx, e]
    dsimp only
    rw [hs, if_pos (show (true && true) = true from rfl), PySem.SeqAt.eqv_refl p hl]
  rw [this]; rfl
theorem ne_row (rs : List (Int × Int)) {h : Hs} : cmpD .NotEq (rowD rs) (rowD rs) h = some false := ne_self rfl (toPy_row rs) (shp_row rs) (lay_row rs)
theorem ne_rows (ps : List (List (Int × Int))) {h : Hs} : cmpD .NotEq (.lst (ps.map rowD)) (.lst (ps.map rowD)) h = some false := ne_self rfl (toPy_rows ps) (shp_rows ps) (lay_map lay_row ps)
theorem ne_int (i : Int) {h : Hs} : cmpD .NotEq (.int i) (.int i) h = some false := by rw [cmp_neI, decide_eq_true rfl]; rfl
abbrev hdsD (ns : List Int) : D := .tup (ns.map .int)
theorem toPy_hds (ns : List Int) : toPy (hdsD ns) = some (.tuple (ns.map .int)) := by
  show (toPys (ns.map D.int)).map PyData.tuple = _
  rw [toPys_ints]; rfl
theorem ne_hds (ns : List Int) {h : Hs} : cmpD .NotEq (hdsD ns) (hdsD ns) h = some false := ne_self rfl (toPy_hds ns) (shp_of (lay_ints ns) (Nat.le_trans (Nat.succ_le_succ (dep_ints ns)) (by decide))) (lay_ints ns)
/-! in -/
theorem in_ints (i : Int) (ns : List Int) {h : Hs} : cmpD .In (.int i) (hdsD ns) h = some (decide (i ∈ ns)) := by
  show (match toPy (.int i), toPys (ns.map D.int) with | some p, some qs => if shp p && shp (.list qs) then some (qs.any fun z => PyData.eqv z p) else none | _, _ => none) = _
  rw [toPys_ints]
  show (if (shp (.int i) && shp (.list (ns.map .int))) = true then some ((ns.map PyData.int).any fun z => PyData.eqv z (.int i)) else none) = _
  rw [shp_intsL, if_pos (show (shp (.int i) && true) = true from rfl)]
  congr 1
  rw [List.any_map]
  apply Bool.eq_iff_iff.mpr
  rw [List.any_eq_true, decide_eq_true_eq]
  constructor
  · rintro ⟨k, hk, e⟩
    have e : (k == i) = true := by simpa [PyData.eqv] using e
    rw [← eq_of_beq e]; exact hk
  · intro hk
    exact ⟨i, hk, by simp [PyData.eqv]⟩
theorem eqv_pr (a b : Int × Int) : PyData.eqv (prP a) (prP b) = decide (a = b) := by
  have : PyData.eqv (prP a) (prP b) = ((a.1 == b.1) && ((a.2 == b.2) && true)) := by simp [prP, PyData.eqv, PyData.eqvAll]
  rw [this]
  apply Bool.eq_iff_iff.mpr
  rw [Bool.and_eq_true, Bool.and_eq_true, beq_iff_eq, beq_iff_eq, decide_eq_true_eq]
  constructor
  · rintro ⟨h1, h2, _⟩; exact Prod.ext h1 h2
  · rintro rfl; exact ⟨rfl, rfl, rfl⟩
theorem in_row (r : Int × Int) (rs : List (Int × Int)) {h : Hs} : cmpD .In (prD r) (rowD rs) h = some (decide (r ∈ rs)) := by
  show (match toPy (prD r), toPys (rs.map prD) with | some p, some qs => if shp p && shp (.list qs) then some (qs.any fun z => PyData.eqv z p) else none | _, _ => none) = _
  rw [toPys_map toPy_pr, toPy_pr]
  show (if (shp (prP r) && shp (.list (rs.map prP))) = true then some ((rs.map prP).any fun z => PyData.eqv z (prP r)) else none) = _
  rw [shp_pr, shp_rowL, if_pos (show (true && true) = true from rfl)]
  congr 1
  rw [List.any_map]
  apply Bool.eq_iff_iff.mpr
  rw [List.any_eq_true, decide_eq_true_eq]
  constructor
  · rintro ⟨k, hk, e⟩
    have e : PyData.eqv (prP k) (prP r) = true := e
    rw [eqv_pr, decide_eq_true_eq] at e
    rw [← e]; exact hk
  · intro hk
    exact ⟨r, hk, by show PyData.eqv (prP r) (prP r) = true; rw [eqv_pr, decide_eq_true rfl]⟩
theorem notin_of {x y : D} {b : Bool} {h : Hs} (e : cmpD .In x y h = some b) : cmpD .NotIn x y h = some (!b) := by
  show (inC x y h).map (!·) = _
  have e : inC x y h = some b := e
  rw [e]; rfl
/-! plain -/
theorem pl_pr (r : Int × Int) {b : Nat} (hb : 2 ≤ b) : pl b (prD r) = true := by
  show (decide (2 ≤ b) && (true && (true && true))) = true
  rw [decide_eq_true hb]; rfl
theorem pls_map {α : Type} {f : α → D} {b : Nat} (h : ∀ a, pl b (f a) = true) (xs : List α) : pls b (xs.map f) = true := pls_iff.mpr fun x hx => by obtain ⟨a, _, rfl⟩ := List.mem_map.mp hx; exact h a
theorem pl_row {rs : List (Int × Int)} {b : Nat} (hb : 2 ≤ b) (hl : rs.length ≤ b) : pl b (rowD rs) = true := by
  show (decide ((rs.map prD).length ≤ b) && pls b (rs.map prD)) = true
  rw [List.length_map, decide_eq_true hl, pls_map fun r => pl_pr r hb]; rfl
theorem lt_row (rs : List (Int × Int)) : ltD 0 (rowD rs) = true := ltDs_of _ fun x hx => by obtain ⟨r, _, rfl⟩ := List.mem_map.mp hx; rfl
theorem lt_hds (ns : List Int) : ltD 0 (hdsD ns) = true := ltDs_ints 0 ns
theorem lt_rows (ps : List (List (Int × Int))) : ltDs 0 (ps.map rowD) = true := ltDs_of _ fun x hx => by obtain ⟨r, _, rfl⟩ := List.mem_map.mp hx; exact lt_row r
/-! good rows -/
theorem rise_iff : ∀ ns : List Int, rise ns = true ↔ ns.Pairwise (· < ·)
  | [] => ⟨fun _ => .nil, fun _ => rfl⟩
  | [a] => ⟨fun _ => List.pairwise_singleton _ _, fun _ => rfl⟩
  | a :: b :: r => by
    unfold rise
    rw [Bool.and_eq_true, decide_eq_true_eq, rise_iff (b :: r), List.pairwise_cons (a := a)]
    constructor
    · rintro ⟨h, p⟩
      refine ⟨fun x hx => ?_, p⟩
      rcases List.mem_cons.mp hx with rfl | hx
      · exact h
      · exact Int.lt_trans h ((List.pairwise_cons.mp p).1 x hx)
    · rintro ⟨h, p⟩
      exact ⟨h b List.mem_cons_self, p⟩
structure Good (rs : List (Int × Int)) : Prop where
  ne : rs ≠ []
  len : rs.length ≤ 4
  hand : ∀ r ∈ rs, 0 ≤ r.1 ∧ r.1 ≤ 3
  val : ∀ r ∈ rs, 0 ≤ r.2 ∧ r.2 ≤ 999999999
  up : rs.Pairwise (fun a b => a.1 < b.1)
theorem Good.ok {rs : List (Int × Int)} (g : Good rs) : okI rs = true := by
  rw [okI_law g.ne, Bool.and_eq_true]
  refine ⟨List.all_eq_true.mpr fun r hr => ?_, (rise_iff _).mpr (List.pairwise_map.mpr g.up)⟩
  have h1 := g.hand r hr
  have h2 := g.val r hr
  simp [h1.1, h1.2, h2.1, h2.2]
theorem Good.row {rs : List (Int × Int)} (g : Good rs) : okRow (rowD rs) = true := (okRow_rowD rs).trans g.ok
theorem Good.sub {rs qs : List (Int × Int)} (g : Good rs) (h : qs.Sublist rs) (hn : qs ≠ []) : Good qs where
  ne := hn
  len := Nat.le_trans h.length_le g.len
  hand := fun r hr => g.hand r (h.subset hr)
  val := fun r hr => g.val r (h.subset hr)
  up := g.up.sublist h
theorem Good.pl {rs : List (Int × Int)} (g : Good rs) : pl 20 (rowD rs) = true := pl_row (by decide) (Nat.le_trans g.len (by decide))
end K00

set_option maxRecDepth 100000
namespace K00
open PySem L2 Iv PySem.Spec PyProof.Rows
theorem lhands_eq : f__law_hands = f_hands_in := by rfl
theorem var_at {i : Nat} {x : D} {e : Iv.Env} {h : Hs} (he : e[i]? = some (some x)) : mVar i e h = .ok x h := by unfold mVar; rw [he]
theorem map_fst (rs : List (Int × Int)) : (rs.map prD).map fstD = (rs.map (·.1)).map D.int := by rw [List.map_map, List.map_map]; rfl
theorem handsin_ok {rs : List (Int × Int)} (hl : rs.length ≤ 100) : f_hands_in [rowD rs] [] = .ok (hdsD (rs.map (·.1))) [] := by
  refine defR_ret (k := 1) ?_
  have hm : (mComp false (mSrc (mVar 0)) (gNm 1) mYesT (mIx (mVar 1) (mCon (.int 0))) [1]) [some (rowD rs), none] [] = .ok (.lst ((rs.map prD).map fstD)) [] := by
    refine map_comp (xs := rs.map prD) rfl (fun x hx acc => ?_) (fun x hx => ?_) (by rw [List.length_map]; unfold most; omega)
    · obtain ⟨r, _, rfl⟩ := List.mem_map.mp hx
      exact step_t (e := [some (rowD rs), some (prD r)]) rfl rfl rfl rfl
    · obtain ⟨r, _, rfl⟩ := List.mem_map.mp hx
      rfl
  rw [map_fst] at hm
  refine mBi_ok (mCons_ok hm rfl) ?_
  show mkT ((rs.map (·.1)).map D.int) [] = _
  unfold mkT
  rw [if_pos (by rw [List.length_map, List.length_map]; unfold most; omega)]
section
variable {rs : List (Int × Int)} {env : Iv.Env} {h : Hs} {x y : D} {ms : Ms}
theorem handsin_call (hl : rs.length ≤ 100) (hp : h.all plainO = true) (he : env[0]? = some (some (rowD rs))) : mCallP f_hands_in [0] (mCons (mVar 0) mNil) mNil env h = .ok (hdsD (rs.map (·.1))) h :=
  call1 (mCons_ok (var_at he) nil_ok) (lt_row rs) hp (handsin_ok hl) (lt_hds _)
theorem ask_call_t {b : Nat} {i : Nat} (hx : pl b x = true) (hb : b ≤ 100) (ho : okRow x = true) (he : env[i]? = some (some x)) (hp : h.all plainO = true) : sDrop (mCallP f_ask_row [0] (mCons (mVar i) mNil) mNil) env h = .nx env h :=
  sDrop_ok (call1 (mCons_ok (var_at he) nil_ok) (pl_lt x hx) hp (ask_t hx hb ho) rfl)
theorem ask_call_f {b : Nat} {i : Nat} (hx : pl b x = true) (hb : b ≤ 100) (ho : okRow x = false) (he : env[i]? = some (some x)) (hp : h.all plainO = true) : sDrop (mCallP f_ask_row [0] (mCons (mVar i) mNil) mNil) env h = .ex 3 env h :=
  sDrop_ex (ex1 (mCons_ok (var_at he) nil_ok) (pl_lt x hx) hp (ask_f hx hb ho))
end
theorem handsof_ok {rs : List (Int × Int)} (g : Good rs) : f_hands_of [rowD rs] [] = .ok (hdsD (rs.map (·.1))) [] := by
  refine defR_rt (k := 0) ?_
  show m_hands_of [some (rowD rs)] [] = _
  unfold m_hands_of
  rw [sCons_nx (ask_call_t g.pl (by decide) g.row rfl rfl)]
  exact sCons_rt (sRet_ok (handsin_call (Nat.le_trans g.len (by decide)) rfl rfl))
theorem handsof_ex {x : D} {b : Nat} (hx : pl b x = true) (hb : b ≤ 100) (ho : okRow x = false) : f_hands_of [x] [] = .ex 3 [] := by
  refine defR_ex (k := 0) (e' := [some x]) ?_
  show m_hands_of [some x] [] = _
  unfold m_hands_of
  exact sCons_ex (ask_call_f hx hb ho rfl rfl)
theorem ix_ok {a b : M} {env : Iv.Env} {h h1 h2 : Hs} {x y : D} {r : R D} (q1 : a env h = .ok x h1) (q2 : b env h1 = .ok y h2) (q3 : ixD x y h2 = r) : mIx a b env h = r := by
  unfold mIx
  rw [q1]
  dsimp only [R.bind]
  rw [q2]
  exact q3
def gTold (k : Int) (x : D) : Option D := match x with
  | .tup [.int i, v] => if i = k then some v else none
  | _ => none
theorem told_of : ∀ {rs : List (Int × Int)} {r : Int × Int}, rs.Pairwise (fun a b => a.1 < b.1) → r ∈ rs → (rs.map prD).filterMap (gTold r.1) = [.int r.2]
  | a :: rs, r, p, h => by
    have p := List.pairwise_cons.mp p
    rw [List.map_cons]
    rcases List.mem_cons.mp h with rfl | h
    · rw [List.filterMap_cons_some (b := .int r.2) (by show (if r.1 = r.1 then _ else _) = _; rw [if_pos rfl])]
      congr 1
      refine List.filterMap_eq_nil_iff.mpr fun x hx => ?_
      obtain ⟨q, hq, rfl⟩ := List.mem_map.mp hx
      have := p.1 q hq
      show (if q.1 = r.1 then _ else _) = _
      rw [if_neg (by omega)]
    · have := p.1 r h
      rw [List.filterMap_cons_none (by show (if a.1 = r.1 then _ else _) = _; rw [if_neg (by omega)])]
      exact told_of p.2 h
theorem told_ok {rs : List (Int × Int)} {r : Int × Int} (g : Good rs) (hr : r ∈ rs) : f_told_of [rowD rs, .int r.1] [] = .ok (.int r.2) [] := by
  refine defR_ret (k := 1) ?_
  have hc : (mComp false (mSrc (mVar 0)) (gNm 2) (mT (mCmp .Eq (mIx (mVar 2) (mCon (.int 0))) (mVar 1))) (mIx (mVar 2) (mCon (.int 1))) [2]) [some (rowD rs), some (.int r.1), none] [] = .ok (.lst [.int r.2]) [] := by
    refine (comp_ok (xs := rs.map prD) (h1 := []) (gTold r.1) rfl (fun x hx acc => ?_) (by rw [List.length_map]; have := g.len; unfold most; omega)).trans ?_
    · obtain ⟨q, _, rfl⟩ := List.mem_map.mp hx
      have t : (mT (mCmp .Eq (mIx (mVar 2) (mCon (.int 0))) (mVar 1))) [some (rowD rs), some (.int r.1), some (prD q)] ([] ++ [.lst acc]) = .ok (.bl (decide (q.1 = r.1))) ([] ++ [.lst acc]) := mTbl (mCmp_ok (x := .int q.1) (y := .int r.1) (h1 := [] ++ [.lst acc]) rfl rfl cmp_eqI)
      by_cases hq : q.1 = r.1
      · rw [decide_eq_true hq] at t
        rw [show gTold r.1 (prD q) = some (.int q.2) by show (if q.1 = r.1 then _ else _) = _; rw [if_pos hq]]
        exact step_t (e := [some (rowD rs), some (.int r.1), some (prD q)]) rfl t rfl rfl
      · rw [decide_eq_false hq] at t
        rw [show gTold r.1 (prD q) = none by show (if q.1 = r.1 then _ else _) = _; rw [if_neg hq]]
        exact step_f (e := [some (rowD rs), some (.int r.1), some (prD q)]) rfl t
    · rw [told_of g.up hr]
      exact gc_lst rfl rfl
  exact ix_ok hc rfl rfl
theorem isn_ok {x : D} {b : Nat} (hx : pl b x = true) : f_is_number [x] [] = .ok (.bl (isN x)) [] := by
  by_cases hi : ∃ i, x = .int i
  · obtain ⟨i, rfl⟩ := hi
    exact isn_int i
  · have : isN x = false := by
      cases x with
      | int i => exact absurd ⟨i, rfl⟩ hi
      | _ => rfl
    rw [this]
    exact (isn_other hx fun i e => hi ⟨i, e⟩).1
abbrev cVal : M := (mOr (mNot (mCallP f_is_number [0] (mCons (mVar 1) mNil) mNil)) (mCmp .NotIn (mVar 1) (mCallP f_hands_in [0] (mCons (mVar 0) mNil) mNil)))
theorem cval_ok {rs : List (Int × Int)} {i : Int} (hl : rs.length ≤ 100) : cVal [some (rowD rs), some (.int i)] [] = .ok (.bl (!(decide (i ∈ rs.map (·.1))))) [] := by
  refine (mOr_f (mNotb (x := true) (call1 (mCons_ok rfl rfl) rfl rfl (isn_int i) rfl))).trans ?_
  exact mCmp_ok (x := .int i) rfl (handsin_call hl rfl rfl) (notin_of (in_ints i _))
theorem value_ok {rs : List (Int × Int)} {r : Int × Int} (g : Good rs) (hr : r ∈ rs) : f_value_of [rowD rs, .int r.1] [] = .ok (.int r.2) [] := by
  refine defR_rt (k := 0) ?_
  show m_value_of [some (rowD rs), some (.int r.1)] [] = _
  unfold m_value_of
  have c := cval_ok (rs := rs) (i := r.1) (Nat.le_trans g.len (by decide))
  rw [decide_eq_true (List.mem_map.mpr ⟨r, hr, rfl⟩)] at c
  rw [sCons_nx (ask_call_t g.pl (by decide) g.row rfl rfl), sCons_nx (sIf_nx c)]
  exact sCons_rt (sRet_ok (call2 (mCons_ok rfl (mCons_ok rfl rfl)) (lt_row rs) rfl rfl (told_ok g hr) rfl))
theorem value_ex1 {rs : List (Int × Int)} {x : D} {b : Nat} (g : Good rs) (hx : pl b x = true) (hn : ∀ r ∈ rs, x ≠ .int r.1) : f_value_of [rowD rs, x] [] = .ex 1 [] := by
  refine defR_ex (k := 0) (e' := [some (rowD rs), some x]) ?_
  show m_value_of [some (rowD rs), some x] [] = _
  unfold m_value_of
  rw [sCons_nx (ask_call_t g.pl (by decide) g.row rfl rfl)]
  refine sCons_ex (sIf_ex (h1 := []) ?_ rfl)
  cases hi : isN x with
  | false =>
    have q := mNotb (call1 (φ := f_is_number) (ms := mCons (mVar 1) mNil) (env := [some (rowD rs), some x]) (h := []) (h1 := []) (mCons_ok rfl rfl) (pl_lt x hx) rfl (isn_ok hx) rfl)
    rw [hi] at q
    exact mOr_t q
  | true =>
    obtain ⟨i, rfl⟩ := isN_at hi
    have c := cval_ok (rs := rs) (i := i) (Nat.le_trans g.len (by decide))
    rw [decide_eq_false (fun hm => by obtain ⟨r, hr, e⟩ := List.mem_map.mp hm; exact hn r hr (by rw [← e]))] at c
    exact c
theorem value_ex3 {x y : D} {b : Nat} (hx : pl b x = true) (hb : b ≤ 100) (ho : okRow x = false) : f_value_of [x, y] [] = .ex 3 [] := by
  refine defR_ex (k := 0) (e' := [some x, some y]) ?_
  show m_value_of [some x, some y] [] = _
  unfold m_value_of
  exact sCons_ex (ask_call_f hx hb ho rfl rfl)
def itsD : D → List D
  | .tup xs => xs
  | _ => []
def okHof (ns : List Int) (x : D) : Bool := okB x && (itsD x).all fun y => decide (toI y ∈ ns)
theorem okB_tup {x : D} (h : okB x = true) : ∃ ns : List Int, x = hdsD ns := by
  cases x with
  | tup xs =>
    have h' : ((decide ((1 : Int) ≤ xs.length) && decide ((xs.length : Int) ≤ 4)) && (xs.all isH && rise (xs.map toI))) = true := h
    rw [Bool.and_eq_true, Bool.and_eq_true, Bool.and_eq_true] at h'
    obtain ⟨ns, rfl⟩ := all_ints h'.2.1
    exact ⟨ns, rfl⟩
  | _ => cases h
theorem hof_ok {ns : List Int} {x : D} {b : Nat} (hx : pl b x = true) (hb : b ≤ 100) : f_are_hands_of [hdsD ns, x] [] = .ok (.bl (okHof ns x)) [] := by
  refine defR_ret (k := 1) ?_
  have q : mCallP f_are_hands [0] (mCons (mVar 1) mNil) mNil [some (hdsD ns), some x, none] [] = .ok (.bl (okB x)) [] := call1 (mCons_ok rfl rfl) (pl_lt x hx) rfl (areh_ok hx hb) rfl
  unfold okHof
  cases hi : okB x with
  | false => rw [hi] at q; exact mAnd_f q
  | true =>
    rw [hi] at q
    refine (mAnd_t q).trans ?_
    obtain ⟨ms, rfl⟩ := okB_tup hi
    have hl := (tup_of hx).1
    rw [Bool.true_and]
    refine all_comp (xs := ms.map D.int) (p := fun y => decide (toI y ∈ ns)) rfl (fun y hy acc => ?_) (by unfold most; omega)
    obtain ⟨i, _, rfl⟩ := List.mem_map.mp hy
    exact step_t (e := [some (hdsD ns), some (hdsD ms), some (.int i)]) rfl rfl (mCmp_ok (x := .int i) (y := hdsD ns) (h1 := [] ++ [.lst acc]) rfl rfl (in_ints i ns)) rfl
def gPart (ns : List Int) (x : D) : Option D := match x with
  | .tup [.int i, v] => if i ∈ ns then some (.tup [.int i, v]) else none
  | _ => none
theorem part_of (ns : List Int) : ∀ rs : List (Int × Int), (rs.map prD).filterMap (gPart ns) = (rs.filter fun r => decide (r.1 ∈ ns)).map prD
  | [] => rfl
  | r :: rs => by
    rw [List.map_cons]
    by_cases h : r.1 ∈ ns
    · rw [List.filterMap_cons_some (b := prD r) (by show (if r.1 ∈ ns then _ else _) = _; rw [if_pos h]; rfl), List.filter_cons_of_pos (by simpa using h), part_of ns rs]; rfl
    · rw [List.filterMap_cons_none (by show (if r.1 ∈ ns then _ else _) = _; rw [if_neg h]), List.filter_cons_of_neg (by simpa using h), part_of ns rs]
theorem filter_sub : ∀ {rs qs : List (Int × Int)}, rs.Pairwise (fun a b => a.1 < b.1) → qs.Sublist rs → (rs.filter fun r => decide (r.1 ∈ qs.map (·.1))) = qs
  | [], qs, _, h => by cases h; rfl
  | r :: rs, qs, p, h => by
    have p := List.pairwise_cons.mp p
    cases h with
    | cons _ h =>
      rw [List.filter_cons_of_neg (by
        rw [decide_eq_true_eq]
        intro hm
        obtain ⟨q, hq, e⟩ := List.mem_map.mp hm
        have := p.1 q (h.subset hq)
        omega)]
      exact filter_sub p.2 h
    | cons_cons _ h =>
      rename_i qs
      rw [List.filter_cons_of_pos (by rw [decide_eq_true_eq]; exact List.mem_map.mpr ⟨r, List.mem_cons_self, rfl⟩)]
      congr 1
      refine Eq.trans (List.filter_congr fun x hx => ?_) (filter_sub p.2 h)
      apply decide_eq_decide.mpr
      constructor
      · intro hm
        rcases List.mem_cons.mp hm with e | hm
        · have := p.1 x hx
          have e : x.1 = r.1 := e
          omega
        · exact hm
      · exact fun hm => List.mem_cons_of_mem _ hm
theorem with_ok {rs : List (Int × Int)} {ns : List Int} (hl : rs.length ≤ 100) : f_part_with [rowD rs, hdsD ns] [] = .ok (rowD (rs.filter fun r => decide (r.1 ∈ ns))) [] := by
  refine defR_ret (k := 1) ?_
  have hc : (mComp false (mSrc (mVar 0)) (gNm 2) (mT (mCmp .In (mIx (mVar 2) (mCon (.int 0))) (mVar 1))) (mVar 2) [2]) [some (rowD rs), some (hdsD ns), none] [] = .ok (.lst ((rs.filter fun r => decide (r.1 ∈ ns)).map prD)) [] := by
    refine (comp_ok (xs := rs.map prD) (h1 := []) (gPart ns) rfl (fun x hx acc => ?_) (by rw [List.length_map]; unfold most; omega)).trans ?_
    · obtain ⟨q, _, rfl⟩ := List.mem_map.mp hx
      have t : (mT (mCmp .In (mIx (mVar 2) (mCon (.int 0))) (mVar 1))) [some (rowD rs), some (hdsD ns), some (prD q)] ([] ++ [.lst acc]) = .ok (.bl (decide (q.1 ∈ ns))) ([] ++ [.lst acc]) := mTbl (mCmp_ok (x := .int q.1) (y := hdsD ns) (h1 := [] ++ [.lst acc]) rfl rfl (in_ints q.1 ns))
      by_cases hq : q.1 ∈ ns
      · rw [decide_eq_true hq] at t
        rw [show gPart ns (prD q) = some (prD q) by show (if q.1 ∈ ns then _ else _) = _; rw [if_pos hq]; rfl]
        exact step_t (e := [some (rowD rs), some (hdsD ns), some (prD q)]) rfl t rfl rfl
      · rw [decide_eq_false hq] at t
        rw [show gPart ns (prD q) = none by show (if q.1 ∈ ns then _ else _) = _; rw [if_neg hq]]
        exact step_f (e := [some (rowD rs), some (hdsD ns), some (prD q)]) rfl t
    · rw [part_of]
      exact gc_lst rfl (lt_row _)
  refine mBi_ok (mCons_ok hc rfl) ?_
  show mkT _ [] = _
  unfold mkT
  rw [if_pos (by rw [List.length_map]; have := List.length_filter_le (fun r : Int × Int => decide (r.1 ∈ ns)) rs; unfold most; omega)]
  rfl
theorem okB_hds {qs : List (Int × Int)} (g : Good qs) : okB (hdsD (qs.map (·.1))) = true := by
  have h : okRow (rowD qs) = true := g.row
  have h : ((lenOk (qs.map prD) && ((qs.map prD).all isP && okB (.tup ((qs.map prD).map fstD)))) && (qs.map prD).all fun p => isV (sndD p)) = true := h
  rw [Bool.and_eq_true, Bool.and_eq_true, Bool.and_eq_true, map_fst] at h
  exact h.1.2.2
theorem part_ok {rs qs : List (Int × Int)} (g : Good rs) (hs : qs.Sublist rs) (hn : qs ≠ []) : f_part [rowD rs, hdsD (qs.map (·.1))] [] = .ok (rowD qs) [] := by
  have gq := g.sub hs hn
  refine defR_rt (k := 0) ?_
  show m_part [some (rowD rs), some (hdsD (qs.map (·.1)))] [] = _
  unfold m_part
  have ph : pl 20 (hdsD (qs.map (·.1))) = true := by
    show (decide (((qs.map (·.1)).map D.int).length ≤ 20) && pls 20 ((qs.map (·.1)).map D.int)) = true
    rw [List.length_map, List.length_map, decide_eq_true (Nat.le_trans gq.len (by decide)), pls_map fun _ => rfl]; rfl
  have hh : okHof (rs.map (·.1)) (hdsD (qs.map (·.1))) = true := by
    unfold okHof
    rw [okB_hds gq, Bool.true_and]
    refine List.all_eq_true.mpr fun y hy => ?_
    obtain ⟨i, hi, rfl⟩ := List.mem_map.mp hy
    obtain ⟨q, hq, rfl⟩ := List.mem_map.mp hi
    exact decide_eq_true (List.mem_map.mpr ⟨q, hs.subset hq, rfl⟩)
  have c : mCallP f_are_hands_of [0, 1] (mCons (mCallP f_hands_in [0] (mCons (mVar 0) mNil) mNil) (mCons (mVar 1) mNil)) mNil [some (rowD rs), some (hdsD (qs.map (·.1)))] [] = .ok (.bl true) [] := by
    rw [← hh]
    exact call2 (mCons_ok (handsin_call (Nat.le_trans g.len (by decide)) rfl rfl) (mCons_ok rfl rfl)) (lt_hds _) (lt_hds _) rfl (hof_ok ph (by decide)) rfl
  rw [sCons_nx (ask_call_t g.pl (by decide) g.row rfl rfl), sCons_nx (sIf_nx (mNotb c))]
  have w := with_ok (rs := rs) (ns := qs.map (·.1)) (Nat.le_trans g.len (by decide))
  rw [filter_sub g.up hs] at w
  exact sCons_rt (sRet_ok (call2 (mCons_ok rfl (mCons_ok rfl rfl)) (lt_row rs) (lt_hds _) rfl w (lt_row qs)))
theorem part_ex2 {rs : List (Int × Int)} {x : D} {b : Nat} (g : Good rs) (hx : pl b x = true) (hb : b ≤ 100) (hn : okHof (rs.map (·.1)) x = false) : f_part [rowD rs, x] [] = .ex 2 [] := by
  refine defR_ex (k := 0) (e' := [some (rowD rs), some x]) ?_
  show m_part [some (rowD rs), some x] [] = _
  unfold m_part
  have c : mCallP f_are_hands_of [0, 1] (mCons (mCallP f_hands_in [0] (mCons (mVar 0) mNil) mNil) (mCons (mVar 1) mNil)) mNil [some (rowD rs), some x] [] = .ok (.bl false) [] := by
    rw [← hn]
    exact call2 (mCons_ok (handsin_call (Nat.le_trans g.len (by decide)) rfl rfl) (mCons_ok rfl rfl)) (lt_hds _) (pl_lt x hx) rfl (hof_ok hx hb) rfl
  rw [sCons_nx (ask_call_t g.pl (by decide) g.row rfl rfl)]
  exact sCons_ex (sIf_ex (mNotb c) rfl)
theorem part_ex3 {x y : D} {b : Nat} (hx : pl b x = true) (hb : b ≤ 100) (ho : okRow x = false) : f_part [x, y] [] = .ex 3 [] := by
  refine defR_ex (k := 0) (e' := [some x, some y]) ?_
  show m_part [some x, some y] [] = _
  unfold m_part
  exact sCons_ex (ask_call_f hx hb ho rfl rfl)
def inP (qs : List (Int × Int)) (x : D) : Bool := match x with
  | .tup [.int i, .int k] => decide ((i, k) ∈ qs)
  | _ => false
theorem inP_all (ps qs : List (Int × Int)) : (ps.map prD).all (inP qs) = ps.all fun r => decide (r ∈ qs) := by rw [List.all_map]; rfl
theorem ispart_ok {ps qs : List (Int × Int)} (gp : Good ps) (gq : Good qs) : f_is_part [rowD ps, rowD qs] [] = .ok (.bl (ps.all fun r => decide (r ∈ qs))) [] := by
  have w : f_is_within [rowD ps, rowD qs] [] = .ok (.bl (ps.all fun r => decide (r ∈ qs))) [] := by
    refine defR_ret (k := 1) ?_
    rw [← inP_all]
    refine all_comp (xs := ps.map prD) (p := inP qs) rfl (fun y hy acc => ?_) (by rw [List.length_map]; have := gp.len; unfold most; omega)
    obtain ⟨r, _, rfl⟩ := List.mem_map.mp hy
    exact step_t (e := [some (rowD ps), some (rowD qs), some (prD r)]) rfl rfl (mCmp_ok (x := prD r) (y := rowD qs) (h1 := [] ++ [.lst acc]) rfl rfl (in_row r qs)) rfl
  refine defR_rt (k := 0) ?_
  show m_is_part [some (rowD ps), some (rowD qs)] [] = _
  unfold m_is_part
  rw [sCons_nx (ask_call_t gp.pl (by decide) gp.row rfl rfl), sCons_nx (ask_call_t gq.pl (by decide) gq.row rfl rfl)]
  exact sCons_rt (sRet_ok (call2 (mCons_ok rfl (mCons_ok rfl rfl)) (lt_row ps) (lt_row qs) rfl w rfl))
theorem ispart_ex1 {x y : D} {b : Nat} (hx : pl b x = true) (hb : b ≤ 100) (ho : okRow x = false) : f_is_part [x, y] [] = .ex 3 [] := by
  refine defR_ex (k := 0) (e' := [some x, some y]) ?_
  show m_is_part [some x, some y] [] = _
  unfold m_is_part
  exact sCons_ex (ask_call_f hx hb ho rfl rfl)
theorem ispart_ex2 {ps : List (Int × Int)} {y : D} {b : Nat} (g : Good ps) (hy : pl b y = true) (hb : b ≤ 100) (ho : okRow y = false) : f_is_part [rowD ps, y] [] = .ex 3 [] := by
  refine defR_ex (k := 0) (e' := [some (rowD ps), some y]) ?_
  show m_is_part [some (rowD ps), some y] [] = _
  unfold m_is_part
  rw [sCons_nx (ask_call_t g.pl (by decide) g.row rfl rfl)]
  exact sCons_ex (ask_call_f hy hb ho rfl rfl)
theorem lispart_ok {ps qs : List (Int × Int)} (gp : Good ps) : f__law_is_part [rowD ps, rowD qs] [] = .ok (.bl (ps.all fun r => decide (r ∈ qs))) [] := by
  refine defR_ret (k := 1) ?_
  rw [← inP_all]
  refine ones_eq (xs := ps.map prD) (p := inP qs) rfl rfl (fun y hy acc => ?_) (by rw [List.length_map]; have := gp.len; unfold most; omega)
  obtain ⟨r, _, rfl⟩ := List.mem_map.mp hy
  exact step_one (e := [some (rowD ps), some (rowD qs), some (prD r)]) rfl (mTbl (mCmp_ok (x := prD r) (y := rowD qs) (h1 := [] ++ [.lst acc]) rfl rfl (notin_of (in_row r qs))))
end K00

set_option maxRecDepth 100000
namespace K00
open PySem L2 Iv PySem.Spec PyProof.Rows
theorem long_eq : f_by_length = f__law_long := by rfl
abbrev bParts : MS := (sCons (sSet 1 (mOp false .Add (mVar 1) (mComp false (mSrc (mVar 1)) (gNm 3) mYesT (mOp false .Add (mVar 3) (mTup (mCons (mVar 2) mNil))) [3]))) sNil)
abbrev rParts : MS := (sCons (sSet 1 (mLst false (mCons (mTup mNil) mNil))) (sCons (sFor (mSrc (mVar 0)) (gNm 2) bParts) (sCons (sRet (mSortK false f__law_long (mSl false (mVar 1) (mYes (mCon (.int 1))) mNo))) sNil)))
theorem lparts_is : m__law_parts = rParts := by rfl
theorem parts_is : m_parts = sCons (sDrop (mCallP f_ask_row [0] (mCons (mVar 0) mNil) mNil)) rParts := by rfl
theorem add_lst {xs ys : List D} {h : Hs} (hl : xs.length + ys.length ≤ 100000) : opD false .Add (.lst xs) (.lst ys) h = .ok (.lst (xs ++ ys)) h := by
  show mkL false (xs ++ ys) h = _
  unfold mkL
  rw [if_pos (by rw [List.length_append]; unfold most; omega)]; rfl
theorem add_tup {xs ys : List D} {h : Hs} (hl : xs.length + ys.length ≤ 100000) : opD false .Add (.tup xs) (.tup ys) h = .ok (.tup (xs ++ ys)) h := by
  show mkT (xs ++ ys) h = _
  unfold mkT
  rw [if_pos (by rw [List.length_append]; unfold most; omega)]
abbrev eP (R : D) (acc : List (List (Int × Int))) (x2 : Option D) : Iv.Env := [some R, some (.lst (acc.map rowD)), x2, none]
def snocD (r : Int × Int) (x : D) : D := match x with
  | .tup xs => .tup (xs ++ [prD r])
  | d => d
theorem snoc_row (r : Int × Int) (q : List (Int × Int)) : snocD r (rowD q) = rowD (q ++ [r]) := by
  show D.tup (q.map prD ++ [prD r]) = .tup ((q ++ [r]).map prD)
  rw [List.map_append]; rfl
theorem parts_turn {R : D} {acc : List (List (Int × Int))} {r : Int × Int} (hl : acc.length ≤ 1000) (hq : ∀ q ∈ acc, q.length ≤ 1000) : bParts (eP R acc (some (prD r))) [] = .nx (eP R (acc ++ acc.map (· ++ [r])) (some (prD r))) [] := by
  have hc : (mComp false (mSrc (mVar 1)) (gNm 3) mYesT (mOp false .Add (mVar 3) (mTup (mCons (mVar 2) mNil))) [3]) (eP R acc (some (prD r))) [] = .ok (.lst ((acc.map rowD).map (snocD r))) [] := by
    refine map_comp (xs := acc.map rowD) rfl (fun x hx a => ?_) (fun x hx => ?_) (by rw [List.length_map]; unfold most; omega)
    · obtain ⟨q, hq', rfl⟩ := List.mem_map.mp hx
      have := hq q hq'
      refine step_t (e := [some R, some (.lst (acc.map rowD)), some (prD r), some (rowD q)]) rfl rfl ?_ ?_
      · exact mOp_ok (x := rowD q) (y := .tup [prD r]) (h1 := [] ++ [Ob.lst a]) (h2 := [] ++ [Ob.lst a]) rfl rfl (add_tup (xs := q.map prD) (ys := [prD r]) (by rw [List.length_map, List.length_singleton]; omega))
      · rw [snoc_row]
        exact ltD_mono (Nat.zero_le _) _ (lt_row _)
    · obtain ⟨q, _, rfl⟩ := List.mem_map.mp hx
      rw [snoc_row]
      exact lt_row _
  have e1 : (acc.map rowD).map (snocD r) = (acc.map (· ++ [r])).map rowD := by
    rw [List.map_map, List.map_map]
    exact List.map_congr_left fun q _ => snoc_row r q
  rw [e1] at hc
  refine (sCons_nx (sSet_to (d := .lst ((acc ++ acc.map (· ++ [r])).map rowD)) ?_ rfl)).trans rfl
  refine mOp_ok (x := .lst (acc.map rowD)) (h1 := []) rfl hc ?_
  rw [List.map_append]
  exact add_lst (by rw [List.length_map, List.length_map, List.length_map]; omega)
theorem parts_run {R : D} : ∀ (rs dn : List (Int × Int)) (rest : List (List (Int × Int))) (x2 : Option D), (∀ p ∈ rest, p ≠ [] ∧ p.Sublist dn) → (rest.length + 1) * 2 ^ rs.length ≤ 1000 → dn.length + rs.length ≤ 100 →
    ∃ (rest' : List (List (Int × Int))) (y2 : Option D), forL (gNm 2) bParts (rs.map prD) (eP R ([] :: rest) x2) [] = .nx (eP R ([] :: rest') y2) [] ∧ (∀ p ∈ rest', p ≠ [] ∧ p.Sublist (dn ++ rs)) ∧ rest'.length + 1 = (rest.length + 1) * 2 ^ rs.length
  | [], dn, rest, x2, h, hl, _ => ⟨rest, x2, rfl, by rw [List.append_nil]; exact h, by rw [List.length_nil, Nat.pow_zero, Nat.mul_one]⟩
  | r :: rs, dn, rest, x2, h, hl, hd => by
    rw [List.length_cons] at hl hd
    have e2 : (rest.length + 1) * 2 ^ (rs.length + 1) = (2 * (rest.length + 1)) * 2 ^ rs.length := by rw [Nat.pow_succ, Nat.mul_comm 2, Nat.mul_assoc, Nat.mul_comm (2 ^ rs.length)]
    have hp : 1 ≤ 2 ^ rs.length := Nat.one_le_two_pow
    have h1 : 2 * (rest.length + 1) ≤ 1000 := by
      rw [e2] at hl
      exact Nat.le_trans (Nat.le_mul_of_pos_right _ hp) hl
    have t := parts_turn (R := R) (acc := [] :: rest) (r := r) (by rw [List.length_cons]; omega) (fun q hq => by
      rcases List.mem_cons.mp hq with rfl | hq
      · exact Nat.zero_le _
      · have := (h q hq).2.length_le
        omega)
    have e3 : ([] :: rest) ++ ([] :: rest).map (· ++ [r]) = [] :: (rest ++ ([r] :: rest.map (· ++ [r]))) := rfl
    rw [e3] at t
    have h' : ∀ p ∈ rest ++ ([r] :: rest.map (· ++ [r])), p ≠ [] ∧ p.Sublist (dn ++ [r]) := fun p hp => by
      rcases List.mem_append.mp hp with hp | hp
      · exact ⟨(h p hp).1, (h p hp).2.trans (List.sublist_append_left _ _)⟩
      rcases List.mem_cons.mp hp with rfl | hp
      · exact ⟨by simp, List.sublist_append_right _ _⟩
      · obtain ⟨q, hq, rfl⟩ := List.mem_map.mp hp
        exact ⟨by simp, (h q hq).2.append (List.Sublist.refl _)⟩
    have el : (rest ++ ([r] :: rest.map (· ++ [r]))).length + 1 = 2 * (rest.length + 1) := by
      rw [List.length_append, List.length_cons, List.length_map]; omega
    obtain ⟨rest', y2, e, hs, hn⟩ := parts_run (R := R) rs (dn ++ [r]) _ (some (prD r)) h' (by rw [el, ← e2]; exact hl) (by rw [List.length_append, List.length_singleton]; omega)
    refine ⟨rest', y2, ?_, ?_, ?_⟩
    · show (bParts (eP R ([] :: rest) (some (prD r))) []).loop _ = _
      rw [t]
      exact e
    · rw [List.append_assoc] at hs
      exact hs
    · rw [hn, el, List.length_cons, ← e2]
/-! sorting -/
theorem mem_isort {α : Type} {le : α → α → Bool} {z : α} : ∀ {xs : List α}, z ∈ isort le xs → z ∈ xs
  | [], h => h
  | x :: xs, h => by
    rcases mem_ins' h with rfl | h
    · exact List.mem_cons_self
    · exact List.mem_cons_of_mem _ (mem_isort h)
theorem len_ins {α : Type} {le : α → α → Bool} {x : α} : ∀ ys : List α, (ins le x ys).length = ys.length + 1
  | [] => rfl
  | y :: ys => by
    unfold ins
    split
    · rfl
    · rw [List.length_cons, len_ins ys, List.length_cons]
theorem len_isort {α : Type} {le : α → α → Bool} : ∀ xs : List α, (isort le xs).length = xs.length
  | [] => rfl
  | x :: xs => by
    show (ins le x (isort le xs)).length = _
    rw [len_ins, len_isort xs]; rfl
def keyP (p : List (Int × Int)) : PyData := .tuple [.int p.length, rowP p]
theorem noL_row (p : List (Int × Int)) : noL (rowD p) = true := by
  show noLs (p.map prD) = true
  induction p with
  | nil => rfl
  | cons r p ih => show (true && noLs (p.map prD)) = true; rw [ih]; rfl
theorem long_ok (p : List (Int × Int)) : f__law_long [rowD p] [] = .ok (.tup [.int p.length, rowD p]) [] := by
  refine defR_ret (k := 0) ?_
  refine mTup_ok (mCons_ok (d := .int p.length) (h1 := []) ?_ (mCons_ok rfl rfl)) (show 2 ≤ most by decide)
  refine mBi_ok (mCons_ok (h1 := []) rfl rfl) ?_
  show R.ok (D.int ((p.map prD).length : Nat)) [] = _
  rw [List.length_map]
theorem keyD_ok (p : List (Int × Int)) : keyD f__law_long (rowD p) = some (keyP p) := by
  have g : gcR false 0 (f__law_long [rowD p] []) = .ok (.tup [.int p.length, rowD p]) [] := by
    rw [long_ok]
    exact gc_same (h := []) (by show (true && (ltD 0 (rowD p) && true)) = true; rw [lt_row]; rfl)
  unfold keyD
  rw [g]
  show (if noL (.tup [.int p.length, rowD p]) = true then toPy (.tup [.int p.length, rowD p]) else none) = _
  rw [if_pos (by show (true && (noL (rowD p) && true)) = true; rw [noL_row]; rfl)]
  show (toPys [.int p.length, rowD p]).map PyData.tuple = _
  have : toPys [.int p.length, rowD p] = some [.int p.length, rowP p] := by
    show (match toPy (.int p.length), (match toPy (rowD p), toPys [] with | some p, some ps => some (p :: ps) | _, _ => none) with | some p, some ps => some (p :: ps) | _, _ => none) = _
    rw [toPy_row]; rfl
  rw [this]; rfl
theorem keyL_ok : ∀ ps : List (List (Int × Int)), keyL f__law_long (ps.map rowD) = some (ps.map keyP)
  | [] => rfl
  | p :: ps => by
    show (if noL (rowD p) then match keyD f__law_long (rowD p), keyL f__law_long (ps.map rowD) with | some k, some ks => some (k :: ks) | _, _ => none else none) = _
    rw [noL_row, if_pos rfl, keyD_ok, keyL_ok ps]; rfl
theorem alike_rows : ∀ a b : List (Int × Int), PySem.W.alikeAll (a.map prP) (b.map prP) = true
  | [], b => by cases b <;> rfl
  | x :: a, [] => rfl
  | x :: a, y :: b => by
    show (PySem.W.alike (prP x) (prP y) && PySem.W.alikeAll (a.map prP) (b.map prP)) = true
    rw [alike_rows a b]; rfl
theorem alike_key (a b : List (Int × Int)) : PySem.W.alike (keyP a) (keyP b) = true := by
  show (true && (PySem.W.alikeAll (a.map prP) (b.map prP) && true)) = true
  rw [alike_rows]; rfl
theorem goodK_ok (ps : List (List (Int × Int))) : goodK (ps.map keyP) = true := by
  unfold goodK
  rw [Bool.and_eq_true, Bool.and_eq_true]
  refine ⟨⟨?_, ?_⟩, ?_⟩
  · unfold sortP
    rw [Bool.or_eq_true]
    refine .inl (List.all_eq_true.mpr fun x hx => ?_)
    obtain ⟨p, _, rfl⟩ := List.mem_map.mp hx
    rfl
  · refine List.all_eq_true.mpr fun x hx => List.all_eq_true.mpr fun y hy => ?_
    obtain ⟨p, _, rfl⟩ := List.mem_map.mp hx
    obtain ⟨q, _, rfl⟩ := List.mem_map.mp hy
    exact alike_key p q
  · refine List.all_eq_true.mpr fun x hx => ?_
    obtain ⟨p, _, rfl⟩ := List.mem_map.mp hx
    have := dep_row p
    apply decide_eq_true
    show PyData.depthAll [.int p.length, rowP p] + 1 ≤ 60
    simp only [PyData.depthAll, PyData.depth]
    omega
theorem rows_of {rest : List (List (Int × Int))} : ∀ ys : List D, (∀ y ∈ ys, ∃ p ∈ rest, y = rowD p) → ∃ ps : List (List (Int × Int)), ys = ps.map rowD ∧ ∀ p ∈ ps, p ∈ rest
  | [], _ => ⟨[], rfl, fun _ h => nomatch h⟩
  | y :: ys, h => by
    obtain ⟨ps, e, hp⟩ := rows_of ys fun y hy => h y (List.mem_cons_of_mem _ hy)
    obtain ⟨p, hm, rfl⟩ := h y List.mem_cons_self
    refine ⟨p :: ps, by rw [e]; rfl, fun q hq => ?_⟩
    rcases List.mem_cons.mp hq with rfl | hq
    · exact hm
    · exact hp q hq
theorem sort_ok {rest : List (List (Int × Int))} (hl : rest.length ≤ 1000) : ∃ ps : List (List (Int × Int)), sortKD false f__law_long (.lst (rest.map rowD)) [] = .ok (.lst (ps.map rowD)) [] ∧ (∀ p ∈ ps, p ∈ rest) ∧ ps.length = rest.length := by
  obtain ⟨ys, hy⟩ : ∃ ys, ys = (isort (PySem.W.dataLe false fun b : D × PyData => b.2) ((rest.map rowD).zip (rest.map keyP))).map (·.1) := ⟨_, rfl⟩
  have hm : ∀ y ∈ ys, ∃ p ∈ rest, y = rowD p := fun y h => by
    rw [hy] at h
    obtain ⟨z, hz, rfl⟩ := List.mem_map.mp h
    have := (List.of_mem_zip (mem_isort hz)).1
    obtain ⟨p, hp, e⟩ := List.mem_map.mp this
    exact ⟨p, hp, e.symm⟩
  obtain ⟨ps, e, hp⟩ := rows_of ys hm
  have hlen : ys.length = rest.length := by rw [hy, List.length_map, len_isort, List.length_zip, List.length_map, List.length_map, Nat.min_self]
  refine ⟨ps, ?_, hp, by rw [← hlen, e, List.length_map]⟩
  unfold sortKD
  show (match keyL f__law_long (rest.map rowD) with | some ks => if goodK ks && decide ((rest.map rowD).length ≤ most) then mkL false ((isort (PySem.W.dataLe false fun b : D × PyData => b.2) ((rest.map rowD).zip ks)).map (fun b : D × PyData => b.1)) [] else .bad | none => .bad) = _
  rw [keyL_ok]
  dsimp only
  rw [← hy, goodK_ok, Bool.true_and, if_pos (decide_eq_true (by rw [List.length_map]; unfold most; omega)), e]
  unfold mkL
  rw [if_pos (by rw [← e, hlen]; unfold most; omega)]; rfl
theorem rparts_ok {rs : List (Int × Int)} (g : Good rs) : ∃ ps : List (List (Int × Int)), ps ≠ [] ∧ ps.length ≤ 100 ∧ (∀ p ∈ ps, p ≠ [] ∧ p.Sublist rs) ∧ rParts [some (rowD rs), none, none, none] [] = .rt (.lst (ps.map rowD)) [] := by
  have h2 : (2 : Nat) ^ rs.length ≤ 2 ^ 4 := Nat.pow_le_pow_right (by decide) g.len
  obtain ⟨rest, y2, e, hs, hn⟩ := parts_run (R := rowD rs) rs [] [] none (fun p h => nomatch h) (by simp; omega) (by have := g.len; simp; omega)
  have hn : rest.length + 1 = 2 ^ rs.length := by simpa using hn
  obtain ⟨ps, e2, hp, hl⟩ := sort_ok (rest := rest) (by omega)
  refine ⟨ps, ?_, by omega, fun p h => ?_, ?_⟩
  · rintro rfl
    have h3 : 0 < rs.length := List.length_pos_iff.mpr g.ne
    have : (2 : Nat) ^ 1 ≤ 2 ^ rs.length := Nat.pow_le_pow_right (by decide) h3
    rw [List.length_nil] at hl
    omega
  · have := hs p (hp p h)
    rw [List.nil_append] at this
    exact this
  · unfold rParts
    rw [sCons_nx (sSet_to (d := .lst ([[]].map rowD)) (e' := eP (rowD rs) [[]] none) (by rfl) rfl)]
    refine (sCons_nx (e' := eP (rowD rs) ([] :: rest) y2) (h' := []) ?_).trans ?_
    · exact e
    · refine sCons_rt (sRet_ok ?_)
      have sl : (mSl false (mVar 1) (mYes (mCon (.int 1))) mNo) (eP (rowD rs) ([] :: rest) y2) [] = .ok (.lst (rest.map rowD)) [] := by
        show mkL false (Iv.cutD (([] :: rest).map rowD) (some 1) none) [] = _
        rw [cut1]
        unfold mkL
        rw [if_pos (by show (rest.map rowD).length ≤ most; rw [List.length_map]; unfold most; omega)]; rfl
      unfold mSortK
      rw [sl]
      exact e2
theorem parts_ok {rs : List (Int × Int)} (g : Good rs) : ∃ ps : List (List (Int × Int)), ps ≠ [] ∧ ps.length ≤ 100 ∧ (∀ p ∈ ps, p ≠ [] ∧ p.Sublist rs) ∧ f__law_parts [rowD rs] [] = .ok (.lst (ps.map rowD)) [] ∧ f_parts [rowD rs] [] = .ok (.lst (ps.map rowD)) [] := by
  obtain ⟨ps, h1, h2, h3, e⟩ := rparts_ok g
  refine ⟨ps, h1, h2, h3, defR_rt (k := 3) ?_, defR_rt (k := 3) ?_⟩
  · show m__law_parts [some (rowD rs), none, none, none] [] = _
    rw [lparts_is]
    exact e
  · show m_parts [some (rowD rs), none, none, none] [] = _
    rw [parts_is, sCons_nx (ask_call_t g.pl (by decide) g.row rfl rfl)]
    exact e
theorem parts_ex {x : D} {b : Nat} (hx : pl b x = true) (hb : b ≤ 100) (ho : okRow x = false) : f_parts [x] [] = .ex 3 [] := by
  refine defR_ex (k := 3) (e' := [some x, none, none, none]) ?_
  show m_parts [some x, none, none, none] [] = _
  rw [parts_is]
  exact sCons_ex (ask_call_f hx hb ho rfl rfl)
end K00

set_option maxRecDepth 100000
namespace K00
open PySem L2 Iv PySem.Spec PyProof.Rows
theorem cl1 {tl : Hs} {acc : List D} (hc : Iv.Cl tl) (ha : ltDs 0 acc = true) : Iv.Cl (tl ++ [.lst acc]) := hc.app fun o ho => by
  rw [List.mem_singleton.mp ho]
  exact ltDs_mono (Nat.zero_le _) _ ha
theorem hcl {s : Iv.St} {tl : Hs} (hc : Iv.Cl tl) : (s.hp tl).all (ltO (s.hp tl).length) = true := St.cl hc
theorem lt_app {xs ys : List D} (h1 : ltDs 0 xs = true) (h2 : ltDs 0 ys = true) : ltDs 0 (xs ++ ys) = true := by
  induction xs with
  | nil => exact h2
  | cons x xs ih =>
    unfold ltDs at h1
    rw [Bool.and_eq_true] at h1
    show (ltD 0 x && ltDs 0 (xs ++ ys)) = true
    rw [h1.1, ih h1.2]; rfl
/-- a comprehension whose turns draw -/
theorem draw_run {mt : MTg} {mc me : M} {env : Iv.Env} {tl : Hs} {P : D → D → Prop} (hc : Iv.Cl tl) : ∀ (xs acc : List D) (s : Iv.St), s.ok → ltDs 0 acc = true → acc.length + xs.length < 1000 →
    (∀ x ∈ xs, ∀ (s : Iv.St) (tl' : Hs), s.ok → Iv.Cl tl' → ∃ (s' : Iv.St) (o : Option D), s'.ok ∧ (∀ y, o = some y → ltD 0 y = true ∧ P x y) ∧ Iv.step mt mc me env x (s.hp tl') = .ok o (s'.hp tl')) →
    ∃ (s' : Iv.St) (ys : List D), s'.ok ∧ ltDs 0 ys = true ∧ (∀ y ∈ ys, ∃ x ∈ xs, P x y) ∧ ys.length ≤ xs.length ∧ compL (turnL (tl.length + 2) (Iv.step mt mc me env)) xs (s.hp (tl ++ [.lst acc])) = some (s'.hp (tl ++ [.lst (acc ++ ys)]))
  | [], acc, s, hok, _, _, _ => ⟨s, [], hok, rfl, (fun y h => nomatch h), Nat.le_refl _, by rw [List.append_nil]; rfl⟩
  | x :: xs, acc, s, hok, ha, hl, hst => by
    rw [List.length_cons] at hl
    obtain ⟨s1, o, g1, ho, e1⟩ := hst x List.mem_cons_self s _ hok (cl1 hc ha)
    cases o with
    | none =>
      obtain ⟨s2, ys, g2, ly, py, lq, e2⟩ := draw_run hc xs acc s1 g1 ha (by omega) fun z hz => hst z (List.mem_cons_of_mem _ hz)
      refine ⟨s2, ys, g2, ly, fun y hy => ?_, by rw [List.length_cons]; omega, ?_⟩
      · obtain ⟨z, hz, p⟩ := py y hy
        exact ⟨z, List.mem_cons_of_mem _ hz, p⟩
      · unfold compL turnL
        rw [e1]
        exact e2
    | some y =>
      obtain ⟨ly1, p1⟩ := ho y rfl
      have la : ltDs 0 (acc ++ [y]) = true := lt_app ha (lt1 ly1)
      obtain ⟨s2, ys, g2, ly, py, lq, e2⟩ := draw_run hc xs (acc ++ [y]) s1 g1 la (by rw [List.length_append, List.length_singleton]; omega) fun z hz => hst z (List.mem_cons_of_mem _ hz)
      refine ⟨s2, y :: ys, g2, by show (ltD 0 y && ltDs 0 ys) = true; rw [ly1, ly]; rfl, fun w hw => ?_, by rw [List.length_cons, List.length_cons]; omega, ?_⟩
      · rcases List.mem_cons.mp hw with rfl | hw
        · exact ⟨x, List.mem_cons_self, p1⟩
        · obtain ⟨z, hz, p⟩ := py w hw
          exact ⟨z, List.mem_cons_of_mem _ hz, p⟩
      · unfold compL turnL
        rw [e1]
        dsimp only
        have ep : push (tl.length + 2) (some y) (s1.hp (tl ++ [.lst acc])) = some (s1.hp (tl ++ [.lst (acc ++ [y])])) := push_ok (h := s1.hp tl) (acc := acc) (y := y) (by unfold most; omega)
        rw [ep]
        show compL (turnL (tl.length + 2) (Iv.step mt mc me env)) xs (s1.hp (tl ++ [.lst (acc ++ [y])])) = _
        rw [e2, List.append_assoc]; rfl
inductive All2 {α : Type} (Q : α → D → Prop) : List α → List D → Prop
  | nil : All2 Q [] []
  | cons {a : α} {y : D} {as : List α} {ys : List D} : Q a y → All2 Q as ys → All2 Q (a :: as) (y :: ys)
/-- each turn gives one: in step with what is gone through -/
theorem each_run {mt : MTg} {mc me : M} {env : Iv.Env} {tl : Hs} {α : Type} {f : α → D} {Q : α → D → Prop} (hc : Iv.Cl tl) : ∀ (as : List α) (acc : List D) (s : Iv.St), s.ok → ltDs 0 acc = true → acc.length + as.length < 1000 →
    (∀ a ∈ as, ∀ (s : Iv.St) (tl' : Hs), s.ok → Iv.Cl tl' → ∃ (s' : Iv.St) (y : D), s'.ok ∧ ltD 0 y = true ∧ Q a y ∧ Iv.step mt mc me env (f a) (s.hp tl') = .ok (some y) (s'.hp tl')) →
    ∃ (s' : Iv.St) (ys : List D), s'.ok ∧ ltDs 0 ys = true ∧ All2 Q as ys ∧ compL (turnL (tl.length + 2) (Iv.step mt mc me env)) (as.map f) (s.hp (tl ++ [.lst acc])) = some (s'.hp (tl ++ [.lst (acc ++ ys)]))
  | [], acc, s, hok, _, _, _ => ⟨s, [], hok, rfl, .nil, by rw [List.append_nil]; rfl⟩
  | a :: as, acc, s, hok, ha, hl, hst => by
    rw [List.length_cons] at hl
    obtain ⟨s1, y, g1, ly1, p1, e1⟩ := hst a List.mem_cons_self s _ hok (cl1 hc ha)
    have la : ltDs 0 (acc ++ [y]) = true := lt_app ha (lt1 ly1)
    obtain ⟨s2, ys, g2, ly, py, e2⟩ := each_run hc as (acc ++ [y]) s1 g1 la (by rw [List.length_append, List.length_singleton]; omega) fun z hz => hst z (List.mem_cons_of_mem _ hz)
    refine ⟨s2, y :: ys, g2, by show (ltD 0 y && ltDs 0 ys) = true; rw [ly1, ly]; rfl, .cons p1 py, ?_⟩
    rw [List.map_cons]
    unfold compL turnL
    rw [e1]
    dsimp only
    have ep : push (tl.length + 2) (some y) (s1.hp (tl ++ [.lst acc])) = some (s1.hp (tl ++ [.lst (acc ++ [y])])) := push_ok (h := s1.hp tl) (acc := acc) (y := y) (by unfold most; omega)
    rw [ep]
    show compL (turnL (tl.length + 2) (Iv.step mt mc me env)) (as.map f) (s1.hp (tl ++ [.lst (acc ++ [y])])) = _
    rw [e2, List.append_assoc]; rfl
theorem each_comp {mi : MI} {mt : MTg} {mc me : M} {own : List Nat} {env : Iv.Env} {tl : Hs} {α : Type} {f : α → D} {Q : α → D → Prop} {as : List α} {s : Iv.St} (hc : Iv.Cl tl) (hs : mi env (s.hp tl) = .ok (.fix (as.map f)) (s.hp tl)) (hok : s.ok) (hl : as.length < 1000)
    (hst : ∀ a ∈ as, ∀ (s : Iv.St) (tl' : Hs), s.ok → Iv.Cl tl' → ∃ (s' : Iv.St) (y : D), s'.ok ∧ ltD 0 y = true ∧ Q a y ∧ Iv.step mt mc me (wipeE env own) (f a) (s.hp tl') = .ok (some y) (s'.hp tl')) :
    ∃ (s' : Iv.St) (ys : List D), s'.ok ∧ ltDs 0 ys = true ∧ All2 Q as ys ∧ mComp false mi mt mc me own env (s.hp tl) = .ok (.lst ys) (s'.hp tl) := by
  obtain ⟨s', ys, g, ly, py, e⟩ := each_run (tl := tl) hc as [] s hok rfl (by simp; omega) hst
  refine ⟨s', ys, g, ly, py, ?_⟩
  unfold mComp
  rw [hs]
  show fin false (tl.length + 2) (compL (turnL (tl.length + 2) (Iv.step mt mc me (wipeE env own))) (as.map f) (s.hp (tl ++ [.lst []]))) = _
  rw [e]
  exact gc_lst (h := s'.hp tl) (hcl hc) ly
/-- a comprehension that draws nothing, wherever -/
theorem map_compH {mi : MI} {mt : MTg} {mc me : M} {own : List Nat} {env : Iv.Env} {h : Hs} {xs : List D} {f : D → D} (hh : h.all (ltO h.length) = true) (hs : mi env h = .ok (.fix xs) h) (hst : ∀ x ∈ xs, ∀ acc, Iv.step mt mc me (wipeE env own) x (h ++ [.lst acc]) = .ok (some (f x)) (h ++ [.lst acc])) (hf : ∀ x ∈ xs, ltD 0 (f x) = true) (hl : xs.length < most) :
    (mComp false mi mt mc me own) env h = .ok (.lst (xs.map f)) h := by
  have hc := (comp_ok (m := false) (h := h) (h1 := h) (fun x => some (f x)) hs hst hl).trans (gc_lst hh (by rw [filterMap_some]; exact ltDs_of _ fun d hd => by obtain ⟨x, hx, rfl⟩ := List.mem_map.mp hd; exact hf x hx))
  rw [filterMap_some] at hc
  exact hc
/-! what the draws give -/
theorem shufs_sub : ∀ (n : Nat) (xs : List Int), xs.length = n → ∀ ys ∈ shufs n xs, ys.length = n ∧ ∀ y ∈ ys, y ∈ xs
  | 0, xs, h, ys, hy => by
    have : ys = [] := by simpa [shufs] using hy
    subst this
    exact ⟨rfl, (fun y h => nomatch h)⟩
  | n + 1, xs, h, ys, hy => by
    unfold shufs at hy
    obtain ⟨i, hi, hy⟩ := List.mem_flatMap.mp hy
    obtain ⟨zs, hz, rfl⟩ := List.mem_map.mp hy
    have hi := List.mem_range.mp hi
    obtain ⟨e1, e2⟩ := shufs_sub n (xs.eraseIdx i) (by rw [List.length_eraseIdx, if_pos hi]; omega) zs hz
    refine ⟨by rw [List.length_cons, e1], fun y hm => ?_⟩
    rcases List.mem_cons.mp hm with rfl | hm
    · rw [List.getD_eq_getElem?_getD, List.getElem?_eq_getElem hi]
      exact List.getElem_mem hi
    · exact List.mem_of_mem_eraseIdx (e2 y hm)
theorem ins_ints (le : D → D → Bool) (x : Int) : ∀ ys : List Int, ∃ zs : List Int, ins le (.int x) (ys.map .int) = zs.map .int
  | [] => ⟨[x], rfl⟩
  | y :: ys => by
    obtain ⟨zs, e⟩ := ins_ints le x ys
    by_cases h : le (.int x) (.int y) = true
    · exact ⟨x :: y :: ys, by rw [List.map_cons]; unfold ins; rw [if_pos h]; rfl⟩
    · exact ⟨y :: zs, by rw [List.map_cons]; unfold ins; rw [if_neg h, e]; rfl⟩
theorem isort_ints (le : D → D → Bool) : ∀ ns : List Int, ∃ zs : List Int, isort le (ns.map .int) = zs.map .int
  | [] => ⟨[], rfl⟩
  | x :: xs => by
    obtain ⟨zs, e⟩ := isort_ints le xs
    obtain ⟨ws, e2⟩ := ins_ints le x zs
    exact ⟨ws, by rw [← e2, ← e]; rfl⟩
theorem map_all {α β : Type} {f : α → β} {p : β → Bool} {xs : List α} (h : ∀ x ∈ xs, p (f x) = true) : (xs.map f).all p = true := by
  rw [List.all_map]
  exact List.all_eq_true.mpr h
theorem sortI_ok {ns : List Int} (hl : ns.length ≤ 1000) (h : Hs) : ∃ zs : List Int, biF false .sorted [.lst (ns.map .int)] h = .ok (.lst (zs.map .int)) h ∧ zs.length = ns.length ∧ ∀ z ∈ zs, z ∈ ns := by
  obtain ⟨zs, e⟩ := isort_ints (PySem.W.dataLe false enc) ns
  have hlen : zs.length = ns.length := by
    have := congrArg List.length e
    rwa [len_isort, List.length_map, List.length_map, eq_comm] at this
  refine ⟨zs, ?_, hlen, fun z hz => ?_⟩
  · show srt false (ns.map .int) h = _
    unfold srt
    have c1 : ((ns.map D.int).all fun d => (toPy d).isSome) = true := map_all fun _ _ => rfl
    have c2 : sortable (ns.map .int) = true := by
      unfold sortable
      rw [Bool.or_eq_true]
      exact .inr (map_all fun _ _ => rfl)
    have c3 : alikes (ns.map .int) = true := by
      unfold alikes
      exact map_all fun _ _ => map_all fun _ _ => rfl
    have c4 : ((ns.map D.int).all fun d => decide ((enc d).depth ≤ 60)) = true := map_all fun _ _ => by
      show decide (PyData.depth (.int _) ≤ 60) = true
      exact decide_eq_true (by simp [PyData.depth])
    rw [c1, c2, c3, c4]
    show mkL false (isort (PySem.W.dataLe false enc) (ns.map .int)) h = _
    rw [e]
    unfold mkL
    rw [if_pos (by rw [List.length_map, hlen]; unfold most; omega)]
    rfl
  · have : D.int z ∈ isort (PySem.W.dataLe false enc) (ns.map .int) := by rw [e]; exact List.mem_map.mpr ⟨z, hz, rfl⟩
    obtain ⟨n, hn, en⟩ := List.mem_map.mp (mem_isort this)
    cases en
    exact hn
theorem pick_run {xs : List D} {ms : Ms} {env : Iv.Env} {s : Iv.St} {tl : Hs} (h0 : 0 < xs.length) (h1 : xs.length < 1000) (hx : ltDs 0 xs = true) (hs : s.ok) (hc : Iv.Cl tl) (e1 : ms env (s.hp tl) = .ok [.ref 1, .lst xs] (s.hp tl)) :
    ∃ (s' : Iv.St) (d : D), s'.ok ∧ d ∈ xs ∧ ltD 0 d = true ∧ mCallX f__law_pick false [0, 1] ms mNil env (s.hp tl) = .ok d (s'.hp tl) := by
  obtain ⟨s1, d, g1, ld, hd, e⟩ := callX_con (φ := pickF) (perm := [0, 1]) (ms := ms) (mk := mNil) (env := env) (h := s.hp tl) (ds := [.ref 1, .lst xs]) (es := []) (pick_con h0 (by omega) hx) e1 rfl hs hc
  refine ⟨s1, d, g1, hd, ld, ?_⟩
  rw [pick_eq]
  exact e
theorem take_run {n : Int} {ms : Ms} {env : Iv.Env} {s : Iv.St} {tl : Hs} (h0 : 0 < n) (h1 : n < 1073741824) (hs : s.ok) (hc : Iv.Cl tl) (e1 : ms env (s.hp tl) = .ok [.ref 1, .int n] (s.hp tl)) :
    ∃ (s' : Iv.St) (k : Int), s'.ok ∧ 0 ≤ k ∧ k < n ∧ mCallX f__law_take false [0, 1] ms mNil env (s.hp tl) = .ok (.int k) (s'.hp tl) := by
  obtain ⟨s1, d, g1, _, ⟨k, rfl, k0, k1⟩, e⟩ := callX_con (φ := takeF) (perm := [0, 1]) (ms := ms) (mk := mNil) (env := env) (h := s.hp tl) (ds := [.ref 1, .int n]) (es := []) (take_con h0 h1) e1 rfl hs hc
  refine ⟨s1, k, g1, k0, k1, ?_⟩
  rw [take_eq]
  exact e
end K00

set_option maxRecDepth 100000
namespace K00
open PySem L2 Iv PySem.Spec PyProof.Rows
theorem gc_draw {s s' : Iv.St} {tl : Hs} {y : D} (hy : ltD 0 y = true) : gcR false (s.hp tl).length (.ok y (s'.hp tl)) = .ok y (s'.hp tl) := gc_same (h := s'.hp tl) (ltD_mono (Nat.zero_le _) _ hy)
theorem step_draw {mt : MTg} {mc me : M} {env e : Iv.Env} {x y : D} {s s' : Iv.St} {tl : Hs} (ht : mt x env = some e) (hc : mc e (s.hp tl) = .ok (.bl true) (s.hp tl)) (he : me e (s.hp tl) = .ok y (s'.hp tl)) (hy : ltD 0 y = true) : Iv.step mt mc me env x (s.hp tl) = .ok (some y) (s'.hp tl) := by
  unfold Iv.step
  rw [ht]
  dsimp only
  rw [hc, gc_bl]
  dsimp only
  rw [he, gc_draw hy]
theorem step_filt {mt : MTg} {mc me : M} {env e : Iv.Env} {x y : D} {b : Bool} {s s' : Iv.St} {tl : Hs} (ht : mt x env = some e) (hc : mc e (s.hp tl) = .ok (.bl b) (s'.hp tl)) (he : me e (s'.hp tl) = .ok y (s'.hp tl)) (hy : ltD 0 y = true) : Iv.step mt mc me env x (s.hp tl) = .ok (if b = true then some y else none) (s'.hp tl) := by
  unfold Iv.step
  rw [ht]
  dsimp only
  rw [hc, gc_draw (y := .bl b) rfl]
  cases b with
  | false => rfl
  | true =>
    dsimp only
    rw [he, gc_draw hy]
    rfl
theorem filt_run {mt : MTg} {mc me : M} {env : Iv.Env} {tl : Hs} {α : Type} {f : α → D} {must : α → Prop} (hc : Iv.Cl tl) (hf : ∀ a, ltD 0 (f a) = true) : ∀ (as : List α) (acc : List D) (s : Iv.St), s.ok → ltDs 0 acc = true → acc.length + as.length < 1000 →
    (∀ a ∈ as, ∀ (s : Iv.St) (tl' : Hs), s.ok → Iv.Cl tl' → ∃ (s' : Iv.St) (b : Bool), s'.ok ∧ (must a → b = true) ∧ Iv.step mt mc me env (f a) (s.hp tl') = .ok (if b = true then some (f a) else none) (s'.hp tl')) →
    ∃ (s' : Iv.St) (bs : List α), s'.ok ∧ bs.Sublist as ∧ (∀ a ∈ as, must a → a ∈ bs) ∧ compL (turnL (tl.length + 2) (Iv.step mt mc me env)) (as.map f) (s.hp (tl ++ [.lst acc])) = some (s'.hp (tl ++ [.lst (acc ++ bs.map f)]))
  | [], acc, s, hok, _, _, _ => ⟨s, [], hok, .slnil, (fun a h => nomatch h), by rw [List.map_nil, List.append_nil]; rfl⟩
  | a :: as, acc, s, hok, ha, hl, hst => by
    rw [List.length_cons] at hl
    obtain ⟨s1, b, g1, hm, e1⟩ := hst a List.mem_cons_self s _ hok (cl1 hc ha)
    cases b with
    | false =>
      obtain ⟨s2, bs, g2, sb, mu, e2⟩ := filt_run hc hf as acc s1 g1 ha (by omega) fun z hz => hst z (List.mem_cons_of_mem _ hz)
      refine ⟨s2, bs, g2, sb.cons _, fun z hz h => ?_, ?_⟩
      · rcases List.mem_cons.mp hz with rfl | hz
        · exact absurd (hm h) (by decide)
        · exact mu z hz h
      · rw [List.map_cons]
        unfold compL turnL
        rw [e1]
        exact e2
    | true =>
      have la : ltDs 0 (acc ++ [f a]) = true := lt_app ha (lt1 (hf a))
      obtain ⟨s2, bs, g2, sb, mu, e2⟩ := filt_run hc hf as (acc ++ [f a]) s1 g1 la (by rw [List.length_append, List.length_singleton]; omega) fun z hz => hst z (List.mem_cons_of_mem _ hz)
      refine ⟨s2, a :: bs, g2, sb.cons_cons _, fun z hz h => ?_, ?_⟩
      · rcases List.mem_cons.mp hz with rfl | hz
        · exact List.mem_cons_self
        · exact List.mem_cons_of_mem _ (mu z hz h)
      · rw [List.map_cons]
        unfold compL turnL
        rw [e1]
        show (push (tl.length + 2) (some (f a)) (s1.hp (tl ++ [.lst acc]))).bind _ = _
        have ep : push (tl.length + 2) (some (f a)) (s1.hp (tl ++ [.lst acc])) = some (s1.hp (tl ++ [.lst (acc ++ [f a])])) := push_ok (h := s1.hp tl) (acc := acc) (y := f a) (by unfold most; omega)
        rw [ep]
        show compL (turnL (tl.length + 2) (Iv.step mt mc me env)) (as.map f) (s1.hp (tl ++ [.lst (acc ++ [f a])])) = _
        rw [e2, List.append_assoc]; rfl
theorem filt_comp {mi : MI} {mt : MTg} {mc me : M} {own : List Nat} {env : Iv.Env} {tl : Hs} {α : Type} {f : α → D} {must : α → Prop} {as : List α} {s : Iv.St} (hc : Iv.Cl tl) (hf : ∀ a, ltD 0 (f a) = true) (hs : mi env (s.hp tl) = .ok (.fix (as.map f)) (s.hp tl)) (hok : s.ok) (hl : as.length < 1000)
    (hst : ∀ a ∈ as, ∀ (s : Iv.St) (tl' : Hs), s.ok → Iv.Cl tl' → ∃ (s' : Iv.St) (b : Bool), s'.ok ∧ (must a → b = true) ∧ Iv.step mt mc me (wipeE env own) (f a) (s.hp tl') = .ok (if b = true then some (f a) else none) (s'.hp tl')) :
    ∃ (s' : Iv.St) (bs : List α), s'.ok ∧ bs.Sublist as ∧ (∀ a ∈ as, must a → a ∈ bs) ∧ mComp false mi mt mc me own env (s.hp tl) = .ok (.lst (bs.map f)) (s'.hp tl) := by
  obtain ⟨s', bs, g, sb, mu, e⟩ := filt_run (tl := tl) hc hf as [] s hok rfl (by simp; omega) hst
  refine ⟨s', bs, g, sb, mu, ?_⟩
  unfold mComp
  rw [hs]
  show fin false (tl.length + 2) (compL (turnL (tl.length + 2) (Iv.step mt mc me (wipeE env own))) (as.map f) (s.hp (tl ++ [.lst []]))) = _
  rw [e]
  exact gc_lst (h := s'.hp tl) (hcl hc) (ltDs_of _ fun d hd => by obtain ⟨a, _, rfl⟩ := List.mem_map.mp hd; exact hf a)
def firsts : List Int := [0, 0, 3, 990, 999999960]
def offs : List Int := [0, 1, 2, 3, 5, 8, 13, 21, 34]
theorem cut3 (xs : List D) : Iv.cutD xs none (some 3) = xs.take 3 := by
  unfold Iv.cutD
  rw [HT.sIx_none, show HT.sIx xs.length xs.length (some 3) = min 3 xs.length from HT.sIx_nat _ _ 3, List.drop_zero, Nat.sub_zero]
  by_cases h : xs.length ≤ 3
  · rw [Nat.min_eq_right h, List.take_length, List.take_of_length_le h]
  · rw [Nat.min_eq_left (by omega)]
theorem values_con : Con f__law_values [.ref 1, .int 3] fun d => ∃ vs : List Int, d = .lst (vs.map .int) ∧ vs.length = 3 ∧ ∀ v ∈ vs, 0 ≤ v ∧ v ≤ 999999999 := fun s tl hs hc => by
  obtain ⟨s1, d, g1, hd, _, e1⟩ := pick_run (xs := firsts.map .int) (ms := (mCons (mVar 0) (mCons (mLst false (mCons (mCon (.int 0)) (mCons (mCon (.int 0)) (mCons (mCon (.int 3)) (mCons (mCon (.int 990)) (mCons (mOp false .Sub (mOp false .Pow (mCon (.int 10)) (mCon (.int 9))) (mCon (.int 40))) mNil)))))) mNil))) (env := [some (.ref 1), some (.int 3), none, none]) (by decide) (by decide) rfl hs hc (by rfl)
  obtain ⟨w, hw, rfl⟩ := List.mem_map.mp hd
  have hw2 : 0 ≤ w ∧ w ≤ 999999960 := by
    have : (firsts.all fun w => decide (0 ≤ w ∧ w ≤ 999999960)) = true := by decide
    exact of_decide_eq_true (List.all_eq_true.mp this w hw)
  have e2 : (mComp false (mSrc (mTup (mCons (mCon (.int 0)) (mCons (mCon (.int 1)) (mCons (mCon (.int 2)) (mCons (mCon (.int 3)) (mCons (mCon (.int 5)) (mCons (mCon (.int 8)) (mCons (mCon (.int 13)) (mCons (mCon (.int 21)) (mCons (mCon (.int 34)) mNil))))))))))) (gNm 3) mYesT (mOp false .Add (mVar 2) (mVar 3)) [3]) [some (.ref 1), some (.int 3), some (.int w), none] (s1.hp tl) = .ok (.lst ((offs.map D.int).map fun x => D.int (w + toI x))) (s1.hp tl) := by
    refine map_compH (hcl hc) (xs := offs.map D.int) (by rfl) (fun x hx acc => ?_) (fun x hx => rfl) (by decide)
    obtain ⟨k, _, rfl⟩ := List.mem_map.mp hx
    exact step_t (e := [some (.ref 1), some (.int 3), some (.int w), some (.int k)]) rfl rfl rfl rfl
  have e3 : (offs.map D.int).map (fun x => D.int (w + toI x)) = (offs.map (w + ·)).map D.int := by rw [List.map_map, List.map_map]; rfl
  rw [e3] at e2
  obtain ⟨s2, d2, g2, _, ⟨ys, rfl, hy⟩, e4⟩ := callX_con (φ := shufF) (perm := [0, 1]) (ms := (mCons (mVar 0) (mCons (mComp false (mSrc (mTup (mCons (mCon (.int 0)) (mCons (mCon (.int 1)) (mCons (mCon (.int 2)) (mCons (mCon (.int 3)) (mCons (mCon (.int 5)) (mCons (mCon (.int 8)) (mCons (mCon (.int 13)) (mCons (mCon (.int 21)) (mCons (mCon (.int 34)) mNil))))))))))) (gNm 3) mYesT (mOp false .Add (mVar 2) (mVar 3)) [3]) mNil))) (mk := mNil) (env := [some (.ref 1), some (.int 3), some (.int w), none]) (h := s1.hp tl) (ds := [.ref 1, .lst ((offs.map (w + ·)).map D.int)]) (es := [])
    (shuf_con (show 9 < 100 by decide)) (mCons_ok rfl (mCons_ok e2 rfl)) rfl g1 hc
  obtain ⟨yl, ym⟩ := shufs_sub _ _ rfl ys hy
  have yl : ys.length = 9 := yl
  have e5 : (mSl false (mCallX f__law_shuffled false [0, 1] (mCons (mVar 0) (mCons (mComp false (mSrc (mTup (mCons (mCon (.int 0)) (mCons (mCon (.int 1)) (mCons (mCon (.int 2)) (mCons (mCon (.int 3)) (mCons (mCon (.int 5)) (mCons (mCon (.int 8)) (mCons (mCon (.int 13)) (mCons (mCon (.int 21)) (mCons (mCon (.int 34)) mNil))))))))))) (gNm 3) mYesT (mOp false .Add (mVar 2) (mVar 3)) [3]) mNil)) mNil) mNo (mYes (mVar 1))) [some (.ref 1), some (.int 3), some (.int w), none] (s1.hp tl) = .ok (.lst ((ys.take 3).map D.int)) (s2.hp tl) := by
    unfold mSl
    rw [shuf_eq, e4]
    show mkL false (Iv.cutD (ys.map D.int) none (some 3)) (s2.hp tl) = _
    rw [cut3, ← List.map_take]
    unfold mkL
    rw [if_pos (by rw [List.length_map, List.length_take]; unfold most; omega)]; rfl
  obtain ⟨zs, e6, zl, zm⟩ := sortI_ok (ns := ys.take 3) (by rw [List.length_take]; omega) (s2.hp tl)
  refine ⟨s2, .lst (zs.map .int), g2, ltDs_ints _ _, ⟨zs, rfl, by rw [zl, List.length_take, yl]; rfl, fun v hv => ?_⟩, gc_frozen (j := []) hc (ltDs_ints _ _) ?_⟩
  · have := ym v (List.mem_of_mem_take (zm v hv))
    obtain ⟨k, hk, rfl⟩ := List.mem_map.mp this
    have : (offs.all fun w => decide (0 ≤ w ∧ w ≤ 34)) = true := by decide
    have := of_decide_eq_true (List.all_eq_true.mp this k hk)
    omega
  · rw [List.append_nil]
    refine defR_rt (k := 2) ?_
    show m__law_values [some (.ref 1), some (.int 3), none, none] _ = _
    unfold m__law_values
    rw [sCons_nx (sSet_to (e' := [some (.ref 1), some (.int 3), some (.int w), none]) e1 rfl)]
    exact sCons_rt (sRet_ok (mBi_ok (mCons_ok e5 rfl) e6))
abbrev four : List Int := [0, 1, 2, 3]
theorem some_con : Con f__law_some_hands [.ref 1, .int 4] fun d => ∃ ns : List Int, d = hdsD ns ∧ ns.Sublist four ∧ ns ≠ [] := fun s tl hs hc => by
  obtain ⟨s1, k, g1, k0, k1, e1⟩ := take_run (n := 4) (ms := (mCons (mVar 0) (mCons (mVar 1) mNil))) (env := [some (.ref 1), some (.int 4), none, none]) (by decide) (by decide) hs hc (by rfl)
  obtain ⟨s2, bs, g2, sb, mu, e2⟩ := filt_comp (mi := (mRng1 (mCons (mVar 1) mNil))) (mt := gNm 3) (mc := (mT (mOr (mCmp .Eq (mVar 3) (mVar 2)) (mCmp .Eq (mCallX f__law_take false [0, 1] (mCons (mVar 0) (mCons (mCon (.int 2)) mNil)) mNil) (mCon (.int 0)))))) (me := mVar 3) (own := [3]) (env := [some (.ref 1), some (.int 4), some (.int k), none]) (f := D.int) (must := fun a => a = k) (as := four) (s := s1) hc (fun _ => rfl) (by rfl) g1 (by decide) (fun a ha s tl' hs hc => by
    have c1 : (mCmp .Eq (mVar 3) (mVar 2)) [some (.ref 1), some (.int 4), some (.int k), some (.int a)] (s.hp tl') = .ok (.bl (decide (a = k))) (s.hp tl') := mCmp_ok (x := .int a) (y := .int k) (h1 := s.hp tl') rfl rfl cmp_eqI
    by_cases h : a = k
    · rw [decide_eq_true h] at c1
      exact ⟨s, true, hs, fun _ => rfl, step_filt (e := [some (.ref 1), some (.int 4), some (.int k), some (.int a)]) rfl (mTbl (mOr_t c1)) rfl rfl⟩
    · rw [decide_eq_false h] at c1
      obtain ⟨s', j, g', _, _, e'⟩ := take_run (n := 2) (ms := (mCons (mVar 0) (mCons (mCon (.int 2)) mNil))) (env := [some (.ref 1), some (.int 4), some (.int k), some (.int a)]) (by decide) (by decide) hs hc (by rfl)
      exact ⟨s', decide (j = 0), g', fun z => absurd z h, step_filt (e := [some (.ref 1), some (.int 4), some (.int k), some (.int a)]) rfl (mTbl ((mOr_f c1).trans (mCmp_ok e' rfl cmp_eqI))) rfl rfl⟩)
  refine ⟨s2, hdsD bs, g2, lt_hds bs, ⟨bs, rfl, sb, ?_⟩, gc_frozen (j := []) hc (lt_hds bs) ?_⟩
  · rintro rfl
    have : k ∈ four := by
      have : k = 0 ∨ k = 1 ∨ k = 2 ∨ k = 3 := by omega
      rcases this with rfl | rfl | rfl | rfl <;> decide
    exact absurd (mu k this rfl) (by simp)
  · rw [List.append_nil]
    refine defR_rt (k := 2) ?_
    show m__law_some_hands [some (.ref 1), some (.int 4), none, none] _ = _
    unfold m__law_some_hands
    rw [sCons_nx (sSet_to (e' := [some (.ref 1), some (.int 4), some (.int k), none]) e1 rfl)]
    refine sCons_rt (sRet_ok (mBi_ok (mCons_ok e2 rfl) ?_))
    show mkT (bs.map D.int) _ = _
    unfold mkT
    rw [if_pos (by have := sb.length_le; rw [List.length_map]; unfold most; have : four.length = 4 := rfl; omega)]
theorem rows_all2 {α : Type} {hd : α → Int} {R : Int → Prop} : ∀ {as : List α} {ys : List D}, All2 (fun a y => ∃ v, R v ∧ y = prD (hd a, v)) as ys → ∃ rs : List (Int × Int), ys = rs.map prD ∧ rs.map (·.1) = as.map hd ∧ ∀ r ∈ rs, R r.2
  | [], _, .nil => ⟨[], rfl, rfl, (fun r h => nomatch h)⟩
  | a :: as, _, .cons p q => by
    obtain ⟨v, hv, rfl⟩ := p
    obtain ⟨rs, rfl, h1, h2⟩ := rows_all2 q
    refine ⟨(hd a, v) :: rs, rfl, by rw [List.map_cons, List.map_cons, h1], fun r hr => ?_⟩
    rcases List.mem_cons.mp hr with rfl | hr
    · exact hv
    · exact h2 r hr
theorem row_con {ns vs : List Int} (hn : ns.length ≤ 100) (h0 : 0 < vs.length) (h1 : vs.length < 1000) : Con f__law_row [.ref 1, hdsD ns, .lst (vs.map .int)] fun d => ∃ rs : List (Int × Int), d = rowD rs ∧ rs.map (·.1) = ns ∧ ∀ r ∈ rs, r.2 ∈ vs := fun s tl hs hc => by
  obtain ⟨s1, ys, g1, ly, hy, e1⟩ := each_comp (mi := mSrc (mVar 1)) (mt := gNm 3) (mc := mYesT) (me := (mTup (mCons (mVar 3) (mCons (mCallX f__law_pick false [0, 1] (mCons (mVar 0) (mCons (mVar 2) mNil)) mNil) mNil)))) (own := [3]) (env := [some (.ref 1), some (hdsD ns), some (.lst (vs.map .int)), none]) (f := D.int) (Q := fun a y => ∃ v, v ∈ vs ∧ y = prD (a, v)) (as := ns) (s := s) hc (by rfl) hs (by omega) (fun a ha s tl' hs hc => by
    obtain ⟨s', d, g', hd, _, e'⟩ := pick_run (xs := vs.map .int) (ms := (mCons (mVar 0) (mCons (mVar 2) mNil))) (env := [some (.ref 1), some (hdsD ns), some (.lst (vs.map .int)), some (.int a)]) (by rw [List.length_map]; exact h0) (by rw [List.length_map]; exact h1) (ltDs_ints _ _) hs hc (by rfl)
    obtain ⟨v, hv, rfl⟩ := List.mem_map.mp hd
    exact ⟨s', prD (a, v), g', rfl, ⟨v, hv, rfl⟩, step_draw (e := [some (.ref 1), some (hdsD ns), some (.lst (vs.map .int)), some (.int a)]) rfl rfl (mTup_ok (mCons_ok rfl (mCons_ok e' rfl)) (show 2 ≤ most by decide)) rfl⟩)
  obtain ⟨rs, rfl, h2, h3⟩ := rows_all2 (hd := fun a => a) (R := fun v => v ∈ vs) hy
  rw [List.map_id'] at h2
  refine ⟨s1, rowD rs, g1, lt_row rs, ⟨rs, rfl, h2, h3⟩, gc_frozen (j := []) hc (lt_row rs) ?_⟩
  rw [List.append_nil]
  refine defR_rt (k := 1) ?_
  show m__law_row [some (.ref 1), some (hdsD ns), some (.lst (vs.map .int)), none] _ = _
  unfold m__law_row
  refine sCons_rt (sRet_ok (mBi_ok (mCons_ok e1 rfl) ?_))
  show mkT (rs.map prD) _ = _
  have hl : rs.length = ns.length := by rw [← h2, List.length_map]
  unfold mkT
  rw [if_pos (by rw [List.length_map, hl]; unfold most; omega)]
  rfl
end K00

set_option maxRecDepth 100000
namespace K00
open PySem L2 Iv PySem.Spec PyProof.Rows
theorem dict0 {env : Iv.Env} {h : Hs} (hc : h.all (ltO h.length) = true) : mDict false [] env h = .ok (.dct [] []) h := by
  show (match (h ++ [Ob.dic [] []])[h.length]? with | some (.dic [] []) => gcR false h.length (.ok (.ref h.length) ((h ++ [Ob.dic [] []]).set h.length (.dic [] []))) | _ => .bad) = _
  rw [List.getElem?_append_right (Nat.le_refl _), Nat.sub_self, List.set_append_right _ _ (Nat.le_refl _), Nat.sub_self]
  exact gc_dct hc rfl
abbrev vl (i : Int) : D := .int i
def odd1 (a : Int × Int) (rest : List (Int × Int)) : List D := [.non, vl 5, .tup [], .str ("row" : Str), .dct [] [], .lst ((a :: rest).map prD), rowD ((a :: rest) ++ [a]), rowD ((a :: rest) ++ [(3, 0), (3, 1)]), .tup [.tup [vl a.1]], .tup [.tup [vl a.1, vl a.2, vl 0]]]
def odd2 (a : Int × Int) (rest : List (Int × Int)) : List D := [.tup (.lst [vl a.1, vl a.2] :: rest.map prD), rowD ((a.1, -1) :: rest), rowD ((a.1, 1000000000) :: rest), rowD ((-1, a.2) :: a :: rest)]
def odd3 (a : Int × Int) (rest : List (Int × Int)) : List D := [.tup [.tup [vl 4, vl a.2]], .tup [.tup [.bl true, vl a.2]], .tup [.tup [vl a.1, .bl true]], .tup (.tup [vl a.1, .non] :: rest.map prD), .tup [.tup [.str ("0" : Str), vl a.2]], .tup [vl a.1, vl a.2]]
def odd4 (a : Int × Int) (rest : List (Int × Int)) : List D := [rowD (rest ++ [a] ++ [a])]
def oddL (a : Int × Int) (rest : List (Int × Int)) : List D := odd1 a rest ++ odd2 a rest ++ odd3 a rest ++ odd4 a rest
theorem okRow_mem {ps : List D} (h : okRow (.tup ps) = true) : ∀ p ∈ ps, isP p = true ∧ isH (fstD p) = true ∧ isV (sndD p) = true := fun p hp => by
  have h : ((lenOk ps && (ps.all isP && okB (.tup (ps.map fstD)))) && ps.all fun p => isV (sndD p)) = true := h
  rw [Bool.and_eq_true, Bool.and_eq_true, Bool.and_eq_true] at h
  obtain ⟨⟨h0, h1, h2⟩, h3⟩ := h
  have h2 : ((decide ((1 : Int) ≤ (ps.map fstD).length) && decide (((ps.map fstD).length : Int) ≤ 4)) && ((ps.map fstD).all isH && rise ((ps.map fstD).map toI))) = true := h2
  rw [Bool.and_eq_true, Bool.and_eq_true, Bool.and_eq_true, List.all_map] at h2
  exact ⟨List.all_eq_true.mp h1 p hp, List.all_eq_true.mp h2.2.1 p hp, List.all_eq_true.mp h3 p hp⟩
theorem okRow_up {rs : List (Int × Int)} (h : okRow (rowD rs) = true) : (rs.map (·.1)).Pairwise (· < ·) := by
  rw [okRow_rowD] at h
  unfold okI at h
  simp only [Bool.and_eq_true] at h
  exact (rise_iff _).mp h.2.1.2
theorem no_mem {ps : List D} {p : D} (hm : p ∈ ps) (hn : (isP p && (isH (fstD p) && isV (sndD p))) = false) : okRow (.tup ps) = false := by
  cases h : okRow (.tup ps) with
  | false => rfl
  | true =>
    obtain ⟨h1, h2, h3⟩ := okRow_mem h p hm
    rw [h1, h2, h3] at hn
    cases hn
theorem no_up {rs : List (Int × Int)} (hn : ¬ (rs.map (·.1)).Pairwise (· < ·)) : okRow (rowD rs) = false := by
  cases h : okRow (rowD rs) with
  | false => rfl
  | true => exact absurd (okRow_up h) hn
theorem up_app {xs : List Int} {a b : Int} {ys : List Int} (h : (xs ++ ys).Pairwise (· < ·)) (ha : a ∈ xs) (hb : b ∈ ys) : a < b := (List.pairwise_append.mp h).2.2 a ha b hb
theorem odd_bad {a : Int × Int} {rest : List (Int × Int)} (g : Good (a :: rest)) : ∀ d ∈ oddL a rest, pl 20 d = true ∧ okRow d = false := by
  have hl : rest.length ≤ 3 := by have := g.len; rw [List.length_cons] at this; omega
  have pr : pls 20 (rest.map prD) = true := pls_map (fun r => pl_pr r (by decide)) rest
  have ptup : ∀ x : D, pl 20 x = true → pl 20 (.tup (x :: rest.map prD)) = true := fun x hx => by
    show (decide ((rest.map prD).length + 1 ≤ 20) && (pl 20 x && pls 20 (rest.map prD))) = true
    rw [List.length_map, decide_eq_true (by omega), hx, pr]; rfl
  have prow : ∀ rs : List (Int × Int), rs.length ≤ 20 → pl 20 (rowD rs) = true := fun rs h => pl_row (by decide) h
  intro d hd
  unfold oddL odd1 odd2 odd3 odd4 at hd
  simp only [List.mem_append, List.mem_cons, List.not_mem_nil, or_false] at hd
  rcases hd with ((hd | hd) | hd) | hd
  · rcases hd with rfl | rfl | rfl | rfl | rfl | rfl | rfl | rfl | rfl | rfl
    · exact ⟨rfl, rfl⟩
    · exact ⟨rfl, rfl⟩
    · exact ⟨rfl, by decide⟩
    · exact ⟨rfl, rfl⟩
    · exact ⟨rfl, rfl⟩
    · refine ⟨?_, rfl⟩
      show (decide (((a :: rest).map prD).length ≤ 20) && pls 20 ((a :: rest).map prD)) = true
      rw [List.length_map, List.length_cons, decide_eq_true (by omega), pls_map fun r => pl_pr r (by decide)]; rfl
    · refine ⟨prow _ (by simp; omega), no_up fun h => ?_⟩
      rw [List.map_append] at h
      have := up_app h (a := a.1) (b := a.1) (by simp) (by simp)
      omega
    · refine ⟨prow _ (by simp; omega), no_up fun h => ?_⟩
      rw [List.map_append] at h
      have := (List.pairwise_append.mp h).2.1
      exact absurd this (by decide)
    · exact ⟨rfl, no_mem (p := .tup [vl a.1]) (by simp) rfl⟩
    · exact ⟨rfl, no_mem (p := .tup [vl a.1, vl a.2, vl 0]) (by simp) rfl⟩
  · rcases hd with rfl | rfl | rfl | rfl
    · exact ⟨ptup _ rfl, no_mem (p := .lst [vl a.1, vl a.2]) (by simp) rfl⟩
    · refine ⟨prow _ (by simp; omega), no_mem (p := prD (a.1, -1)) (by simp) ?_⟩
      show (true && (isH (.int a.1) && false)) = false
      rw [Bool.and_false]; rfl
    · refine ⟨prow _ (by simp; omega), no_mem (p := prD (a.1, 1000000000)) (by simp) ?_⟩
      show (true && (isH (.int a.1) && false)) = false
      rw [Bool.and_false]; rfl
    · exact ⟨prow _ (by simp; omega), no_mem (p := prD (-1, a.2)) (by simp) rfl⟩
  · rcases hd with rfl | rfl | rfl | rfl | rfl | rfl
    · exact ⟨rfl, no_mem (p := .tup [vl 4, vl a.2]) (by simp) rfl⟩
    · exact ⟨rfl, no_mem (p := .tup [.bl true, vl a.2]) (by simp) rfl⟩
    · refine ⟨rfl, no_mem (p := .tup [vl a.1, .bl true]) (by simp) ?_⟩
      show (true && (isH (.int a.1) && false)) = false
      rw [Bool.and_false]; rfl
    · refine ⟨ptup _ rfl, no_mem (p := .tup [vl a.1, .non]) (by simp) ?_⟩
      show (true && (isH (.int a.1) && false)) = false
      rw [Bool.and_false]; rfl
    · exact ⟨rfl, no_mem (p := .tup [.str ("0" : Str), vl a.2]) (by simp) rfl⟩
    · exact ⟨rfl, no_mem (p := vl a.1) (by simp) rfl⟩
  · subst hd
    refine ⟨prow _ (by simp; omega), no_up fun h => ?_⟩
    rw [List.map_append] at h
    have := up_app h (a := a.1) (b := a.1) (by simp) (by simp)
    omega
abbrev eO (a : Int × Int) (rest : List (Int × Int)) (x2 : Option D) : Iv.Env := [some (.ref 1), some (rowD (a :: rest)), x2, some (vl a.1), some (vl a.2)]
abbrev xO1 : M := (mLst false (mCons (mCon .non) (mCons (mCon (.int 5)) (mCons (mTup mNil) (mCons (mCon (.str ("row" : Str))) (mCons (mDict false []) (mCons (mListA false (mCons (mVar 1) mNil)) (mCons (mOp false .Add (mVar 1) (mTup (mCons (mIx (mVar 1) (mCon (.int 0))) mNil))) (mCons (mOp false .Add (mVar 1) (mTup (mCons (mTup (mCons (mCon (.int 3)) (mCons (mCon (.int 0)) mNil))) (mCons (mTup (mCons (mCon (.int 3)) (mCons (mCon (.int 1)) mNil))) mNil)))) (mCons (mTup (mCons (mTup (mCons (mVar 3) mNil)) mNil)) (mCons (mTup (mCons (mTup (mCons (mVar 3) (mCons (mVar 4) (mCons (mCon (.int 0)) mNil)))) mNil)) mNil)))))))))))
abbrev xO2 : M := (mOp false .Add (mVar 2) (mLst false (mCons (mOp false .Add (mTup (mCons (mLst false (mCons (mVar 3) (mCons (mVar 4) mNil))) mNil)) (mSl false (mVar 1) (mYes (mCon (.int 1))) mNo)) (mCons (mOp false .Add (mTup (mCons (mTup (mCons (mVar 3) (mCons (mNeg (mCon (.int 1))) mNil))) mNil)) (mSl false (mVar 1) (mYes (mCon (.int 1))) mNo)) (mCons (mOp false .Add (mTup (mCons (mTup (mCons (mVar 3) (mCons (mOp false .Pow (mCon (.int 10)) (mCon (.int 9))) mNil))) mNil)) (mSl false (mVar 1) (mYes (mCon (.int 1))) mNo)) (mCons (mOp false .Add (mTup (mCons (mTup (mCons (mNeg (mCon (.int 1))) (mCons (mVar 4) mNil))) mNil)) (mVar 1)) mNil))))))
abbrev xO3 : M := (mOp false .Add (mVar 2) (mLst false (mCons (mTup (mCons (mTup (mCons (mCon (.int 4)) (mCons (mVar 4) mNil))) mNil)) (mCons (mTup (mCons (mTup (mCons (mCon (.bl true)) (mCons (mVar 4) mNil))) mNil)) (mCons (mTup (mCons (mTup (mCons (mVar 3) (mCons (mCon (.bl true)) mNil))) mNil)) (mCons (mOp false .Add (mTup (mCons (mTup (mCons (mVar 3) (mCons (mCon .non) mNil))) mNil)) (mSl false (mVar 1) (mYes (mCon (.int 1))) mNo)) (mCons (mTup (mCons (mTup (mCons (mCon (.str ("0" : Str))) (mCons (mVar 4) mNil))) mNil)) (mCons (mTup (mCons (mVar 3) (mCons (mVar 4) mNil))) mNil))))))))
abbrev xO4 : M := (mOp false .Add (mVar 2) (mLst false (mCons (mOp false .Add (mOp false .Add (mSl false (mVar 1) (mYes (mCon (.int 1))) mNo) (mSl false (mVar 1) mNo (mYes (mCon (.int 1))))) (mSl false (mVar 1) mNo (mYes (mCon (.int 1))))) mNil)))
abbrev msT : Ms := (mCons (mListA false (mCons (mVar 1) mNil)) (mCons (mOp false .Add (mVar 1) (mTup (mCons (mIx (mVar 1) (mCon (.int 0))) mNil))) (mCons (mOp false .Add (mVar 1) (mTup (mCons (mTup (mCons (mCon (.int 3)) (mCons (mCon (.int 0)) mNil))) (mCons (mTup (mCons (mCon (.int 3)) (mCons (mCon (.int 1)) mNil))) mNil)))) (mCons (mTup (mCons (mTup (mCons (mVar 3) mNil)) mNil)) (mCons (mTup (mCons (mTup (mCons (mVar 3) (mCons (mVar 4) (mCons (mCon (.int 0)) mNil)))) mNil)) mNil)))))
theorem oddrow_is : m__law_odd_row = sCons (sAsg (gTp 2 (gCs (gNm 3) (gCs (gNm 4) gNo))) (mIx (mVar 1) (mCon (.int 0)))) (sCons (sSet 2 xO1) (sCons (sSet 2 xO2) (sCons (sSet 2 xO3) (sCons (sRet (mCallX f__law_pick false [0, 1] (mCons (mVar 0) (mCons xO4 mNil)) mNil)) sNil)))) := by rfl
section
variable {a : Int × Int} {rest : List (Int × Int)} {h : Hs}
theorem len4 {P : List (Int × Int) → Prop} (h0 : P []) (h1 : ∀ b, P [b]) (h2 : ∀ b c, P [b, c]) (h3 : ∀ b c d, P [b, c, d]) : ∀ rest : List (Int × Int), rest.length ≤ 3 → P rest
  | [], _ => h0
  | [b], _ => h1 b
  | [b, c], _ => h2 b c
  | [b, c, d], _ => h3 b c d
  | b :: c :: d :: e :: r, h => by simp only [List.length_cons] at h; omega
theorem xO1_ok (hh : h.all (ltO h.length) = true) (hr : rest.length ≤ 3) : xO1 (eO a rest none) h = .ok (.lst (odd1 a rest)) h := by
  refine mLst_ok ?_ (show 10 ≤ most by decide)
  unfold odd1
  refine mCons_ok rfl (mCons_ok rfl (mCons_ok rfl (mCons_ok rfl (mCons_ok (dict0 hh) ?_))))
  exact len4 (P := fun rest => msT (eO a rest none) h = R.ok [.lst ((a :: rest).map prD), rowD ((a :: rest) ++ [a]), rowD ((a :: rest) ++ [(3, 0), (3, 1)]), .tup [.tup [vl a.1]], .tup [.tup [vl a.1, vl a.2, vl 0]]] h) rfl (fun b => rfl) (fun b c => rfl) (fun b c d => rfl) rest hr
theorem asgO_ok (hr : rest.length ≤ 3) : (sAsg (gTp 2 (gCs (gNm 3) (gCs (gNm 4) gNo))) (mIx (mVar 1) (mCon (.int 0)))) [some (.ref 1), some (rowD (a :: rest)), none, none, none] h = .nx (eO a rest none) h :=
  len4 (P := fun rest => (sAsg (gTp 2 (gCs (gNm 3) (gCs (gNm 4) gNo))) (mIx (mVar 1) (mCon (.int 0)))) [some (.ref 1), some (rowD (a :: rest)), none, none, none] h = .nx (eO a rest none) h) rfl (fun b => rfl) (fun b c => rfl) (fun b c d => rfl) rest hr
theorem xO2_ok (hr : rest.length ≤ 3) : xO2 (eO a rest (some (.lst (odd1 a rest)))) h = .ok (.lst (odd1 a rest ++ odd2 a rest)) h :=
  len4 (P := fun rest => xO2 (eO a rest (some (.lst (odd1 a rest)))) h = .ok (.lst (odd1 a rest ++ odd2 a rest)) h) rfl (fun b => rfl) (fun b c => rfl) (fun b c d => rfl) rest hr
theorem xO3_ok (hr : rest.length ≤ 3) : xO3 (eO a rest (some (.lst (odd1 a rest ++ odd2 a rest)))) h = .ok (.lst (odd1 a rest ++ odd2 a rest ++ odd3 a rest)) h :=
  len4 (P := fun rest => xO3 (eO a rest (some (.lst (odd1 a rest ++ odd2 a rest)))) h = .ok (.lst (odd1 a rest ++ odd2 a rest ++ odd3 a rest)) h) rfl (fun b => rfl) (fun b c => rfl) (fun b c d => rfl) rest hr
theorem xO4_ok (hr : rest.length ≤ 3) : xO4 (eO a rest (some (.lst (odd1 a rest ++ odd2 a rest ++ odd3 a rest)))) h = .ok (.lst (oddL a rest)) h :=
  len4 (P := fun rest => xO4 (eO a rest (some (.lst (odd1 a rest ++ odd2 a rest ++ odd3 a rest)))) h = .ok (.lst (oddL a rest)) h) rfl (fun b => rfl) (fun b c => rfl) (fun b c d => rfl) rest hr
end
theorem oddrow_con {rs : List (Int × Int)} (g : Good rs) : Con f__law_odd_row [.ref 1, rowD rs] fun d => pl 20 d = true ∧ okRow d = false := fun s tl hs hc => by
  cases rs with
  | nil => exact absurd rfl g.ne
  | cons a rest =>
    have hr : rest.length ≤ 3 := by have := g.len; rw [List.length_cons] at this; omega
    have hb := odd_bad g
    have lt : ltDs 0 (oddL a rest) = true := ltDs_of _ fun d hd => pl_lt d (hb d hd).1
    obtain ⟨s1, d, g1, hd, ld, e⟩ := pick_run (xs := oddL a rest) (ms := mCons (mVar 0) (mCons xO4 mNil)) (env := eO a rest (some (.lst (odd1 a rest ++ odd2 a rest ++ odd3 a rest)))) (by unfold oddL odd1; simp) (by unfold oddL odd1 odd2 odd3 odd4; simp) lt hs hc (mCons_ok rfl (mCons_ok (xO4_ok hr) rfl))
    refine ⟨s1, d, g1, ld, hb d hd, gc_frozen (j := []) hc ld ?_⟩
    rw [List.append_nil]
    refine defR_rt (k := 3) ?_
    show m__law_odd_row [some (.ref 1), some (rowD (a :: rest)), none, none, none] _ = _
    rw [oddrow_is]
    refine (sCons_nx (asgO_ok hr)).trans ?_
    rw [sCons_nx (sSet_to (e' := eO a rest (some (.lst (odd1 a rest)))) (xO1_ok (hcl hc) hr) rfl), sCons_nx (sSet_to (e' := eO a rest (some (.lst (odd1 a rest ++ odd2 a rest)))) (xO2_ok hr) rfl), sCons_nx (sSet_to (e' := eO a rest (some (.lst (odd1 a rest ++ odd2 a rest ++ odd3 a rest)))) (xO3_ok hr) rfl)]
    exact sCons_rt (sRet_ok e)
end K00

set_option maxRecDepth 100000
namespace K00
open PySem L2 Iv PySem.Spec PyProof.Rows
def miss (cand ns : List Int) : List Int := cand.filter fun k => !(decide (k ∈ ns))
def gMiss (ns : List Int) (x : D) : Option D := match x with
  | .int k => if k ∈ ns then none else some (.int k)
  | _ => none
theorem miss_of (ns : List Int) : ∀ cand : List Int, (cand.map D.int).filterMap (gMiss ns) = (miss cand ns).map D.int
  | [] => rfl
  | k :: cand => by
    rw [List.map_cons]
    unfold miss
    by_cases h : k ∈ ns
    · rw [List.filterMap_cons_none (by show (if k ∈ ns then _ else _) = _; rw [if_pos h]), List.filter_cons_of_neg (by simpa using h)]
      exact miss_of ns cand
    · rw [List.filterMap_cons_some (b := .int k) (by show (if k ∈ ns then _ else _) = _; rw [if_neg h]), List.filter_cons_of_pos (by simpa using h), List.map_cons]
      congr 1
      exact miss_of ns cand
theorem miss_ok {mi : MI} {mt : MTg} {mc me : M} {own : List Nat} {env : Iv.Env} {h : Hs} {cand ns : List Int} (hh : h.all (ltO h.length) = true) (hs : mi env h = .ok (.fix (cand.map .int)) h) (hl : cand.length < most)
    (hst : ∀ (k : Int) (acc : List D), ∃ e, mt (.int k) (wipeE env own) = some e ∧ mc e (h ++ [.lst acc]) = .ok (.bl (!(decide (k ∈ ns)))) (h ++ [.lst acc]) ∧ me e (h ++ [.lst acc]) = .ok (.int k) (h ++ [.lst acc])) :
    mComp false mi mt mc me own env h = .ok (.lst ((miss cand ns).map .int)) h := by
  refine (comp_ok (xs := cand.map D.int) (h1 := h) (gMiss ns) hs (fun x hx acc => ?_) (by rw [List.length_map]; exact hl)).trans ?_
  · obtain ⟨k, _, rfl⟩ := List.mem_map.mp hx
    obtain ⟨e, e1, e2, e3⟩ := hst k acc
    by_cases hk : k ∈ ns
    · rw [decide_eq_true hk] at e2
      rw [show gMiss ns (.int k) = none by show (if k ∈ ns then _ else _) = _; rw [if_pos hk]]
      exact step_f e1 e2
    · rw [decide_eq_false hk] at e2
      rw [show gMiss ns (.int k) = some (.int k) by show (if k ∈ ns then _ else _) = _; rw [if_neg hk]]
      exact step_t e1 e2 e3 rfl
  · rw [miss_of]
    exact gc_lst hh (ltDs_ints _ _)
def oddH1 (ns : List Int) : List D := [.non, vl 5, .tup [], .lst (ns.map .int), hdsD (ns ++ ns.drop (ns.length - 1)), hdsD (ns ++ [9]), hdsD (-1 :: ns), .tup [.str ("0" : Str)], .tup [.non], .dct [] [], .str ("0" : Str)]
def oddH2 (ns : List Int) : List D := (miss four ns).map fun k => .tup [vl k]
def oddH3 (ns : List Int) : List D := [if 1 < ns.length then hdsD ns.reverse else .tup [.bl true, vl 5]]
def oddH (ns : List Int) : List D := oddH1 ns ++ oddH2 ns ++ oddH3 ns
def sub15 : List (List Int) := [[0], [1], [2], [3], [0, 1], [0, 2], [0, 3], [1, 2], [1, 3], [2, 3], [0, 1, 2], [0, 1, 3], [0, 2, 3], [1, 2, 3], [0, 1, 2, 3]]
theorem sub_mem {ns : List Int} (h : ns.Sublist four) (hn : ns ≠ []) : ns ∈ sub15 := by
  have h : ns.Sublist [0, 1, 2, 3] := h
  cases h with
  | cons _ h => cases h with
    | cons _ h => cases h with
      | cons _ h => cases h with
        | cons _ h => cases h; exact absurd rfl hn
        | cons_cons _ h => cases h; decide
      | cons_cons _ h => cases h with
        | cons _ h => cases h; decide
        | cons_cons _ h => cases h; decide
    | cons_cons _ h => cases h with
      | cons _ h => cases h with
        | cons _ h => cases h; decide
        | cons_cons _ h => cases h; decide
      | cons_cons _ h => cases h with
        | cons _ h => cases h; decide
        | cons_cons _ h => cases h; decide
  | cons_cons _ h => cases h with
    | cons _ h => cases h with
      | cons _ h => cases h with
        | cons _ h => cases h; decide
        | cons_cons _ h => cases h; decide
      | cons_cons _ h => cases h with
        | cons _ h => cases h; decide
        | cons_cons _ h => cases h; decide
    | cons_cons _ h => cases h with
      | cons _ h => cases h with
        | cons _ h => cases h; decide
        | cons_cons _ h => cases h; decide
      | cons_cons _ h => cases h with
        | cons _ h => cases h; decide
        | cons_cons _ h => cases h; decide
theorem oddH_fin : (sub15.all fun ns => (oddH ns).all fun d => pl 20 d && !(okHof ns d)) = true := by kernel_rfl
abbrev xH1 : M := (mLst false (mCons (mCon .non) (mCons (mCon (.int 5)) (mCons (mTup mNil) (mCons (mListA false (mCons (mVar 2) mNil)) (mCons (mOp false .Add (mVar 2) (mSl false (mVar 2) (mYes (mNeg (mCon (.int 1)))) mNo)) (mCons (mOp false .Add (mVar 2) (mTup (mCons (mCon (.int 9)) mNil))) (mCons (mOp false .Add (mTup (mCons (mNeg (mCon (.int 1))) mNil)) (mVar 2)) (mCons (mTup (mCons (mCon (.str ("0" : Str))) mNil)) (mCons (mTup (mCons (mCon .non) mNil)) (mCons (mDict false []) (mCons (mCon (.str ("0" : Str))) mNil))))))))))))
abbrev xHm : M := (mComp false (mRng1 (mCons (mCon (.int 4)) mNil)) (gNm 5) (mT (mCmp .NotIn (mVar 5) (mVar 2))) (mVar 5) [5])
abbrev xHc : M := (mComp false (mSrc (mVar 4)) (gNm 5) mYesT (mTup (mCons (mVar 5) mNil)) [5])
abbrev xHi : M := (mIfe (mCmp .Gt (mBi false .len (mCons (mVar 2) mNil)) (mCon (.int 1))) (mLst false (mCons (mTRev (mVar 2)) mNil)) (mLst false (mCons (mTup (mCons (mCon (.bl true)) (mCons (mCon (.int 5)) mNil))) mNil)))
theorem oddhands_is : m__law_odd_hands = sCons (sSet 2 (mCallP f__law_hands [0] (mCons (mVar 1) mNil) mNil)) (sCons (sSet 3 xH1) (sCons (sSet 4 xHm) (sCons (sSet 3 (mOp false .Add (mOp false .Add (mVar 3) xHc) xHi)) (sCons (sRet (mCallX f__law_pick false [0, 1] (mCons (mVar 0) (mCons (mVar 3) mNil)) mNil)) sNil)))) := by rfl
abbrev eH (R : D) (ns : List Int) (x3 x4 : Option D) : Iv.Env := [some (.ref 1), some R, some (hdsD ns), x3, x4, none]
section
variable {R : D} {ns : List Int} {h : Hs}
theorem xH1_ok (hh : h.all (ltO h.length) = true) (hn : ns ∈ sub15) : xH1 (eH R ns none none) h = .ok (.lst (oddH1 ns)) h := by
  unfold sub15 at hn
  simp only [List.mem_cons, List.not_mem_nil, or_false] at hn
  rcases hn with rfl | rfl | rfl | rfl | rfl | rfl | rfl | rfl | rfl | rfl | rfl | rfl | rfl | rfl | rfl
  all_goals exact mLst_ok (mCons_ok rfl (mCons_ok rfl (mCons_ok rfl (mCons_ok rfl (mCons_ok rfl (mCons_ok rfl (mCons_ok rfl (mCons_ok rfl (mCons_ok rfl (mCons_ok (dict0 hh) (mCons_ok rfl rfl))))))))))) (show 11 ≤ most by decide)
theorem xHi_ok (hn : ns ∈ sub15) {x3 x4 : Option D} : xHi (eH R ns x3 x4) h = .ok (.lst (oddH3 ns)) h := by
  unfold sub15 at hn
  simp only [List.mem_cons, List.not_mem_nil, or_false] at hn
  rcases hn with rfl | rfl | rfl | rfl | rfl | rfl | rfl | rfl | rfl | rfl | rfl | rfl | rfl | rfl | rfl
  all_goals rfl
theorem xHm_ok (hh : h.all (ltO h.length) = true) {x3 x4 : Option D} : xHm (eH R ns x3 x4) h = .ok (.lst ((miss four ns).map .int)) h :=
  miss_ok (cand := four) hh (by rfl) (by decide) fun k acc => ⟨[some (.ref 1), some R, some (hdsD ns), x3, x4, some (.int k)], rfl, mTbl (mCmp_ok (x := .int k) (y := hdsD ns) (h1 := h ++ [.lst acc]) rfl rfl (notin_of (in_ints k ns))), rfl⟩
theorem xHc_ok (hh : h.all (ltO h.length) = true) {x3 : Option D} : xHc (eH R ns x3 (some (.lst ((miss four ns).map .int)))) h = .ok (.lst (oddH2 ns)) h := by
  have hl : (miss four ns).length ≤ 4 := List.length_filter_le _ _
  have e : oddH2 ns = ((miss four ns).map D.int).map fun x => .tup [x] := by unfold oddH2; rw [List.map_map]; rfl
  rw [e]
  refine map_compH hh (xs := (miss four ns).map D.int) rfl (fun x hx acc => ?_) (fun x hx => ?_) (by rw [List.length_map]; unfold most; omega)
  · obtain ⟨k, _, rfl⟩ := List.mem_map.mp hx
    exact step_t (e := [some (.ref 1), some R, some (hdsD ns), x3, some (.lst ((miss four ns).map .int)), some (.int k)]) rfl rfl rfl rfl
  · obtain ⟨k, _, rfl⟩ := List.mem_map.mp hx
    rfl
end
theorem oddhands_con {rs : List (Int × Int)} (hn : rs.map (·.1) ∈ sub15) (hl : rs.length ≤ 100) : Con f__law_odd_hands [.ref 1, rowD rs] fun d => pl 20 d = true ∧ okHof (rs.map (·.1)) d = false := fun s tl hs hc => by
  obtain ⟨ns, en⟩ : ∃ ns, ns = rs.map (·.1) := ⟨_, rfl⟩
  rw [← en] at hn
  have hb : ∀ d ∈ oddH ns, pl 20 d = true ∧ okHof ns d = false := fun d hd => by
    have := List.all_eq_true.mp (List.all_eq_true.mp oddH_fin ns hn) d hd
    simpa using this
  have lt : ltDs 0 (oddH ns) = true := ltDs_of _ fun d hd => pl_lt d (hb d hd).1
  have l2 : (oddH2 ns).length ≤ 4 := by unfold oddH2; rw [List.length_map]; exact List.length_filter_le _ _
  have l1 : (oddH1 ns).length = 11 := rfl
  have l3 : (oddH3 ns).length = 1 := rfl
  have ll : (oddH ns).length = 11 + (oddH2 ns).length + 1 := by unfold oddH; rw [List.length_append, List.length_append, l1, l3]
  have e0 : mCallP f__law_hands [0] (mCons (mVar 1) mNil) mNil [some (.ref 1), some (rowD rs), none, none, none, none] (s.hp tl) = .ok (hdsD ns) (s.hp tl) := by
    rw [lhands_eq, en]
    exact call1 (mCons_ok rfl rfl) (lt_row rs) hc.plain (handsin_ok hl) (lt_hds _)
  have e3 : (mOp false .Add (mOp false .Add (mVar 3) xHc) xHi) (eH (rowD rs) ns (some (.lst (oddH1 ns))) (some (.lst ((miss four ns).map .int)))) (s.hp tl) = .ok (.lst (oddH ns)) (s.hp tl) := by
    refine mOp_ok (x := .lst (oddH1 ns ++ oddH2 ns)) (y := .lst (oddH3 ns)) (h1 := s.hp tl) (h2 := s.hp tl) ?_ (xHi_ok hn) (add_lst (by rw [List.length_append, l1, l3]; omega))
    exact mOp_ok (x := .lst (oddH1 ns)) (y := .lst (oddH2 ns)) (h1 := s.hp tl) (h2 := s.hp tl) rfl (xHc_ok (hcl hc)) (add_lst (by rw [l1]; omega))
  obtain ⟨s1, d, g1, hd, ld, e⟩ := pick_run (xs := oddH ns) (ms := mCons (mVar 0) (mCons (mVar 3) mNil)) (env := eH (rowD rs) ns (some (.lst (oddH ns))) (some (.lst ((miss four ns).map .int)))) (by omega) (by omega) lt hs hc (mCons_ok rfl (mCons_ok rfl rfl))
  rw [← en]
  refine ⟨s1, d, g1, ld, hb d hd, gc_frozen (j := []) hc ld ?_⟩
  rw [List.append_nil]
  refine defR_rt (k := 4) ?_
  show m__law_odd_hands [some (.ref 1), some (rowD rs), none, none, none, none] _ = _
  rw [oddhands_is, sCons_nx (sSet_to (e' := eH (rowD rs) ns none none) e0 rfl), sCons_nx (sSet_to (e' := eH (rowD rs) ns (some (.lst (oddH1 ns))) none) (xH1_ok (hcl hc) hn) rfl), sCons_nx (sSet_to (e' := eH (rowD rs) ns (some (.lst (oddH1 ns))) (some (.lst ((miss four ns).map .int)))) (xHm_ok (hcl hc)) rfl), sCons_nx (sSet_to (e' := eH (rowD rs) ns (some (.lst (oddH ns))) (some (.lst ((miss four ns).map .int)))) e3 rfl)]
  exact sCons_rt (sRet_ok e)
end K00

set_option maxRecDepth 100000
namespace K00
open PySem L2 Iv PySem.Spec PyProof.Rows
theorem asg_ok {mt : MTg} {m : M} {env e1 : Iv.Env} {h h1 : Hs} {d : D} (q : m env h = .ok d h1) (e : mt d env = some e1) : sAsg mt m env h = .nx e1 h1 := by
  unfold sAsg
  rw [q]
  show (match mt d env with | some e1 => RS.nx e1 h1 | none => .bad) = _
  rw [e]
theorem ltZ_ints (n : Nat) : ∀ xs : List Int, ltZs n (xs.map D.int) = true
  | [] => rfl
  | x :: xs => by
    show (true && ltZs n (xs.map D.int)) = true
    rw [ltZ_ints n xs]; rfl
mutual
theorem pl_ltZ {b n : Nat} : ∀ d : D, pl b d = true → ltZ n d = true
  | .tup xs, h => by unfold ltZ; exact pls_ltZ xs (tup_of h).2
  | .lst xs, h => by
    unfold ltZ
    unfold pl at h
    rw [Bool.and_eq_true] at h
    exact pls_ltZ xs h.2
  | .dct ks xs, h => by unfold ltZ; unfold pl at h; exact pls_ltZ xs h
  | .dcu ks xs, h => by unfold ltZ; unfold pl at h; exact pls_ltZ xs h
  | .non, _ => rfl
  | .bl _, _ => rfl
  | .int _, _ => rfl
  | .str _, _ => rfl
  | .scr _, h => by unfold pl at h; cases h
  | .ref _, h => by unfold pl at h; cases h
  | .ty _, h => by unfold pl at h; cases h
  | .own _, h => by unfold pl at h; cases h
  | .exc _, h => by unfold pl at h; cases h
  | .fn _, h => by unfold pl at h; cases h
  | .clo _, h => by unfold pl at h; cases h
theorem pls_ltZ {b n : Nat} : ∀ xs : List D, pls b xs = true → ltZs n xs = true
  | [], _ => rfl
  | x :: xs, h => by
    unfold pls at h
    unfold ltZs
    rw [Bool.and_eq_true] at h ⊢
    exact ⟨pl_ltZ x h.1, pls_ltZ xs h.2⟩
end
theorem gc_exn {m : Bool} {h : Hs} {c : Nat} : gcR m h.length (.ex c h) = .ex c h := by
  unfold gcR
  dsimp only
  rw [List.take_length]
  split <;> rfl
abbrev eR (row near : D) (x3 : D) (hand : D) (x5 : Option D) (odd hands : D) (x8 : Option D) : Iv.Env := [some (.ref 1), some row, some near, some x3, some hand, x5, some odd, some hands, x8]
abbrev six : D := .lst [.clo 0, .clo 1, .clo 2, .clo 3, .clo 4, .clo 5]
abbrev fz6 (k : MS) : MS := sFz 5 [(sSet 5 (mLst true (mCons (mCon (.clo 0)) mNil))), (sDrop (mLM .append (mVar 5) (mCons (mCon (.clo 1)) mNil))), (sDrop (mLM .append (mVar 5) (mCons (mCon (.clo 2)) mNil))), (sDrop (mLM .append (mVar 5) (mCons (mCon (.clo 3)) mNil))), (sDrop (mLM .append (mVar 5) (mCons (mCon (.clo 4)) mNil))), (sDrop (mLM .append (mVar 5) (mCons (mCon (.clo 5)) mNil)))] k
section
variable {row near x3 hand odd hands : D} {s : Iv.St}
theorem fz_ok {k : MS} (hz : (eR row near x3 hand none odd hands none).all (ltZE 2) = true) : fz6 k (eR row near x3 hand none odd hands none) (s.hp []) = k (eR row near x3 hand (some six) odd hands none) (s.hp []) := by
  have p0 : (sSet 5 (mLst true (mCons (mCon (.clo 0)) mNil))) (eR row near x3 hand none odd hands none) (s.hp []) = .nx (eR row near x3 hand (some (.ref 2)) odd hands none) (s.hp [.lst [.clo 0]]) := by rfl
  have ap : ∀ (xs : List D) (i : Nat), xs.length < most → (sDrop (mLM .append (mVar 5) (mCons (mCon (.clo i)) mNil))) (eR row near x3 hand (some (.ref 2)) odd hands none) (s.hp [.lst xs]) = .nx (eR row near x3 hand (some (.ref 2)) odd hands none) (s.hp [.lst (xs ++ [.clo i])]) := fun xs i hx => by
    refine sDrop_ok (d := .non) ?_
    show (match (if xs.length < most then some (D.non, xs ++ [.clo i]) else none) with | some (r', zs) => R.ok r' ((s.hp [.lst xs]).set 2 (.lst zs)) | none => .bad) = _
    rw [if_pos hx]
    rfl
  have f : frzE 5 2 (eR row near x3 hand (some (.ref 2)) odd hands none) (s.hp [.lst [.clo 0, .clo 1, .clo 2, .clo 3, .clo 4, .clo 5]]) = some (eR row near x3 hand (some six) odd hands none, s.hp []) := by
    have h1 : (s.hp []).all (ltZO 2) = true := by
      show (ltZs 2 (s.L.map D.int) && ((true && (ltZs 2 (s.cs.map D.int) && true)) && true)) = true
      rw [ltZ_ints, ltZ_ints]; rfl
    show (if (2 = 2 ∧ (s.hp [Ob.lst [.clo 0, .clo 1, .clo 2, .clo 3, .clo 4, .clo 5]]).length = 2 + 1) then (if ((s.hp []).all (ltZO 2) && (eR row near x3 hand none odd hands none).all (ltZE 2) && ltZs 2 [.clo 0, .clo 1, .clo 2, .clo 3, .clo 4, .clo 5]) = true then some (eR row near x3 hand (some six) odd hands none, s.hp []) else none) else none) = _
    rw [if_pos ⟨rfl, rfl⟩, h1, hz]
    rfl
  have e0 : ∀ (A B C E F G : MS) (e : Iv.Env), sFz 5 [A, B, C, E, F, G] k e (s.hp []) = sCons A (sCons B (sCons C (sCons E (sCons F (sCons G (sFzK 5 2 k)))))) e (s.hp []) := fun _ _ _ _ _ _ _ => rfl
  unfold fz6
  rw [e0, sCons_nx p0, sCons_nx (ap [D.clo 0] 1 (by decide)), sCons_nx (ap ([D.clo 0] ++ [D.clo 1]) 2 (by decide)), sCons_nx (ap ([D.clo 0] ++ [D.clo 1] ++ [D.clo 2]) 3 (by decide)), sCons_nx (ap ([D.clo 0] ++ [D.clo 1] ++ [D.clo 2] ++ [D.clo 3]) 4 (by decide)), sCons_nx (ap ([D.clo 0] ++ [D.clo 1] ++ [D.clo 2] ++ [D.clo 3] ++ [D.clo 4]) 5 (by decide))]
  unfold sFzK
  show (match frzE 5 2 (eR row near x3 hand (some (.ref 2)) odd hands none) (s.hp [.lst [.clo 0, .clo 1, .clo 2, .clo 3, .clo 4, .clo 5]]) with | some (e2, h2) => k e2 h2 | none => .bad) = _
  rw [f]
abbrev mBad6 : M := (mComp false (mSrc (mVar 5)) (gNm 8) (mT (mNot (mIsi subC (mCons (mCaughtW bs__law_refused [8] (mVar 8)) (mCons (mCon (.own 3)) mNil))))) (mCon (.int 1)) [8])
theorem caught_at {env e' : Iv.Env} {h : Hs} {i c : Nat} {b : M} (hv : env[8]? = some (some (.clo i))) (hb : bs__law_refused[i]? = some b) (hw : wipeE env [8] = e') (q : b e' h = .ex c h) : mCaughtW bs__law_refused [8] (mVar 8) env h = .ok (.exc c) h := by
  unfold mCaughtW
  rw [var_at hv]
  show (match bs__law_refused[i]? with | some b => caughtR (gcR false h.length (b (wipeE env [8]) h)) | none => .bad) = _
  rw [hb]
  dsimp only
  rw [hw, q, gc_exn]
  rfl
theorem caught_one {env : Iv.Env} {h : Hs} {i c : Nat} {b : M} (hb : bs__law_refused[i]? = some b) (q : b env h = .ex c h) : mCaught bs__law_refused (mCon (.clo i)) env h = .ok (.exc c) h := by
  show (match bs__law_refused[i]? with | some b => caughtR (gcR false h.length (b env h)) | none => .bad) = _
  rw [hb]
  dsimp only
  rw [q, gc_exn]
  rfl
theorem isi_ok {m : M} {env : Iv.Env} {h : Hs} {c : Nat} (hk : isiB subC (.exc c) (.own c) [] = some true) (q : m env h = .ok (.exc c) h) : (mIsi subC (mCons m (mCons (mCon (.own c)) mNil))) env h = .ok (.bl true) h := by
  unfold mIsi
  rw [mCons_ok q (mCons_ok (d := .own c) rfl rfl)]
  show ans (isiB subC (.exc c) (.own c) h) _ = _
  have : isiB subC (.exc c) (.own c) h = isiB subC (.exc c) (.own c) [] := rfl
  rw [this, hk]; rfl
theorem bad6_ok (q : ∀ (i : Nat) (m : M), i < 6 → bs__law_refused[i]? = some m → ∀ h : Hs, h.all plainO = true → m (eR row near x3 hand (some six) odd hands none) h = .ex 3 h) :
    (mCmp .NotEq mBad6 (mLst false mNil)) (eR row near x3 hand (some six) odd hands none) (s.hp []) = .ok (.bl false) (s.hp []) := by
  have hc : Iv.Cl [] := ⟨rfl, rfl⟩
  have := ones_ne (mi := mSrc (mVar 5)) (mt := gNm 8) (mc := (mT (mNot (mIsi subC (mCons (mCaughtW bs__law_refused [8] (mVar 8)) (mCons (mCon (.own 3)) mNil)))))) (own := [8]) (env := eR row near x3 hand (some six) odd hands none) (h := s.hp []) (xs := [.clo 0, .clo 1, .clo 2, .clo 3, .clo 4, .clo 5]) (p := fun _ => true) (hcl hc) rfl (fun x hx acc => ?_) (show 6 < most by decide)
  · exact this
  · have one : ∀ (i : Nat) (m : M), i < 6 → bs__law_refused[i]? = some m → Iv.step (gNm 8) (mT (mNot (mIsi subC (mCons (mCaughtW bs__law_refused [8] (mVar 8)) (mCons (mCon (.own 3)) mNil))))) (mCon (.int 1)) (wipeE (eR row near x3 hand (some six) odd hands none) [8]) (.clo i) (s.hp [] ++ [.lst acc]) = .ok (if true = true then none else some (.int 1)) (s.hp [] ++ [.lst acc]) := fun i m hi hm => by
      have pl1 : (s.hp [] ++ [Ob.lst acc]).all plainO = true := by
        rw [List.all_append, hc.plain]; rfl
      exact step_one (p := true) (e := eR row near x3 hand (some six) odd hands (some (.clo i))) rfl (mTbl (mNotb (x := true) (isi_ok (by kernel_rfl) (caught_at rfl hm rfl (q i m hi hm _ pl1)))))
    simp only [List.mem_cons, List.not_mem_nil, or_false] at hx
    rcases hx with rfl | rfl | rfl | rfl | rfl | rfl
    · exact one 0 b__law_refused_0 (by decide) rfl
    · exact one 1 b__law_refused_1 (by decide) rfl
    · exact one 2 b__law_refused_2 (by decide) rfl
    · exact one 3 b__law_refused_3 (by decide) rfl
    · exact one 4 b__law_refused_4 (by decide) rfl
    · exact one 5 b__law_refused_5 (by decide) rfl
end
theorem ex2 {φ : Fm} {ms : Ms} {env : Iv.Env} {h h1 j : Hs} {x y : D} {c : Nat} (q1 : ms env h = .ok [x, y] h1) (hx : ltD 0 x = true) (hy : ltD 0 y = true) (hp : h1.all plainO = true) (q : φ [x, y] [] = .ex c j) : mCallP φ [0, 1] ms mNil env h = .ex c h1 := by
  rw [callP_r (ds := [x, y]) (es := []) (perm := [0, 1]) q1 rfl (lt2 hx hy) hp]
  exact pure_ex q
abbrev hand5 : List D := [.non, .int (-1), .str ("0" : Str), .bl true, .tup [.int 0]]
abbrev five : List Int := [0, 1, 2, 3, 4]
abbrev xRm : M := (mComp false (mRng1 (mCons (mCon (.int 5)) mNil)) (gNm 4) (mT (mCmp .NotIn (mVar 4) (mCallP f__law_hands [0] (mCons (mVar 1) mNil) mNil))) (mVar 4) [4])
abbrev xRh : M := (mOp false .Add (mLst false (mCons (mCon .non) (mCons (mNeg (mCon (.int 1))) (mCons (mCon (.str ("0" : Str))) (mCons (mCon (.bl true)) (mCons (mTup (mCons (mCon (.int 0)) mNil)) mNil)))))) (mVar 3))
theorem refused_is : m__law_refused = (sCons (sAsg (gTp 2 (gCs (gNm 6) (gCs (gNm 7) gNo))) (mTup (mCons (mCallX f__law_odd_row false [0, 1] (mCons (mVar 0) (mCons (mVar 1) mNil)) mNil) (mCons (mCallX f__law_odd_hands false [0, 1] (mCons (mVar 0) (mCons (mVar 1) mNil)) mNil) mNil)))) (sCons (sSet 3 xRm) (sCons (sSet 4 (mCallX f__law_pick false [0, 1] (mCons (mVar 0) (mCons xRh mNil)) mNil)) (fz6 (sCons (sIf (mCmp .NotEq mBad6 (mLst false mNil)) (sCons (sRet (mCon (.bl false))) sNil) sNil) (sCons (sIf (mNot (mIsi subC (mCons (mCaught bs__law_refused (mCon (.clo 6))) (mCons (mCon (.own 1)) mNil)))) (sCons (sRet (mCon (.bl false))) sNil) sNil) (sCons (sRet (mIsi subC (mCons (mCaught bs__law_refused (mCon (.clo 7))) (mCons (mCon (.own 2)) mNil)))) sNil))))))) := by rfl
theorem refused_ok {rs qs : List (Int × Int)} (g : Good rs) (gq : Good qs) (hn : rs.map (·.1) ∈ sub15) {s : Iv.St} (hs : s.ok) : ∃ s' : Iv.St, s'.ok ∧ f__law_refused [.ref 1, rowD rs, rowD qs] (s.hp []) = .ok (.bl true) (s'.hp []) := by
  have hc : Iv.Cl [] := ⟨rfl, rfl⟩
  have hl : rs.length ≤ 100 := Nat.le_trans g.len (by decide)
  obtain ⟨s1, odd, g1, lo, ⟨po, bo⟩, e1⟩ := callX_con (φ := f__law_odd_row) (perm := [0, 1]) (ms := (mCons (mVar 0) (mCons (mVar 1) mNil))) (mk := mNil) (env := [some (.ref 1), some (rowD rs), some (rowD qs), none, none, none, none, none, none]) (h := s.hp []) (ds := [.ref 1, rowD rs]) (es := []) (oddrow_con g) rfl rfl hs hc
  obtain ⟨s2, hands, g2, lh, ⟨ph, bh⟩, e2⟩ := callX_con (φ := f__law_odd_hands) (perm := [0, 1]) (ms := (mCons (mVar 0) (mCons (mVar 1) mNil))) (mk := mNil) (env := [some (.ref 1), some (rowD rs), some (rowD qs), none, none, none, none, none, none]) (h := s1.hp []) (ds := [.ref 1, rowD rs]) (es := []) (oddhands_con hn hl) rfl rfl g1 hc
  have e3 : xRm [some (.ref 1), some (rowD rs), some (rowD qs), none, none, none, some odd, some hands, none] (s2.hp []) = .ok (.lst ((miss five (rs.map (·.1))).map .int)) (s2.hp []) :=
    miss_ok (cand := five) (hcl hc) (by rfl) (by decide) fun k acc => ⟨[some (.ref 1), some (rowD rs), some (rowD qs), none, some (.int k), none, some odd, some hands, none], rfl, mTbl (mCmp_ok (x := .int k) (y := hdsD (rs.map (·.1))) (h1 := s2.hp [] ++ [.lst acc]) rfl (by
      rw [lhands_eq]
      exact call1 (mCons_ok rfl rfl) (lt_row rs) (by rw [List.all_append, hc.plain]; rfl) (handsin_ok hl) (lt_hds _)) (notin_of (in_ints k _))), rfl⟩
  have ml : (miss five (rs.map (·.1))).length ≤ 5 := List.length_filter_le _ _
  have e4 : xRh [some (.ref 1), some (rowD rs), some (rowD qs), some (.lst ((miss five (rs.map (·.1))).map .int)), none, none, some odd, some hands, none] (s2.hp []) = .ok (.lst (hand5 ++ (miss five (rs.map (·.1))).map .int)) (s2.hp []) :=
    mOp_ok (x := .lst hand5) (y := .lst ((miss five (rs.map (·.1))).map .int)) (h1 := s2.hp []) (h2 := s2.hp []) rfl rfl (add_lst (by rw [List.length_map]; show 5 + _ ≤ 100000; omega))
  obtain ⟨s3, hand, g3, hm, lhd, e5⟩ := pick_run (xs := hand5 ++ (miss five (rs.map (·.1))).map .int) (ms := mCons (mVar 0) (mCons xRh mNil)) (env := [some (.ref 1), some (rowD rs), some (rowD qs), some (.lst ((miss five (rs.map (·.1))).map .int)), none, none, some odd, some hands, none]) (by simp) (by rw [List.length_append, List.length_map]; show 5 + _ < 1000; omega) (lt_app rfl (ltDs_ints _ _)) g2 hc (mCons_ok rfl (mCons_ok e4 rfl))
  have hh : pl 20 hand = true ∧ ∀ r ∈ rs, hand ≠ .int r.1 := by
    rcases List.mem_append.mp hm with hm | hm
    · simp only [List.mem_cons, List.not_mem_nil, or_false] at hm
      rcases hm with rfl | rfl | rfl | rfl | rfl
      · exact ⟨rfl, fun r _ h => by cases h⟩
      · refine ⟨rfl, fun r hr h => ?_⟩
        have := (g.hand r hr).1
        injection h with h
        omega
      · exact ⟨rfl, fun r _ h => by cases h⟩
      · exact ⟨rfl, fun r _ h => by cases h⟩
      · exact ⟨rfl, fun r _ h => by cases h⟩
    · obtain ⟨k, hk, rfl⟩ := List.mem_map.mp hm
      refine ⟨rfl, fun r hr h => ?_⟩
      injection h with h
      have := (List.mem_filter.mp hk).2
      rw [h] at this
      rw [decide_eq_true (List.mem_map.mpr ⟨r, hr, rfl⟩)] at this
      cases this
  have hz : (eR (rowD rs) (rowD qs) (.lst ((miss five (rs.map (·.1))).map .int)) hand none odd hands none).all (ltZE 2) = true := by
    show (true && (ltZ 2 (rowD rs) && (ltZ 2 (rowD qs) && (ltZs 2 ((miss five (rs.map (·.1))).map D.int) && (ltZ 2 hand && (true && (ltZ 2 odd && (ltZ 2 hands && (true && true))))))))) = true
    rw [pl_ltZ _ g.pl, pl_ltZ _ gq.pl, ltZ_ints, pl_ltZ _ hh.1, pl_ltZ _ po, pl_ltZ _ ph]; rfl
  have six_ok : ∀ (i : Nat) (m : M), i < 6 → bs__law_refused[i]? = some m → ∀ h : Hs, h.all plainO = true → m (eR (rowD rs) (rowD qs) (.lst ((miss five (rs.map (·.1))).map .int)) hand (some six) odd hands none) h = .ex 3 h := fun i m hi hm h hp => by
    match i, hi, hm with
    | 0, _, hm => cases hm; exact ex1 (mCons_ok rfl rfl) lo hp (handsof_ex po (by decide) bo)
    | 1, _, hm => cases hm; exact ex2 (mCons_ok rfl (mCons_ok rfl rfl)) lo lhd hp (value_ex3 po (by decide) bo)
    | 2, _, hm => cases hm; exact ex2 (mCons_ok rfl (mCons_ok rfl rfl)) lo lh hp (part_ex3 po (by decide) bo)
    | 3, _, hm => cases hm; exact ex1 (mCons_ok rfl rfl) lo hp (parts_ex po (by decide) bo)
    | 4, _, hm => cases hm; exact ex2 (mCons_ok rfl (mCons_ok rfl rfl)) lo (lt_row qs) hp (ispart_ex1 po (by decide) bo)
    | 5, _, hm => cases hm; exact ex2 (mCons_ok rfl (mCons_ok rfl rfl)) (lt_row qs) lo hp (ispart_ex2 gq po (by decide) bo)
    | n + 6, hi, _ => omega
  have c6 := caught_one (i := 6) (b := b__law_refused_6) (env := eR (rowD rs) (rowD qs) (.lst ((miss five (rs.map (·.1))).map .int)) hand (some six) odd hands none) (h := s3.hp []) rfl (ex2 (mCons_ok rfl (mCons_ok rfl rfl)) (lt_row rs) lhd hc.plain (value_ex1 g hh.1 hh.2))
  have c7 := caught_one (i := 7) (b := b__law_refused_7) (env := eR (rowD rs) (rowD qs) (.lst ((miss five (rs.map (·.1))).map .int)) hand (some six) odd hands none) (h := s3.hp []) rfl (ex2 (mCons_ok rfl (mCons_ok rfl rfl)) (lt_row rs) lh hc.plain (part_ex2 g ph (by decide) bh))
  refine ⟨s3, g3, ?_⟩
  have hm : defR m__law_refused 6 [.ref 1, rowD rs, rowD qs] (s.hp []) = .ok (.bl true) (s3.hp []) := by
    refine defR_rt (k := 6) ?_
    show m__law_refused [some (.ref 1), some (rowD rs), some (rowD qs), none, none, none, none, none, none] (s.hp []) = _
    rw [refused_is]
    refine (sCons_nx (asg_ok (mTup_ok (ds := [odd, hands]) (mCons_ok e1 (mCons_ok e2 rfl)) (show 2 ≤ most by decide)) (e1 := [some (.ref 1), some (rowD rs), some (rowD qs), none, none, none, some odd, some hands, none]) rfl)).trans ?_
    rw [sCons_nx (sSet_to (e' := [some (.ref 1), some (rowD rs), some (rowD qs), some (.lst ((miss five (rs.map (·.1))).map .int)), none, none, some odd, some hands, none]) e3 rfl), sCons_nx (sSet_to (e' := eR (rowD rs) (rowD qs) (.lst ((miss five (rs.map (·.1))).map .int)) hand none odd hands none) e5 rfl), fz_ok hz,
      sCons_nx (sIf_nx (bad6_ok six_ok)), sCons_nx (sIf_nx (mNotb (x := true) (isi_ok (by kernel_rfl) c6)))]
    exact sCons_rt (sRet_ok (isi_ok (by kernel_rfl) c7))
  have l0 : ltDs (s.hp []).length [.ref 1, rowD rs, rowD qs] = true := by
    show (true && (ltD 2 (rowD rs) && (ltD 2 (rowD qs) && true))) = true
    rw [ltD_mono (Nat.zero_le _) _ (lt_row rs), ltD_mono (Nat.zero_le _) _ (lt_row qs)]; rfl
  show (if ((s.hp []).all (ltO (s.hp []).length) && ltDs (s.hp []).length [.ref 1, rowD rs, rowD qs]) = true then chkR (defR m__law_refused 6 [.ref 1, rowD rs, rowD qs] (s.hp [])) else .bad) = _
  rw [hcl hc, l0, if_pos (show (true && true) = true from rfl), hm]
  exact chk_of hc rfl
end K00

set_option maxRecDepth 100000
namespace K00
open PySem L2 Iv PySem.Spec PyProof.Rows
theorem good_of {rs : List (Int × Int)} (h : (rs.map (·.1)).Sublist four) (hn : rs.map (·.1) ≠ []) (hv : ∀ r ∈ rs, 0 ≤ r.2 ∧ r.2 ≤ 999999999) : Good rs where
  ne := fun e => hn (by rw [e]; rfl)
  len := by have := h.length_le; rw [List.length_map] at this; exact this
  hand := fun r hr => by
    have := h.subset (List.mem_map.mpr ⟨r, hr, rfl⟩)
    simp only [List.mem_cons, List.not_mem_nil, or_false] at this
    omega
  val := hv
  up := by
    have : four.Pairwise (· < ·) := by decide
    exact List.pairwise_map.mp (this.sublist h)
theorem says_ok (b : Bool) : f__law_says [.bl b, .bl b] [] = .ok (.bl true) [] := by cases b <;> kernel_rfl
theorem kw1 {φ : Fm} {mk : Ms} {env : Iv.Env} {h h1 j : Hs} {x d : D} (q1 : mk env h = .ok [x] h1) (hx : ltD 0 x = true) (hp : h1.all plainO = true) (q : φ [x] [] = .ok d j) (hd : ltD 0 d = true) : mCallP φ [0] mNil mk env h = .ok d h1 := callP_ok (ds := []) (es := [x]) (perm := [0]) rfl q1 (lt1 hx) hp q hd
theorem kw2 {φ : Fm} {mk : Ms} {env : Iv.Env} {h h1 j : Hs} {x y d : D} (q1 : mk env h = .ok [y, x] h1) (hx : ltD 0 x = true) (hy : ltD 0 y = true) (hp : h1.all plainO = true) (q : φ [x, y] [] = .ok d j) (hd : ltD 0 d = true) : mCallP φ [1, 0] mNil mk env h = .ok d h1 := callP_ok (ds := []) (es := [y, x]) (perm := [1, 0]) rfl q1 (lt2 hx hy) hp q hd
abbrev EA (d : D) (x2 x3 x4 x5 x6 x7 x8 x9 : Option D) : Iv.Env := [some d, some (.ref 1), x2, x3, x4, x5, x6, x7, x8, x9, none, none]
abbrev sNo (c : M) : MS := sIf c (sCons (sRet (mCon (.bl false))) sNil) sNil
abbrev mVals : M := mCallX f__law_values false [0, 1] (mCons (mVar 1) (mCons (mCon (.int 3)) mNil)) mNil
abbrev mHands : M := mCallX f__law_some_hands false [0, 1] (mCons (mVar 1) (mCons (mCon (.int 4)) mNil)) mNil
abbrev mRow : M := mCallX f__law_row false [0, 1, 2] (mCons (mVar 1) (mCons mHands (mCons (mVar 3) mNil))) mNil
abbrev mNearE : M := (mTup (mCons (mVar 10) (mCons (mCallX f__law_pick false [0, 1] (mCons (mVar 1) (mCons (mLst false (mCons (mVar 11) (mCons (mVar 11) (mCons (mCallX f__law_pick false [0, 1] (mCons (mVar 1) (mCons (mVar 3) mNil)) mNil) mNil)))) mNil)) mNil) mNil)))
abbrev gHV : MTg := (gTp 2 (gCs (gNm 10) (gCs (gNm 11) gNo)))
abbrev mNear : M := mComp false (mSrc (mVar 4)) gHV mYesT mNearE [10, 11]
abbrev mNear2 : M := mCallX f__law_pick false [0, 1] (mCons (mVar 1) (mCons (mCallP f__law_parts [0] (mCons (mBi false .tuple (mCons (mVar 5) mNil)) mNil) mNil) mNil)) mNil
abbrev mOdd : M := mCallX f__law_odd_row false [0, 1] (mCons (mVar 1) (mCons (mVar 4) mNil)) mNil
abbrev c1 : M := (mOr (mCmp .IsNot (mCallP f_is_row [0] (mCons (mVar 4) mNil) mNil) (mCon (.bl true))) (mNot (mCallP f__law_says [0, 1] (mCons (mCallP f_is_row [0] mNil (mCons (mVar 6) mNil)) (mCons (mCallP f__law_is_row [0] (mCons (mVar 6) mNil) mNil) mNil)) mNil)))
abbrev c2 : M := (mOr (mCmp .NotEq (mCallP f_hands_of [0] mNil (mCons (mVar 4) mNil)) (mCallP f__law_hands [0] (mCons (mVar 4) mNil) mNil)) (mCmp .NotEq (mListA false (mCons (mCallP f_parts [0] mNil (mCons (mVar 4) mNil)) mNil)) (mCallP f__law_parts [0] (mCons (mVar 4) mNil) mNil)))
abbrev t3 : M := (mT (mOr (mCmp .NotEq (mCallP f_value_of [0, 1] (mCons (mVar 4) (mCons (mVar 10) mNil)) mNil) (mVar 11)) (mCmp .NotEq (mCallP f_value_of [1, 0] mNil (mCons (mVar 10) (mCons (mVar 4) mNil))) (mVar 11))))
abbrev c3 : M := (mCmp .NotEq (mComp false (mSrc (mVar 4)) gHV t3 (mCon (.int 1)) [10, 11]) (mLst false mNil))
abbrev c4 : M := (mOr (mCmp .NotEq (mCallP f_part [0, 1] (mCons (mVar 4) (mCons (mCallP f__law_hands [0] (mCons (mVar 7) mNil) mNil) mNil)) mNil) (mVar 7)) (mCmp .NotEq (mCallP f_part [1, 0] mNil (mCons (mCallP f__law_hands [0] (mCons (mVar 7) mNil) mNil) (mCons (mVar 4) mNil))) (mVar 7)))
abbrev c5 : M := (mCmp .IsNot (mCallP f_is_part [0, 1] (mCons (mVar 7) (mCons (mVar 4) mNil)) mNil) (mCon (.bl true)))
abbrev b1 : MS := sCons (sNo c4) (sCons (sNo c5) sNil)
abbrev c6 : M := (mNot (mCallP f__law_says [0, 1] (mCons (mCallP f_is_part [1, 0] mNil (mCons (mVar 9) (mCons (mVar 8) mNil))) (mCons (mCallP f__law_is_part [0, 1] (mCons (mVar 8) (mCons (mVar 9) mNil)) mNil) mNil)) mNil))
abbrev b2 : MS := sCons (sNo c6) sNil
abbrev mParts7 : MI := (mSrc (mCallP f__law_parts [0] (mCons (mVar 4) mNil) mNil))
abbrev mThree : MI := (mSrc (mLst false (mCons (mTup (mCons (mVar 5) (mCons (mVar 4) mNil))) (mCons (mTup (mCons (mVar 4) (mCons (mVar 5) mNil))) (mCons (mTup (mCons (mVar 5) (mCons (mVar 5) mNil))) mNil)))))
abbrev g89 : MTg := (gTp 2 (gCs (gNm 8) (gCs (gNm 9) gNo)))
abbrev c7 : M := (mNot (mCallX f__law_refused false [0, 1, 2] (mCons (mVar 1) (mCons (mVar 4) (mCons (mVar 5) mNil))) mNil))
abbrev bLap : MS := sCons (sSet 3 mVals) (sCons (sSet 4 mRow) (sCons (sSet 5 mNear) (sCons (sSet 5 mNear2) (sCons (sSet 6 mOdd) (sCons (sNo c1) (sCons (sNo c2) (sCons (sNo c3) (sCons (sFor mParts7 (gNm 7) b1) (sCons (sFor mThree g89 b2) (sCons (sNo c7) sNil))))))))))
theorem lap_is : bLap = (sCons (sSet 3 (mCallX f__law_values false [0, 1] (mCons (mVar 1) (mCons (mCon (.int 3)) mNil)) mNil)) (sCons (sSet 4 (mCallX f__law_row false [0, 1, 2] (mCons (mVar 1) (mCons (mCallX f__law_some_hands false [0, 1] (mCons (mVar 1) (mCons (mCon (.int 4)) mNil)) mNil) (mCons (mVar 3) mNil))) mNil)) (sCons (sSet 5 (mComp false (mSrc (mVar 4)) (gTp 2 (gCs (gNm 10) (gCs (gNm 11) gNo))) mYesT (mTup (mCons (mVar 10) (mCons (mCallX f__law_pick false [0, 1] (mCons (mVar 1) (mCons (mLst false (mCons (mVar 11) (mCons (mVar 11) (mCons (mCallX f__law_pick false [0, 1] (mCons (mVar 1) (mCons (mVar 3) mNil)) mNil) mNil)))) mNil)) mNil) mNil))) [10, 11])) (sCons (sSet 5 (mCallX f__law_pick false [0, 1] (mCons (mVar 1) (mCons (mCallP f__law_parts [0] (mCons (mBi false .tuple (mCons (mVar 5) mNil)) mNil) mNil) mNil)) mNil)) (sCons (sSet 6 (mCallX f__law_odd_row false [0, 1] (mCons (mVar 1) (mCons (mVar 4) mNil)) mNil)) (sCons (sIf (mOr (mCmp .IsNot (mCallP f_is_row [0] (mCons (mVar 4) mNil) mNil) (mCon (.bl true))) (mNot (mCallP f__law_says [0, 1] (mCons (mCallP f_is_row [0] mNil (mCons (mVar 6) mNil)) (mCons (mCallP f__law_is_row [0] (mCons (mVar 6) mNil) mNil) mNil)) mNil))) (sCons (sRet (mCon (.bl false))) sNil) sNil) (sCons (sIf (mOr (mCmp .NotEq (mCallP f_hands_of [0] mNil (mCons (mVar 4) mNil)) (mCallP f__law_hands [0] (mCons (mVar 4) mNil) mNil)) (mCmp .NotEq (mListA false (mCons (mCallP f_parts [0] mNil (mCons (mVar 4) mNil)) mNil)) (mCallP f__law_parts [0] (mCons (mVar 4) mNil) mNil))) (sCons (sRet (mCon (.bl false))) sNil) sNil) (sCons (sIf (mCmp .NotEq (mComp false (mSrc (mVar 4)) (gTp 2 (gCs (gNm 10) (gCs (gNm 11) gNo))) (mT (mOr (mCmp .NotEq (mCallP f_value_of [0, 1] (mCons (mVar 4) (mCons (mVar 10) mNil)) mNil) (mVar 11)) (mCmp .NotEq (mCallP f_value_of [1, 0] mNil (mCons (mVar 10) (mCons (mVar 4) mNil))) (mVar 11)))) (mCon (.int 1)) [10, 11]) (mLst false mNil)) (sCons (sRet (mCon (.bl false))) sNil) sNil) (sCons (sFor (mSrc (mCallP f__law_parts [0] (mCons (mVar 4) mNil) mNil)) (gNm 7) (sCons (sIf (mOr (mCmp .NotEq (mCallP f_part [0, 1] (mCons (mVar 4) (mCons (mCallP f__law_hands [0] (mCons (mVar 7) mNil) mNil) mNil)) mNil) (mVar 7)) (mCmp .NotEq (mCallP f_part [1, 0] mNil (mCons (mCallP f__law_hands [0] (mCons (mVar 7) mNil) mNil) (mCons (mVar 4) mNil))) (mVar 7))) (sCons (sRet (mCon (.bl false))) sNil) sNil) (sCons (sIf (mCmp .IsNot (mCallP f_is_part [0, 1] (mCons (mVar 7) (mCons (mVar 4) mNil)) mNil) (mCon (.bl true))) (sCons (sRet (mCon (.bl false))) sNil) sNil) sNil))) (sCons (sFor (mSrc (mLst false (mCons (mTup (mCons (mVar 5) (mCons (mVar 4) mNil))) (mCons (mTup (mCons (mVar 4) (mCons (mVar 5) mNil))) (mCons (mTup (mCons (mVar 5) (mCons (mVar 5) mNil))) mNil))))) (gTp 2 (gCs (gNm 8) (gCs (gNm 9) gNo))) (sCons (sIf (mNot (mCallP f__law_says [0, 1] (mCons (mCallP f_is_part [1, 0] mNil (mCons (mVar 9) (mCons (mVar 8) mNil))) (mCons (mCallP f__law_is_part [0, 1] (mCons (mVar 8) (mCons (mVar 9) mNil)) mNil) mNil)) mNil)) (sCons (sRet (mCon (.bl false))) sNil) sNil) sNil)) (sCons (sIf (mNot (mCallX f__law_refused false [0, 1, 2] (mCons (mVar 1) (mCons (mVar 4) (mCons (mVar 5) mNil))) mNil)) (sCons (sRet (mCon (.bl false))) sNil) sNil) sNil))))))))))) := by rfl
theorem sFor_fix {mi : MI} {mt : MTg} {b : MS} {env : Iv.Env} {h h1 : Hs} {xs : List D} (q : mi env h = .ok (.fix xs) h1) : sFor mi mt b env h = forL mt b xs env h1 := by
  unfold sFor
  rw [q]; rfl
section
variable {d : D} {x2 x3 x5 x6 x7 x8 x9 : Option D} {rs qs : List (Int × Int)} {s : Iv.St}
theorem c1_ok {odd : D} (g : Good rs) (po : pl 20 odd = true) (bo : okRow odd = false) : c1 (EA d x2 x3 (some (rowD rs)) x5 (some odd) x7 x8 x9) (s.hp []) = .ok (.bl false) (s.hp []) := by
  have hc : Iv.Cl [] := ⟨rfl, rfl⟩
  have q1 := isrow_ok g.pl (by decide)
  rw [g.row] at q1
  have q2 := isrow_ok po (by decide)
  rw [bo] at q2
  have q3 := lawrow_ok po (by decide)
  rw [bo] at q3
  have a1 : (mCmp .IsNot (mCallP f_is_row [0] (mCons (mVar 4) mNil) mNil) (mCon (.bl true))) (EA d x2 x3 (some (rowD rs)) x5 (some odd) x7 x8 x9) (s.hp []) = .ok (.bl false) (s.hp []) := mCmp_ok (call1 (mCons_ok rfl rfl) (lt_row rs) hc.plain q1 rfl) rfl rfl
  refine (mOr_f a1).trans (mNotb (x := true) ?_)
  exact call2 (mCons_ok (kw1 (mCons_ok rfl rfl) (pl_lt _ po) hc.plain q2 rfl) (mCons_ok (call1 (mCons_ok rfl rfl) (pl_lt _ po) hc.plain q3 rfl) rfl)) rfl rfl hc.plain (says_ok false) rfl
theorem c2_ok (g : Good rs) : c2 (EA d x2 x3 (some (rowD rs)) x5 x6 x7 x8 x9) (s.hp []) = .ok (.bl false) (s.hp []) := by
  have hc : Iv.Cl [] := ⟨rfl, rfl⟩
  obtain ⟨ps, _, pl', _, e1, e2⟩ := parts_ok g
  have hl : rs.length ≤ 100 := Nat.le_trans g.len (by decide)
  have a1 : (mCmp .NotEq (mCallP f_hands_of [0] mNil (mCons (mVar 4) mNil)) (mCallP f__law_hands [0] (mCons (mVar 4) mNil) mNil)) (EA d x2 x3 (some (rowD rs)) x5 x6 x7 x8 x9) (s.hp []) = .ok (.bl false) (s.hp []) := by
    rw [lhands_eq]
    exact mCmp_ok (kw1 (mCons_ok rfl rfl) (lt_row rs) hc.plain (handsof_ok g) (lt_hds _)) (call1 (mCons_ok rfl rfl) (lt_row rs) hc.plain (handsin_ok hl) (lt_hds _)) (ne_hds _)
  refine (mOr_f a1).trans ?_
  have a2 : (mListA false (mCons (mCallP f_parts [0] mNil (mCons (mVar 4) mNil)) mNil)) (EA d x2 x3 (some (rowD rs)) x5 x6 x7 x8 x9) (s.hp []) = .ok (.lst (ps.map rowD)) (s.hp []) := by
    have q := kw1 (φ := f_parts) (mk := mCons (mVar 4) mNil) (env := EA d x2 x3 (some (rowD rs)) x5 x6 x7 x8 x9) (h := s.hp []) (h1 := s.hp []) (mCons_ok rfl rfl) (lt_row rs) hc.plain e2 (lt_rows ps)
    unfold mListA
    rw [mCons_ok q (nil_ok)]
    show mkL false (ps.map rowD) (s.hp []) = _
    unfold mkL
    rw [if_pos (by rw [List.length_map]; unfold most; omega)]; rfl
  exact mCmp_ok a2 (call1 (mCons_ok rfl rfl) (lt_row rs) hc.plain e1 (lt_rows ps)) (ne_rows ps)
theorem c3_ok (g : Good rs) : c3 (EA d x2 x3 (some (rowD rs)) x5 x6 x7 x8 x9) (s.hp []) = .ok (.bl false) (s.hp []) := by
  have hc : Iv.Cl [] := ⟨rfl, rfl⟩
  have := ones_ne (mi := mSrc (mVar 4)) (mt := gHV) (mc := t3) (own := [10, 11]) (env := EA d x2 x3 (some (rowD rs)) x5 x6 x7 x8 x9) (h := s.hp []) (xs := rs.map prD) (p := fun _ => true) (hcl hc) rfl (fun x hx acc => ?_) (by rw [List.length_map]; have := g.len; unfold most; omega)
  · rw [List.all_eq_true.mpr fun _ _ => rfl] at this
    exact this
  · obtain ⟨r, hr, rfl⟩ := List.mem_map.mp hx
    have pl1 : (s.hp [] ++ [Ob.lst acc]).all plainO = true := by
      rw [List.all_append, hc.plain]; rfl
    refine step_one (p := true) (e := [some d, some (.ref 1), x2, x3, some (rowD rs), x5, x6, x7, x8, x9, some (.int r.1), some (.int r.2)]) rfl (mTbl ?_)
    refine (mOr_f (mCmp_ok (call2 (mCons_ok rfl (mCons_ok rfl rfl)) (lt_row rs) rfl pl1 (value_ok g hr) rfl) rfl (ne_int r.2))).trans ?_
    exact mCmp_ok (kw2 (mCons_ok rfl (mCons_ok rfl rfl)) (lt_row rs) rfl pl1 (value_ok g hr) rfl) rfl (ne_int r.2)
theorem b1_ok {p : List (Int × Int)} (g : Good rs) (hp : p ≠ [] ∧ p.Sublist rs) : b1 (EA d x2 x3 (some (rowD rs)) x5 x6 (some (rowD p)) x8 x9) (s.hp []) = .nx (EA d x2 x3 (some (rowD rs)) x5 x6 (some (rowD p)) x8 x9) (s.hp []) := by
  have hc : Iv.Cl [] := ⟨rfl, rfl⟩
  have gp := g.sub hp.2 hp.1
  have hh : mCallP f__law_hands [0] (mCons (mVar 7) mNil) mNil (EA d x2 x3 (some (rowD rs)) x5 x6 (some (rowD p)) x8 x9) (s.hp []) = .ok (hdsD (p.map (·.1))) (s.hp []) := by
    rw [lhands_eq]
    exact call1 (mCons_ok rfl rfl) (lt_row p) hc.plain (handsin_ok (Nat.le_trans gp.len (by decide))) (lt_hds _)
  have q := part_ok g hp.2 hp.1
  have a1 : (mCmp .NotEq (mCallP f_part [0, 1] (mCons (mVar 4) (mCons (mCallP f__law_hands [0] (mCons (mVar 7) mNil) mNil) mNil)) mNil) (mVar 7)) (EA d x2 x3 (some (rowD rs)) x5 x6 (some (rowD p)) x8 x9) (s.hp []) = .ok (.bl false) (s.hp []) := mCmp_ok (call2 (mCons_ok rfl (mCons_ok hh rfl)) (lt_row rs) (lt_hds _) hc.plain q (lt_row p)) rfl (ne_row p)
  have a2 : (mCmp .NotEq (mCallP f_part [1, 0] mNil (mCons (mCallP f__law_hands [0] (mCons (mVar 7) mNil) mNil) (mCons (mVar 4) mNil))) (mVar 7)) (EA d x2 x3 (some (rowD rs)) x5 x6 (some (rowD p)) x8 x9) (s.hp []) = .ok (.bl false) (s.hp []) := mCmp_ok (kw2 (mCons_ok hh (mCons_ok rfl rfl)) (lt_row rs) (lt_hds _) hc.plain q (lt_row p)) rfl (ne_row p)
  have q2 := ispart_ok gp g
  rw [List.all_eq_true.mpr fun r hr => decide_eq_true (hp.2.subset hr)] at q2
  have a3 : c5 (EA d x2 x3 (some (rowD rs)) x5 x6 (some (rowD p)) x8 x9) (s.hp []) = .ok (.bl false) (s.hp []) := mCmp_ok (call2 (mCons_ok rfl (mCons_ok rfl rfl)) (lt_row p) (lt_row rs) hc.plain q2 rfl) rfl rfl
  unfold b1
  rw [sCons_nx (sIf_nx ((mOr_f a1).trans a2)), sCons_nx (sIf_nx a3)]
  rfl
theorem l1_ok (g : Good rs) : ∀ (ps : List (List (Int × Int))) (x7 : Option D), (∀ p ∈ ps, p ≠ [] ∧ p.Sublist rs) → ∃ y7, forL (gNm 7) b1 (ps.map rowD) (EA d x2 x3 (some (rowD rs)) x5 x6 x7 x8 x9) (s.hp []) = .nx (EA d x2 x3 (some (rowD rs)) x5 x6 y7 x8 x9) (s.hp [])
  | [], x7, _ => ⟨x7, rfl⟩
  | p :: ps, x7, hp => by
    obtain ⟨y7, e⟩ := l1_ok g ps (some (rowD p)) fun q hq => hp q (List.mem_cons_of_mem _ hq)
    refine ⟨y7, ?_⟩
    show (b1 (EA d x2 x3 (some (rowD rs)) x5 x6 (some (rowD p)) x8 x9) (s.hp [])).loop _ = _
    rw [b1_ok g (hp p List.mem_cons_self)]
    exact e
theorem for1_ok (g : Good rs) : ∃ y7, sFor mParts7 (gNm 7) b1 (EA d x2 x3 (some (rowD rs)) x5 x6 x7 x8 x9) (s.hp []) = .nx (EA d x2 x3 (some (rowD rs)) x5 x6 y7 x8 x9) (s.hp []) := by
  have hc : Iv.Cl [] := ⟨rfl, rfl⟩
  obtain ⟨ps, _, _, hs, e1, _⟩ := parts_ok g
  obtain ⟨y7, e⟩ := l1_ok (d := d) (x2 := x2) (x3 := x3) (x5 := x5) (x6 := x6) (x8 := x8) (x9 := x9) (s := s) g ps x7 hs
  refine ⟨y7, ?_⟩
  have q : mParts7 (EA d x2 x3 (some (rowD rs)) x5 x6 x7 x8 x9) (s.hp []) = .ok (.fix (ps.map rowD)) (s.hp []) := by
    unfold mParts7 mSrc
    rw [call1 (mCons_ok rfl rfl) (lt_row rs) hc.plain e1 (lt_rows ps)]
    rfl
  rw [sFor_fix q]
  exact e
theorem b2_ok {p q : List (Int × Int)} {x4 : Option D} (gp : Good p) (gq : Good q) : b2 (EA d x2 x3 x4 x5 x6 x7 (some (rowD p)) (some (rowD q))) (s.hp []) = .nx (EA d x2 x3 x4 x5 x6 x7 (some (rowD p)) (some (rowD q))) (s.hp []) := by
  have hc : Iv.Cl [] := ⟨rfl, rfl⟩
  have a : c6 (EA d x2 x3 x4 x5 x6 x7 (some (rowD p)) (some (rowD q))) (s.hp []) = .ok (.bl false) (s.hp []) := by
    refine mNotb (x := true) ?_
    exact call2 (mCons_ok (kw2 (mCons_ok rfl (mCons_ok rfl rfl)) (lt_row p) (lt_row q) hc.plain (ispart_ok gp gq) rfl) (mCons_ok (call2 (mCons_ok rfl (mCons_ok rfl rfl)) (lt_row p) (lt_row q) hc.plain (lispart_ok gp) rfl) rfl)) rfl rfl hc.plain (says_ok _) rfl
  exact (sCons_nx (sIf_nx a)).trans rfl
theorem for2_ok (g : Good rs) (gq : Good qs) : ∃ y8 y9, sFor mThree g89 b2 (EA d x2 x3 (some (rowD rs)) (some (rowD qs)) x6 x7 x8 x9) (s.hp []) = .nx (EA d x2 x3 (some (rowD rs)) (some (rowD qs)) x6 x7 y8 y9) (s.hp []) := by
  have q : mThree (EA d x2 x3 (some (rowD rs)) (some (rowD qs)) x6 x7 x8 x9) (s.hp []) = .ok (.fix [.tup [rowD qs, rowD rs], .tup [rowD rs, rowD qs], .tup [rowD qs, rowD qs]]) (s.hp []) := by rfl
  refine ⟨some (rowD qs), some (rowD qs), ?_⟩
  rw [sFor_fix q]
  show (b2 (EA d x2 x3 (some (rowD rs)) (some (rowD qs)) x6 x7 (some (rowD qs)) (some (rowD rs))) (s.hp [])).loop _ = _
  rw [b2_ok gq g]
  show (b2 (EA d x2 x3 (some (rowD rs)) (some (rowD qs)) x6 x7 (some (rowD rs)) (some (rowD qs))) (s.hp [])).loop _ = _
  rw [b2_ok g gq]
  show (b2 (EA d x2 x3 (some (rowD rs)) (some (rowD qs)) x6 x7 (some (rowD qs)) (some (rowD qs))) (s.hp [])).loop _ = _
  rw [b2_ok gq gq]
  rfl
theorem c7_ok (g : Good rs) (gq : Good qs) (hn : rs.map (·.1) ∈ sub15) (hs : s.ok) : ∃ s' : Iv.St, s'.ok ∧ c7 (EA d x2 x3 (some (rowD rs)) (some (rowD qs)) x6 x7 x8 x9) (s.hp []) = .ok (.bl false) (s'.hp []) := by
  obtain ⟨s', g', e⟩ := refused_ok g gq hn hs
  refine ⟨s', g', mNotb (x := true) ?_⟩
  show chkR (gcR false 2 (f__law_refused [.ref 1, rowD rs, rowD qs] (s.hp []))) = _
  exact gc_frozen (tl := []) (j := []) ⟨rfl, rfl⟩ rfl (by rw [List.append_nil]; exact e)
end
theorem near_ok {d : D} {x2 x5 x6 x7 x8 x9 : Option D} {rs : List (Int × Int)} {vs : List Int} {s : Iv.St} (g : Good rs) (h3 : vs.length = 3) (hv : ∀ v ∈ vs, 0 ≤ v ∧ v ≤ 999999999) (hs : s.ok) : ∃ (s' : Iv.St) (qs : List (Int × Int)), s'.ok ∧ qs.map (·.1) = rs.map (·.1) ∧ (∀ r ∈ qs, 0 ≤ r.2 ∧ r.2 ≤ 999999999) ∧
    mNear (EA d x2 (some (.lst (vs.map .int))) (some (rowD rs)) x5 x6 x7 x8 x9) (s.hp []) = .ok (.lst (qs.map prD)) (s'.hp []) := by
  obtain ⟨s1, ys, g1, ly, hy, e1⟩ := each_comp (mi := mSrc (mVar 4)) (mt := gHV) (mc := mYesT) (me := mNearE) (own := [10, 11]) (env := EA d x2 (some (.lst (vs.map .int))) (some (rowD rs)) x5 x6 x7 x8 x9) (f := prD) (Q := fun a y => ∃ v, (0 ≤ v ∧ v ≤ 999999999) ∧ y = prD (a.1, v)) (as := rs) (s := s) (tl := []) ⟨rfl, rfl⟩ (by rfl) hs (by have := g.len; omega) (fun a ha s tl' hs hc => by
    have va := g.val a ha
    obtain ⟨s1, d1, g1, hd1, _, e1⟩ := pick_run (xs := vs.map .int) (ms := (mCons (mVar 1) (mCons (mVar 3) mNil))) (env := [some d, some (.ref 1), x2, some (.lst (vs.map .int)), some (rowD rs), x5, x6, x7, x8, x9, some (.int a.1), some (.int a.2)]) (by rw [List.length_map]; omega) (by rw [List.length_map]; omega) (ltDs_ints _ _) hs hc (mCons_ok rfl (mCons_ok rfl rfl))
    obtain ⟨w, hw, rfl⟩ := List.mem_map.mp hd1
    obtain ⟨s2, d2, g2, _, hd2, e2⟩ := callX_con (φ := pickF) (perm := [0, 1]) (ms := (mCons (mVar 1) (mCons (mLst false (mCons (mVar 11) (mCons (mVar 11) (mCons (mCallX f__law_pick false [0, 1] (mCons (mVar 1) (mCons (mVar 3) mNil)) mNil) mNil)))) mNil))) (mk := mNil) (env := [some d, some (.ref 1), x2, some (.lst (vs.map .int)), some (rowD rs), x5, x6, x7, x8, x9, some (.int a.1), some (.int a.2)]) (h := s.hp tl') (s := s1) (tl := tl') (ds := [.ref 1, .lst [.int a.2, .int a.2, .int w]]) (es := []) (pick_con (xs := [.int a.2, .int a.2, .int w]) (show 0 < 3 by decide) (show 3 < 1000000 by decide) rfl) (mCons_ok (h1 := s.hp tl') rfl (mCons_ok (mLst_ok (mCons_ok rfl (mCons_ok rfl (mCons_ok e1 rfl))) (show 3 ≤ most by decide)) rfl)) rfl g1 hc
    have hv2 : ∃ v, (0 ≤ v ∧ v ≤ 999999999) ∧ d2 = .int v := by
      simp only [List.mem_cons, List.not_mem_nil, or_false] at hd2
      rcases hd2 with rfl | rfl | rfl
      · exact ⟨_, va, rfl⟩
      · exact ⟨_, va, rfl⟩
      · exact ⟨_, hv w hw, rfl⟩
    obtain ⟨v, hv2, rfl⟩ := hv2
    have e2 : mCallX f__law_pick false [0, 1] (mCons (mVar 1) (mCons (mLst false (mCons (mVar 11) (mCons (mVar 11) (mCons (mCallX f__law_pick false [0, 1] (mCons (mVar 1) (mCons (mVar 3) mNil)) mNil) mNil)))) mNil)) mNil [some d, some (.ref 1), x2, some (.lst (vs.map .int)), some (rowD rs), x5, x6, x7, x8, x9, some (.int a.1), some (.int a.2)] (s.hp tl') = .ok (.int v) (s2.hp tl') := by
      rw [← pick_eq] at e2
      exact e2
    exact ⟨s2, prD (a.1, v), g2, rfl, ⟨v, hv2, rfl⟩, step_draw (e := [some d, some (.ref 1), x2, some (.lst (vs.map .int)), some (rowD rs), x5, x6, x7, x8, x9, some (.int a.1), some (.int a.2)]) rfl rfl (mTup_ok (ds := [.int a.1, .int v]) (mCons_ok rfl (mCons_ok e2 rfl)) (show 2 ≤ most by decide)) rfl⟩)
  obtain ⟨qs, rfl, h1, h2⟩ := rows_all2 (hd := fun a : Int × Int => a.1) (R := fun v => 0 ≤ v ∧ v ≤ 999999999) hy
  exact ⟨s1, qs, g1, h1, h2, e1⟩
theorem lap_ok {d : D} {x2 x3 x4 x5 x6 x7 x8 x9 : Option D} {s : Iv.St} (hs : s.ok) : ∃ (s' : Iv.St) (y3 y4 y5 y6 y7 y8 y9 : Option D), s'.ok ∧ bLap (EA d x2 x3 x4 x5 x6 x7 x8 x9) (s.hp []) = .nx (EA d x2 y3 y4 y5 y6 y7 y8 y9) (s'.hp []) := by
  have hc : Iv.Cl [] := ⟨rfl, rfl⟩
  obtain ⟨s1, _, g1, _, ⟨vs, rfl, v3, hv⟩, e1⟩ := callX_con (φ := f__law_values) (perm := [0, 1]) (ms := (mCons (mVar 1) (mCons (mCon (.int 3)) mNil))) (mk := mNil) (env := EA d x2 x3 x4 x5 x6 x7 x8 x9) (h := s.hp []) (ds := [.ref 1, .int 3]) (es := []) values_con rfl rfl hs hc
  obtain ⟨s2, _, g2, _, ⟨ns, rfl, nsub, nne⟩, e2⟩ := callX_con (φ := f__law_some_hands) (perm := [0, 1]) (ms := (mCons (mVar 1) (mCons (mCon (.int 4)) mNil))) (mk := mNil) (env := EA d x2 (some (.lst (vs.map .int))) x4 x5 x6 x7 x8 x9) (h := s1.hp []) (ds := [.ref 1, .int 4]) (es := []) some_con rfl rfl g1 hc
  have nl : ns.length ≤ 4 := nsub.length_le
  obtain ⟨s3, _, g3, _, ⟨rs, rfl, rn, rv⟩, e3⟩ := callX_con (φ := f__law_row) (perm := [0, 1, 2]) (ms := (mCons (mVar 1) (mCons mHands (mCons (mVar 3) mNil)))) (mk := mNil) (env := EA d x2 (some (.lst (vs.map .int))) x4 x5 x6 x7 x8 x9) (h := s1.hp []) (s := s2) (ds := [.ref 1, hdsD ns, .lst (vs.map .int)]) (es := []) (row_con (by omega) (by omega) (by omega)) (mCons_ok rfl (mCons_ok e2 (mCons_ok rfl rfl))) rfl g2 hc
  have n15 : rs.map (·.1) ∈ sub15 := by rw [rn]; exact sub_mem nsub nne
  have g : Good rs := good_of (by rw [rn]; exact nsub) (by rw [rn]; exact nne) fun r hr => hv _ (rv r hr)
  obtain ⟨s4, ms, g4, mn, mv, e4⟩ := near_ok (d := d) (x2 := x2) (x5 := x5) (x6 := x6) (x7 := x7) (x8 := x8) (x9 := x9) g v3 hv g3
  have gm : Good ms := good_of (by rw [mn, rn]; exact nsub) (by rw [mn, rn]; exact nne) mv
  obtain ⟨ps, pne, pl', psub, ep, _⟩ := parts_ok gm
  have et : (mBi false .tuple (mCons (mVar 5) mNil)) (EA d x2 (some (.lst (vs.map .int))) (some (rowD rs)) (some (.lst (ms.map prD))) x6 x7 x8 x9) (s4.hp []) = .ok (rowD ms) (s4.hp []) := by
    refine mBi_ok (mCons_ok rfl rfl) ?_
    show mkT (ms.map prD) (s4.hp []) = _
    unfold mkT
    rw [if_pos (by rw [List.length_map]; have := gm.len; unfold most; omega)]
    rfl
  obtain ⟨s5, q0, g5, hq, lq, e5⟩ := pick_run (xs := ps.map rowD) (ms := (mCons (mVar 1) (mCons (mCallP f__law_parts [0] (mCons (mBi false .tuple (mCons (mVar 5) mNil)) mNil) mNil) mNil))) (env := EA d x2 (some (.lst (vs.map .int))) (some (rowD rs)) (some (.lst (ms.map prD))) x6 x7 x8 x9) (s := s4) (by rw [List.length_map]; exact List.length_pos_iff.mpr pne) (by rw [List.length_map]; omega) (lt_rows ps) g4 hc (mCons_ok rfl (mCons_ok (call1 (mCons_ok et rfl) (lt_row ms) hc.plain ep (lt_rows ps)) rfl))
  obtain ⟨qs, hqs, rfl⟩ := List.mem_map.mp hq
  have gq : Good qs := gm.sub (psub qs hqs).2 (psub qs hqs).1
  obtain ⟨s6, odd, g6, lo, ⟨po, bo⟩, e6⟩ := callX_con (φ := f__law_odd_row) (perm := [0, 1]) (ms := (mCons (mVar 1) (mCons (mVar 4) mNil))) (mk := mNil) (env := EA d x2 (some (.lst (vs.map .int))) (some (rowD rs)) (some (rowD qs)) x6 x7 x8 x9) (h := s5.hp []) (ds := [.ref 1, rowD rs]) (es := []) (oddrow_con g) rfl rfl g5 hc
  obtain ⟨y7, e7⟩ := for1_ok (d := d) (x2 := x2) (x3 := some (.lst (vs.map .int))) (x5 := some (rowD qs)) (x6 := some odd) (x7 := x7) (x8 := x8) (x9 := x9) (s := s6) g
  obtain ⟨y8, y9, e8⟩ := for2_ok (d := d) (x2 := x2) (x3 := some (.lst (vs.map .int))) (x6 := some odd) (x7 := y7) (x8 := x8) (x9 := x9) (s := s6) g gq
  obtain ⟨s7, g7, e9⟩ := c7_ok (d := d) (x2 := x2) (x3 := some (.lst (vs.map .int))) (x6 := some odd) (x7 := y7) (x8 := y8) (x9 := y9) (s := s6) g gq n15 g6
  refine ⟨s7, some (.lst (vs.map .int)), some (rowD rs), some (rowD qs), some odd, y7, y8, y9, g7, ?_⟩
  unfold bLap
  rw [sCons_nx (sSet_to (e' := EA d x2 (some (.lst (vs.map .int))) x4 x5 x6 x7 x8 x9) e1 rfl), sCons_nx (sSet_to (e' := EA d x2 (some (.lst (vs.map .int))) (some (rowD rs)) x5 x6 x7 x8 x9) e3 rfl),
    sCons_nx (sSet_to (e' := EA d x2 (some (.lst (vs.map .int))) (some (rowD rs)) (some (.lst (ms.map prD))) x6 x7 x8 x9) e4 rfl), sCons_nx (sSet_to (e' := EA d x2 (some (.lst (vs.map .int))) (some (rowD rs)) (some (rowD qs)) x6 x7 x8 x9) e5 rfl),
    sCons_nx (sSet_to (e' := EA d x2 (some (.lst (vs.map .int))) (some (rowD rs)) (some (rowD qs)) (some odd) x7 x8 x9) e6 rfl),
    sCons_nx (sIf_nx (c1_ok g po bo)), sCons_nx (sIf_nx (c2_ok g)), sCons_nx (sIf_nx (c3_ok g)), sCons_nx e7, sCons_nx e8, sCons_nx (sIf_nx e9)]
  rfl
theorem laps_ok {d : D} : ∀ (xs : List D) (x2 x3 x4 x5 x6 x7 x8 x9 : Option D) (s : Iv.St), s.ok → ∃ (s' : Iv.St) (y2 y3 y4 y5 y6 y7 y8 y9 : Option D), s'.ok ∧ forL (gNm 2) bLap xs (EA d x2 x3 x4 x5 x6 x7 x8 x9) (s.hp []) = .nx (EA d y2 y3 y4 y5 y6 y7 y8 y9) (s'.hp [])
  | [], x2, x3, x4, x5, x6, x7, x8, x9, s, hs => ⟨s, _, _, _, _, _, _, _, _, hs, rfl⟩
  | x :: xs, x2, x3, x4, x5, x6, x7, x8, x9, s, hs => by
    obtain ⟨s1, y3, y4, y5, y6, y7, y8, y9, g1, e1⟩ := lap_ok (d := d) (x2 := some x) (x3 := x3) (x4 := x4) (x5 := x5) (x6 := x6) (x7 := x7) (x8 := x8) (x9 := x9) hs
    obtain ⟨s2, z2, z3, z4, z5, z6, z7, z8, z9, g2, e2⟩ := laps_ok (d := d) xs (some x) y3 y4 y5 y6 y7 y8 y9 s1 g1
    refine ⟨s2, z2, z3, z4, z5, z6, z7, z8, z9, g2, ?_⟩
    show (bLap (EA d (some x) x3 x4 x5 x6 x7 x8 x9) (s.hp [])).loop _ = _
    rw [e1]
    exact e2
abbrev mCount : MI := (mRng1 (mCons (mOp false .Add (mCon (.int 3)) (mBi false .min2 (mCons (mBi false .len (mCons (mVar 0) mNil)) (mCons (mCon (.int 3)) mNil)))) mNil))
theorem law_is : m_law = sCons (sSet 1 (mCallX f__law_begun true [0] (mCons (mVar 0) mNil) mNil)) (sCons (sFor mCount (gNm 2) bLap) (sCons (sRet (mCon (.bl true))) sNil)) := by
  unfold m_law
  rw [lap_is]
theorem law_true : ∀ ns : List Int, ns.length ≤ 63 → ∀ d, d = .scr (ns.map .int) ∨ d = .lst (ns.map .int) → ∃ h', f_law [d] [] = .ok (.bl true) h' := by
  intro ns hl d hd0
  obtain ⟨s0, g0, e0⟩ := begun_ok hl hd0
  rw [← begun_eq] at e0
  have hc0 : Iv.Cl [] := ⟨rfl, rfl⟩
  have e1 : (mCallX f__law_begun true [0] (mCons (mVar 0) mNil) mNil) [some d, none, none, none, none, none, none, none, none, none, none, none] [] = .ok (.ref 1) (s0.hp []) := by
    show chkR (gcR true 0 (f__law_begun [d] [])) = _
    rw [e0]
    show chkR (.ok (.ref 1) (s0.hp [])) = _
    have k1 : (s0.hp []).all (ltO (s0.hp []).length) = true := St.cl hc0
    unfold chkR
    dsimp only
    rw [k1]; rfl
  obtain ⟨n, hn⟩ : ∃ n : Int, n = 3 + (if (3 : Int) < ((ns.map D.int).length : Nat) then (3 : Int) else ((ns.map D.int).length : Nat)) := ⟨_, rfl⟩
  have len : (mBi false .len (mCons (mVar 0) mNil)) (EA d none none none none none none none none) (s0.hp []) = .ok (.int ((ns.map D.int).length : Nat)) (s0.hp []) := by
    rcases hd0 with rfl | rfl <;> rfl
  have rg : mCount (EA d none none none none none none none none) (s0.hp []) = .ok (.fix (rngD 0 n)) (s0.hp []) := by
    have m2 : (mBi false .min2 (mCons (mBi false .len (mCons (mVar 0) mNil)) (mCons (mCon (.int 3)) mNil))) (EA d none none none none none none none none) (s0.hp []) = .ok (.int (if (3 : Int) < ((ns.map D.int).length : Nat) then (3 : Int) else ((ns.map D.int).length : Nat))) (s0.hp []) := mBi_ok (mCons_ok len (mCons_ok rfl rfl)) rfl
    have m3 : (mOp false .Add (mCon (.int 3)) (mBi false .min2 (mCons (mBi false .len (mCons (mVar 0) mNil)) (mCons (mCon (.int 3)) mNil)))) (EA d none none none none none none none none) (s0.hp []) = .ok (.int n) (s0.hp []) := by rw [hn]; exact mOp_ok (x := .int 3) rfl m2 rfl
    unfold mCount mRng1
    rw [mCons_ok m3 nil_ok]
    show (if rngOk n then R.ok (Src.fix (rngD 0 n)) (s0.hp []) else .bad) = _
    rw [if_pos]
    unfold rngOk
    rw [List.length_map] at hn
    rw [Bool.and_eq_true]
    refine ⟨decide_eq_true ?_, decide_eq_true ?_⟩
    · split at hn <;> omega
    · split at hn <;> omega
  obtain ⟨s1, y2, y3, y4, y5, y6, y7, y8, y9, g1, e2⟩ := laps_ok (d := d) (rngD 0 n) none none none none none none none none s0 g0
  refine ⟨s1.hp [], defR_rt (k := 11) ?_⟩
  show m_law [some d, none, none, none, none, none, none, none, none, none, none, none] [] = _
  rw [law_is, sCons_nx (sSet_to (e' := EA d none none none none none none none none) e1 rfl)]
  refine (sCons_nx (e' := EA d y2 y3 y4 y5 y6 y7 y8 y9) (h' := s1.hp []) ?_).trans rfl
  rw [sFor_fix rg]
  exact e2
end K00

-- the row
open PySem PySem.W PyProof.Rows
set_option maxRecDepth 100000 in
set_option maxHeartbeats 0 in
theorem PySem.Challenge.cw_waitless_k00_rows_and_their_parts_holds : PySem.Challenge.rw_waitless_k00_rows_and_their_parts.Holds := by
  w_on; o_law; k_head; (case hw => w_witness2)
  k_fill
  refine LamX.walk_ofTs (l := PySem.Challenge.rw_waitless_k00_rows_and_their_parts) (n := 63) (k := 12) (x := "script") (CX := fun w => L2.CX PySem.Challenge.rw_waitless_k00_rows_and_their_parts.prog w) rfl (by decide) rfl ⟨rfl, by decide, by decide⟩ (fun w h Y => PySem.W.km_in_of Y) ?F (fun _ _ _ _ _ h => Iv.cx_false h)
  case F =>
    intro w mg fa h Y KX G hmg
    refine' K00.at_law KX G hmg ?cn ?tk ?k0 ?k1 ?k2 ?k3 ?pr_0_1 ?pr_0_2 ?pr_0_3 ?pr_1_2 ?pr_1_3 ?pr_2_1 ?pr_2_3 ?pr_3_1 ?pr_3_2 ?d0 ?d1 ?d2 ?d3 ?d4 ?d5 ?d6 ?d7 ?d8 ?d9 ?d10 ?d11 ?d12 ?d13 ?d14 ?d15 ?d16 ?d17 ?d18 ?d19 ?d20 ?d21 ?d22 ?d23 ?d24 ?d25 ?d26 ?d27 ?d28 ?d29 ?d30 ?d31 ?d32 ?d33 ?d34 ?d35 ?d36 ?d37 ?d38 ?d39 ?d40 ?t40 ?d41 ?z_abs ?z_all ?z_bool ?z_int ?z_isinstance ?z_len ?z_list ?z_min ?z_range ?z_sorted ?z_tuple ?z_zip ?n_GREATEST ?n_HANDS_MOST K00.law_true
    (case cn => k_is); (case tk => k_is)
    (case k0 => refine' ⟨?a, ?ex, ?kp, ?ty, ?is, ?ga, ?gt, ?sub, ?ca, ?mr, ?up, ?me, ?b0, ?b1, ?b2, ?b3, ?b4, ?b5, ?b6⟩; (case a => k_is); (case ex => k_exc); (case kp => k_is); (case ty => k_is); (case is => k_is); (case ga => k_is); (case gt => k_is); (case sub => k_is); (case ca => k_is); (case mr => k_is); (case up => k_is); (case me => k_is); (case b0 => k_is); (case b1 => k_is); (case b2 => k_is); (case b3 => k_is); (case b4 => k_is); (case b5 => k_is); (case b6 => k_is))
    (case k1 => refine' ⟨?a, ?ex, ?kp, ?ty, ?is, ?ga, ?gt, ?sub, ?ca, ?mr, ?up, ?me, ?b0, ?b1, ?b2, ?b3, ?b4, ?b5, ?b6⟩; (case a => k_is); (case ex => k_exc); (case kp => k_is); (case ty => k_is); (case is => k_is); (case ga => k_is); (case gt => k_is); (case sub => k_is); (case ca => k_is); (case mr => k_is); (case up => k_is); (case me => k_is); (case b0 => k_is); (case b1 => k_is); (case b2 => k_is); (case b3 => k_is); (case b4 => k_is); (case b5 => k_is); (case b6 => k_is))
    (case k2 => refine' ⟨?a, ?ex, ?kp, ?ty, ?is, ?ga, ?gt, ?sub, ?ca, ?mr, ?up, ?me, ?b0, ?b1, ?b2, ?b3, ?b4, ?b5, ?b6⟩; (case a => k_is); (case ex => k_exc); (case kp => k_is); (case ty => k_is); (case is => k_is); (case ga => k_is); (case gt => k_is); (case sub => k_is); (case ca => k_is); (case mr => k_is); (case up => k_is); (case me => k_is); (case b0 => k_is); (case b1 => k_is); (case b2 => k_is); (case b3 => k_is); (case b4 => k_is); (case b5 => k_is); (case b6 => k_is))
    (case k3 => refine' ⟨?a, ?ex, ?kp, ?ty, ?is, ?ga, ?gt, ?sub, ?ca, ?mr, ?up, ?me, ?b0, ?b1, ?b2, ?b3, ?b4, ?b5, ?b6⟩; (case a => k_is); (case ex => k_exc); (case kp => k_is); (case ty => k_is); (case is => k_is); (case ga => k_is); (case gt => k_is); (case sub => k_is); (case ca => k_is); (case mr => k_is); (case up => k_is); (case me => k_is); (case b0 => k_is); (case b1 => k_is); (case b2 => k_is); (case b3 => k_is); (case b4 => k_is); (case b5 => k_is); (case b6 => k_is))
    (case pr_0_1 => k_is)
    (case pr_0_2 => k_is)
    (case pr_0_3 => k_is)
    (case pr_1_2 => k_is)
    (case pr_1_3 => k_is)
    (case pr_2_1 => k_is)
    (case pr_2_3 => k_is)
    (case pr_3_1 => k_is)
    (case pr_3_2 => k_is)
    (case d0 => refine' ⟨_, _, _, _, _, _, _, _, _, ?a, ?l, ?c, ?k⟩; (case a => k_is); (case l => first | k_is | rfl | with_unfolding_all rfl); (case c => k_is); (case k => k_is))
    (case d1 => refine' ⟨_, _, _, _, _, _, _, _, _, ?a, ?l, ?c, ?k⟩; (case a => k_is); (case l => first | k_is | rfl | with_unfolding_all rfl); (case c => k_is); (case k => k_is))
    (case d2 => refine' ⟨_, _, _, _, _, _, _, _, _, ?a, ?l, ?c, ?k⟩; (case a => k_is); (case l => first | k_is | rfl | with_unfolding_all rfl); (case c => k_is); (case k => k_is))
    (case d3 => refine' ⟨_, _, _, _, _, _, _, _, _, ?a, ?l, ?c, ?k⟩; (case a => k_is); (case l => first | k_is | rfl | with_unfolding_all rfl); (case c => k_is); (case k => k_is))
    (case d4 => refine' ⟨_, _, _, _, _, _, _, _, _, ?a, ?l, ?c, ?k⟩; (case a => k_is); (case l => first | k_is | rfl | with_unfolding_all rfl); (case c => k_is); (case k => k_is))
    (case d5 => refine' ⟨_, _, _, _, _, _, _, _, _, ?a, ?l, ?c, ?k⟩; (case a => k_is); (case l => first | k_is | rfl | with_unfolding_all rfl); (case c => k_is); (case k => k_is))
    (case d6 => refine' ⟨_, _, _, _, _, _, _, _, _, ?a, ?l, ?c, ?k⟩; (case a => k_is); (case l => first | k_is | rfl | with_unfolding_all rfl); (case c => k_is); (case k => k_is))
    (case d7 => refine' ⟨_, _, _, _, _, _, _, _, _, ?a, ?l, ?c, ?k⟩; (case a => k_is); (case l => first | k_is | rfl | with_unfolding_all rfl); (case c => k_is); (case k => k_is))
    (case d8 => refine' ⟨_, _, _, _, _, _, _, _, _, ?a, ?l, ?c, ?k⟩; (case a => k_is); (case l => first | k_is | rfl | with_unfolding_all rfl); (case c => k_is); (case k => k_is))
    (case d9 => refine' ⟨_, _, _, _, _, _, _, _, _, ?a, ?l, ?c, ?k⟩; (case a => k_is); (case l => first | k_is | rfl | with_unfolding_all rfl); (case c => k_is); (case k => k_is))
    (case d10 => refine' ⟨_, _, _, _, _, _, _, _, _, ?a, ?l, ?c, ?k⟩; (case a => k_is); (case l => first | k_is | rfl | with_unfolding_all rfl); (case c => k_is); (case k => k_is))
    (case d11 => refine' ⟨_, _, _, _, _, _, _, _, _, ?a, ?l, ?c, ?k⟩; (case a => k_is); (case l => first | k_is | rfl | with_unfolding_all rfl); (case c => k_is); (case k => k_is))
    (case d12 => refine' ⟨_, _, _, _, _, _, _, _, _, ?a, ?l, ?c, ?k⟩; (case a => k_is); (case l => first | k_is | rfl | with_unfolding_all rfl); (case c => k_is); (case k => k_is))
    (case d13 => refine' ⟨_, _, _, _, _, _, _, _, _, ?a, ?l, ?c, ?k⟩; (case a => k_is); (case l => first | k_is | rfl | with_unfolding_all rfl); (case c => k_is); (case k => k_is))
    (case d14 => refine' ⟨_, _, _, _, _, _, _, _, _, ?a, ?l, ?c, ?k⟩; (case a => k_is); (case l => first | k_is | rfl | with_unfolding_all rfl); (case c => k_is); (case k => k_is))
    (case d15 => refine' ⟨_, _, _, _, _, _, _, _, _, ?a, ?l, ?c, ?k⟩; (case a => k_is); (case l => first | k_is | rfl | with_unfolding_all rfl); (case c => k_is); (case k => k_is))
    (case d16 => refine' ⟨_, _, _, _, _, _, _, _, _, ?a, ?l, ?c, ?k⟩; (case a => k_is); (case l => first | k_is | rfl | with_unfolding_all rfl); (case c => k_is); (case k => k_is))
    (case d17 => refine' ⟨_, _, _, _, _, _, _, _, _, ?a, ?l, ?c, ?k⟩; (case a => k_is); (case l => first | k_is | rfl | with_unfolding_all rfl); (case c => k_is); (case k => k_is))
    (case d18 => refine' ⟨_, _, _, _, _, _, _, _, _, ?a, ?l, ?c, ?k⟩; (case a => k_is); (case l => first | k_is | rfl | with_unfolding_all rfl); (case c => k_is); (case k => k_is))
    (case d19 => refine' ⟨_, _, _, _, _, _, _, _, _, ?a, ?l, ?c, ?k⟩; (case a => k_is); (case l => first | k_is | rfl | with_unfolding_all rfl); (case c => k_is); (case k => k_is))
    (case d20 => refine' ⟨_, _, _, _, _, _, _, _, _, ?a, ?l, ?c, ?k⟩; (case a => k_is); (case l => first | k_is | rfl | with_unfolding_all rfl); (case c => k_is); (case k => k_is))
    (case d21 => refine' ⟨_, _, _, _, _, _, _, _, _, ?a, ?l, ?c, ?k⟩; (case a => k_is); (case l => first | k_is | rfl | with_unfolding_all rfl); (case c => k_is); (case k => k_is))
    (case d22 => refine' ⟨_, _, _, _, _, _, _, _, _, ?a, ?l, ?c, ?k⟩; (case a => k_is); (case l => first | k_is | rfl | with_unfolding_all rfl); (case c => k_is); (case k => k_is))
    (case d23 => refine' ⟨_, _, _, _, _, _, _, _, _, ?a, ?l, ?c, ?k⟩; (case a => k_is); (case l => first | k_is | rfl | with_unfolding_all rfl); (case c => k_is); (case k => k_is))
    (case d24 => refine' ⟨_, _, _, _, _, _, _, _, _, ?a, ?l, ?c, ?k⟩; (case a => k_is); (case l => first | k_is | rfl | with_unfolding_all rfl); (case c => k_is); (case k => k_is))
    (case d25 => refine' ⟨_, _, _, _, _, _, _, _, _, ?a, ?l, ?c, ?k⟩; (case a => k_is); (case l => first | k_is | rfl | with_unfolding_all rfl); (case c => k_is); (case k => k_is))
    (case d26 => refine' ⟨_, _, _, _, _, _, _, _, _, ?a, ?l, ?c, ?k⟩; (case a => k_is); (case l => first | k_is | rfl | with_unfolding_all rfl); (case c => k_is); (case k => k_is))
    (case d27 => refine' ⟨_, _, _, _, _, _, _, _, _, ?a, ?l, ?c, ?k⟩; (case a => k_is); (case l => first | k_is | rfl | with_unfolding_all rfl); (case c => k_is); (case k => k_is))
    (case d28 => refine' ⟨_, _, _, _, _, _, _, _, _, ?a, ?l, ?c, ?k⟩; (case a => k_is); (case l => first | k_is | rfl | with_unfolding_all rfl); (case c => k_is); (case k => k_is))
    (case d29 => refine' ⟨_, _, _, _, _, _, _, _, _, ?a, ?l, ?c, ?k⟩; (case a => k_is); (case l => first | k_is | rfl | with_unfolding_all rfl); (case c => k_is); (case k => k_is))
    (case d30 => refine' ⟨_, _, _, _, _, _, _, _, _, ?a, ?l, ?c, ?k⟩; (case a => k_is); (case l => first | k_is | rfl | with_unfolding_all rfl); (case c => k_is); (case k => k_is))
    (case d31 => refine' ⟨_, _, _, _, _, _, _, _, _, ?a, ?l, ?c, ?k⟩; (case a => k_is); (case l => first | k_is | rfl | with_unfolding_all rfl); (case c => k_is); (case k => k_is))
    (case d32 => refine' ⟨_, _, _, _, _, _, _, _, _, ?a, ?l, ?c, ?k⟩; (case a => k_is); (case l => first | k_is | rfl | with_unfolding_all rfl); (case c => k_is); (case k => k_is))
    (case d33 => refine' ⟨_, _, _, _, _, _, _, _, _, ?a, ?l, ?c, ?k⟩; (case a => k_is); (case l => first | k_is | rfl | with_unfolding_all rfl); (case c => k_is); (case k => k_is))
    (case d34 => refine' ⟨_, _, _, _, _, _, _, _, _, ?a, ?l, ?c, ?k⟩; (case a => k_is); (case l => first | k_is | rfl | with_unfolding_all rfl); (case c => k_is); (case k => k_is))
    (case d35 => refine' ⟨_, _, _, _, _, _, _, _, _, ?a, ?l, ?c, ?k⟩; (case a => k_is); (case l => first | k_is | rfl | with_unfolding_all rfl); (case c => k_is); (case k => k_is))
    (case d36 => refine' ⟨_, _, _, _, _, _, _, _, _, ?a, ?l, ?c, ?k⟩; (case a => k_is); (case l => first | k_is | rfl | with_unfolding_all rfl); (case c => k_is); (case k => k_is))
    (case d37 => refine' ⟨_, _, _, _, _, _, _, _, _, ?a, ?l, ?c, ?k⟩; (case a => k_is); (case l => first | k_is | rfl | with_unfolding_all rfl); (case c => k_is); (case k => k_is))
    (case d38 => refine' ⟨_, _, _, _, _, _, _, _, _, ?a, ?l, ?c, ?k⟩; (case a => k_is); (case l => first | k_is | rfl | with_unfolding_all rfl); (case c => k_is); (case k => k_is))
    (case d39 => refine' ⟨_, _, _, _, _, _, _, _, _, ?a, ?l, ?c, ?k⟩; (case a => k_is); (case l => first | k_is | rfl | with_unfolding_all rfl); (case c => k_is); (case k => k_is))
    (case d40 => refine' ⟨_, _, _, _, _, _, _, _, ?qa, ?ql, ?qc, ?qk, ?qp, ?qe, ?qn⟩; (case qa => k_is); (case ql => first | k_is | rfl | with_unfolding_all rfl); (case qc => k_is); (case qk => k_is); (case qp => with_unfolding_all rfl); (case qe => with_unfolding_all rfl); (case qn => with_unfolding_all rfl))
    (case t40 => exact PySem.W.km_tabs_of Y _ (by decide))
    (case d41 => refine' ⟨_, _, _, _, _, _, _, _, _, ?a, ?l, ?c, ?k⟩; (case a => k_is); (case l => first | k_is | rfl | with_unfolding_all rfl); (case c => k_is); (case k => k_is))
    (case z_abs => k_is)
    (case z_all => k_is)
    (case z_bool => k_is)
    (case z_int => k_is)
    (case z_isinstance => k_is)
    (case z_len => k_is)
    (case z_list => k_is)
    (case z_min => k_is)
    (case z_range => k_is)
    (case z_sorted => k_is)
    (case z_tuple => k_is)
    (case z_zip => k_is)
    (case n_GREATEST => refine' ⟨_, ?a⟩; (case a => first | k_is | rfl | with_unfolding_all rfl))
    (case n_HANDS_MOST => refine' ⟨_, ?a⟩; (case a => first | k_is | rfl | with_unfolding_all rfl))

