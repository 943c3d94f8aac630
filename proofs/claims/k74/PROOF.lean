import PyProof.Rows.All
import Wide.All
import OpenK.AllK
import Wide.FinOn
import Lean
import PyProof.EqAt
import PyProof.EqKinds
import PyProof.TupleCall
import PyProof.DictWalks
import PyProof.DictKeyH
import PySem.Str
import PyProof.NeKinds
import KE.KRevSl
import KE.KDictSum
import PyProof.Rows.SortStr
import PyProof.IsiPairs
import PyProof.IsiHeapPairs
import PyProof.ZipIter
import KE.KSortAsk
import KE.KSortTup
import PyProof.EnumFor
import PyProof.EnumMake
import PyProof.StrWalks
import PyProof.Rows.EnumRows
import PyProof.Rows.FStr
import PyProof.Rows.SetFrom
import PyProof.CallStr
import PyProof.FitsBits
import KE.KUnpack
import KE.KTupSum
import KE.KDictOf
import PyProof.AttrMissHeap
import KE.KItemsList
import KE.KPairComp
import PySem.Challenge.RW_keptnest_k74_worth
section
-- CHANGE: your row's module here, as the last of these rows
set_option Elab.async false
set_option linter.all false
set_option maxRecDepth 100000
/-! THE HAND LAYER, for ints, bools, texts, own classes, LISTS and tuples (index, slices, in, append, pop ..), calls, loops. Paste it whole ahead of your own text; what your proof does not reach may be deleted. -/
namespace L2
open PySem PySem.Spec PyProof.Rows

/-- a key: an int or a str -/
abbrev Key := Sum Int Str
def keyIs : Key → Value → Bool
  | .inl k, v => Value.isInt k v
  | .inr x, v => Value.isStrOf x v
def keyH (w : World) : Key → Int
  | .inl k => hashInt k
  | .inr x => hashStr w x
theorem keyIs_shape : ∀ {k : Key} {v : Value}, keyIs k v = true → (∃ i t, k = Sum.inl i ∧ v = Value.int i t) ∨ (∃ x t, k = Sum.inr x ∧ v = Value.str x t)
  | .inl i, v, h => by
    obtain ⟨t, e⟩ := Value.isInt_shape (k := i) (v := v) h
    exact .inl ⟨i, t, rfl, e⟩
  | .inr x, v, h => by
    obtain ⟨t, e⟩ := Value.isStrOf_shape (x := x) (v := v) h
    exact .inr ⟨x, t, rfl, e⟩
theorem keyIs_int (i : Int) (t : Tok) : keyIs (.inl i) (.int i t) = true := by simp [keyIs, Value.isInt]
theorem keyIs_str (x : Str) (t : Tok) : keyIs (.inr x) (.str x t) = true := by simp [keyIs, Value.isStrOf]
theorem key_ll (a b : Int) : decide ((Sum.inl a : Key) = Sum.inl b) = (a == b) := by
  by_cases e : a = b
  · subst e; simp
  · have h : ¬ (Sum.inl a : Key) = Sum.inl b := fun q => e (Sum.inl.inj q)
    rw [decide_eq_false h]
    exact (beq_eq_false_iff_ne.mpr e).symm
theorem key_rr (a b : Str) : decide ((Sum.inr a : Key) = Sum.inr b) = decide (a = b) := by
  by_cases e : a = b
  · subst e; simp
  · have h : ¬ (Sum.inr a : Key) = Sum.inr b := fun q => e (Sum.inr.inj q)
    rw [decide_eq_false h, decide_eq_false e]
theorem key_lr (a : Int) (b : Str) : decide ((Sum.inl a : Key) = Sum.inr b) = false := decide_eq_false (fun q => nomatch q)
theorem key_rl (a : Str) (b : Int) : decide ((Sum.inr a : Key) = Sum.inl b) = false := decide_eq_false (fun q => nomatch q)

def mixKind (prog : Program) (w : World) : PySem.KeyKind prog w Key where
  is := keyIs
  hash := keyH w
  inj := fun v a b ha hb => by
    rcases keyIs_shape ha with ⟨i, t, rfl, rfl⟩ | ⟨x, t, rfl, rfl⟩
    · rcases keyIs_shape hb with ⟨j, u, rfl, e⟩ | ⟨y, u, rfl, e⟩
      · injection e with e1 _; rw [e1]
      · exact nomatch e
    · rcases keyIs_shape hb with ⟨j, u, rfl, e⟩ | ⟨y, u, rfl, e⟩
      · exact nomatch e
      · injection e with e1 _; rw [e1]
  byValue := fun k v h => by
    rcases keyIs_shape h with ⟨i, t, rfl, rfl⟩ | ⟨x, t, rfl, rfl⟩ <;> rfl
  pyHash := fun hv h => by
    rcases keyIs_shape hv with ⟨i, t, rfl, rfl⟩ | ⟨x, t, rfl, rfl⟩
    · exact wpAny_pyHash_int h
    · exact wpAny_pyHash_str h
  eqBool := fun hu hv h => by
    rcases keyIs_shape hu with ⟨i, t, rfl, rfl⟩ | ⟨x, t, rfl, rfl⟩
    · rcases keyIs_shape hv with ⟨j, u, rfl, rfl⟩ | ⟨y, u, rfl, rfl⟩
      · rw [key_ll] at h; exact wpAny_eqBool_int h
      · rw [key_lr] at h; exact SeqAt.EqAt.int_str i t y u _ _ _ _ h
    · rcases keyIs_shape hv with ⟨j, u, rfl, rfl⟩ | ⟨y, u, rfl, rfl⟩
      · rw [key_rl] at h; exact SeqAt.EqAt.str_int x t j u _ _ _ _ h
      · rw [key_rr] at h; exact wpAny_eqBool_str h
  «strs» := fun k x t v h => by
    rcases keyIs_shape h with ⟨i, u, rfl, e⟩ | ⟨y, u, rfl, e⟩
    · exact nomatch e
    · injection e with e1 _
      subst e1
      cases v <;> rfl

theorem mixKind_int (prog : Program) (w : World) (i : Int) (t : Tok) : (mixKind prog w).is (.inl i) (.int i t) = true := keyIs_int i t
theorem mixKind_str (prog : Program) (w : World) (x : Str) (t : Tok) : (mixKind prog w).is (.inr x) (.str x t) = true := keyIs_str x t
end L2

namespace L2
open PySem PySem.Spec PyProof.Rows

/-- a value, without the heap -/
inductive V where
  | non | bl (b : Bool) | int (i : Int) | str (x : Str) | byt (b : Array UInt8) | flt (b : UInt64) | ref (a : Addr) | ty (n : String)
  deriving DecidableEq

def RelV : V → Value → Prop
  | .non, u => u = Value.none
  | .bl b, u => u = Value.bool b
  | .int i, u => ∃ t, u = Value.int i t
  | .str x, u => ∃ t, u = Value.str x t
  | .byt b, u => ∃ t, u = Value.bytes b t
  | .flt b, u => ∃ t, u = Value.float b t
  | .ref a, u => u = Value.ref a
  | .ty n, u => u = Value.type n

abbrev Vals : List V → List Value → Prop := Paired RelV
theorem Vals.length {xs : List V} {us : List Value} (r : Vals xs us) : xs.length = us.length := Paired.length r
theorem Vals.get : ∀ {xs : List V} {us : List Value} {i : Nat} {x : V}, Vals xs us → xs[i]? = some x → ∃ u, us[i]? = some u ∧ RelV x u
  | _, _, _, _, .nil, e => by simp at e
  | _, _, 0, _, .cons r _, e => by simp at e; subst e; exact ⟨_, rfl, r⟩
  | _, _, i + 1, x, .cons _ t, e => by
    obtain ⟨u, h1, h2⟩ := Vals.get (i := i) (x := x) t (by simpa using e)
    exact ⟨u, by simpa using h1, h2⟩
theorem Vals.set {x : V} {u : Value} (r : RelV x u) : ∀ {xs : List V} {us : List Value} (i : Nat), Vals xs us → Vals (xs.set i x) (us.set i u)
  | _, _, _, .nil => .nil
  | _, _, 0, .cons _ t => .cons r t
  | _, _, i + 1, .cons q t => .cons q (Vals.set r i t)
theorem Vals.append : ∀ {xs ys : List V} {us ws : List Value}, Vals xs us → Vals ys ws → Vals (xs ++ ys) (us ++ ws)
  | _, _, _, _, .nil, s => s
  | _, _, _, _, .cons r t, s => .cons r (Vals.append t s)
theorem Vals.take : ∀ {xs : List V} {us : List Value} (n : Nat), Vals xs us → Vals (xs.take n) (us.take n)
  | _, _, 0, _ => .nil
  | _, _, _ + 1, .nil => .nil
  | _, _, n + 1, .cons r t => .cons r (Vals.take n t)
theorem Vals.drop : ∀ {xs : List V} {us : List Value} (n : Nat), Vals xs us → Vals (xs.drop n) (us.drop n)
  | _, _, 0, r => r
  | _, _, _ + 1, .nil => .nil
  | _, _, n + 1, .cons _ t => Vals.drop n t

def RelO : Option V → Option Value → Prop
  | some v, some u => RelV v u
  | none, none => True
  | _, _ => False
def KV {κ : Type} : List (κ × V) → List (κ × Value) → Prop := Paired fun (p : κ × V) (q : κ × Value) => p.1 = q.1 ∧ RelV p.2 q.2

/-- a key of a dict (00_mix): an int or a text -/
def kV : Key → V
  | .inl i => .int i
  | .inr x => .str x

/-- what stands at a tracked address -/
inductive HO where
  /-- a list -/
  | lst (xs : List V)
  /-- a tuple (never changes) -/
  | tup (xs : List V)
  /-- a dict whose keys are ints and texts; one whose keys are tuples of ints and texts (the empty one is both) -/
  | dK (kvs : List (Key × V)) | dT (kvs : List (List Key × V))
  /-- a set of ints: its members, its size -/
  | set (S : Int → Bool) (n : Nat)
  /-- an instance of the class at C, its dict at dx, its attributes -/
  | ins (C dx : Addr) (fs : List (Str × V))
  /-- the dict of the instance at x -/
  | own (x : Addr)
  /-- the dict of an exception -/
  | xd (fs : List (Str × V))
  /-- a bound method, f of x -/
  | met (f x : Addr)
  /-- a range object lo, lo + 1, .. below hi -/
  | rng (lo hi : Int)
  /-- a thing that is known to the object (the script; a dict while a loop walks it): read, never written while it is so -/
  | frz (o : Obj) (u : HO)
  /-- a code object's table -/
  | tbl (ps : Array Value)
  /-- any other thing, by what is true of its one object (a def of one's own: SetO a S n := HO.ext fun h => ..) -/
  | ext (φ : Heap → Prop)

abbrev Hp := Addr → Option HO
def upd (H : Hp) (a : Addr) (o : HO) : Hp := fun b => if b = a then some o else H b
theorem upd_same {H : Hp} {a : Addr} {o : HO} : upd H a o a = some o := by unfold upd; rw [if_pos rfl]
theorem upd_ne {H : Hp} {a b : Addr} {o : HO} (h : b ≠ a) : upd H a o b = H b := by unfold upd; rw [if_neg h]
/-- two objects of different content stand apart -/
theorem ne_of {H : Hp} {a b : Addr} {o u : HO} (h : H a = some o) (h' : H b = some u) (d : o ≠ u) : a ≠ b := by
  intro e; subst e; rw [h] at h'; exact d (Option.some.inj h')
theorem ne_of_none {H : Hp} {a b : Addr} {o : HO} (h : H a = some o) (h' : H b = none) : a ≠ b := by
  intro e; subst e; rw [h] at h'; cases h'

def TupD (h : Heap) (a : Addr) (n : Nat) : Prop := n ≤ sizeLine ∧ ∀ o, h.get? a = some o → o.dict = none
theorem tupD_new {h : Heap} {its : Array Value} {k n : Nat} (z : n ≤ sizeLine) : TupD (h.push { cls := .type "tuple", data := .seq its k }) h.objs.size n :=
  ⟨z, fun o q => by rw [Heap.get?_push_size _ rfl] at q; cases q; rfl⟩
theorem tupD_at {h : Heap} {a : Addr} {o : Obj} {n : Nat} (z : n ≤ sizeLine) (e : h.get? a = some o) (d : o.dict = none) : TupD h a n :=
  ⟨z, fun o' q => by rw [e] at q; cases q; exact d⟩
section
variable (P : Program) (w : World)
def ObjOk (H : Hp) (h : Heap) (a : Addr) : HO → Prop
  | .lst xs => xs.length ≤ sizeLine ∧ ∃ (its : List Value) (n : Nat), Vals xs its ∧ h.get? a = some { cls := .type "list", data := .seq its.toArray n }
  | .tup xs => TupD h a xs.length ∧ ∃ its : List Value, Vals xs its ∧ IsTup h a its.toArray
  | .dK kvs => kvs.length ≤ sizeLine ∧ (a == sysModules) = false ∧ ∃ vs, KV kvs vs ∧ h.DictOf (mixKind P w) a vs
  | .dT kvs => kvs.length ≤ sizeLine ∧ (a == sysModules) = false ∧ ∃ xs : List (List Key × Addr × Value),
      Paired (fun (p : List Key × V) (q : List Key × Addr × Value) => p.1 = q.1 ∧ H q.2.1 = some (.tup (p.1.map kV)) ∧ RelV p.2 q.2.2) kvs xs ∧
      ∃ o es ep, h.get? a = some o ∧ o.ExactDict ∧ o.data = .dict es ep ∧ es.toList = xs.map (entryOfKey (tupleKind (mixKind P w))) ∧ (xs.map (·.1)).Nodup
  | .set S n => h.SetOf (intKind P w) a S n
  | .ins C dx fs => H dx = some (.own a) ∧ fs.length ≤ 1000 ∧ dx ≠ a ∧ h.get? a = some (PySem.W.instObj C dx) ∧
      ∃ mA, h.Ns1 dx mA ∧ (∀ f, RelO (fs.lookup f) (mA f)) ∧ PySem.Within mA (fs.map (·.1))
  | .own _ => ∃ o, h.get? a = some o
  | .xd fs => ∃ mA, h.Ns1 a mA ∧ ∀ f, RelO (fs.lookup f) (mA f)
  | .rng lo hi => ∃ t u v, h.get? a = some { cls := .type "range", data := .fields #[.int lo t, .int hi u, .int 1 v] }
  | .frz o u => h.get? a = some o ∧ ObjOk H h a u
  | .tbl ps => h.get? a = some { cls := .none, data := .fields ps }
  | .met f x => h.get? a = some (PySem.W.methodObj (.ref f) (.ref x))
  | .ext φ => φ h ∧ (∃ o, h.get? a = some o) ∧ ∀ h1 h2 : Heap, φ h1 → (∀ o, h1.get? a = some o → h2.get? a = some o) → φ h2
/-- the abstract heap is held -/
def HOk (H : Hp) (h : Heap) : Prop := ∀ a o, H a = some o → ObjOk P w H h a o
end

section
variable {P : Program} {w : World} {H H' : Hp} {h h' : Heap} {a : Addr} {o : HO}
theorem ObjOk.lt (x : ObjOk P w H h a o) : a < h.objs.size := by
  cases o with
  | lst xs => obtain ⟨_, _, _, _, e⟩ := x; exact Heap.lt_size e
  | tup xs => obtain ⟨_, _, _, p⟩ := x; exact p.lt
  | dK kvs => obtain ⟨_, _, _, _, o, _, _, e, _⟩ := x; exact Heap.lt_size e
  | dT kvs => obtain ⟨_, _, _, _, o, _, _, e, _⟩ := x; exact Heap.lt_size e
  | set S n => obtain ⟨o, _, _, _, e, _⟩ := x; exact Heap.lt_size e
  | ins C dx fs => obtain ⟨_, _, _, e, _⟩ := x; exact Heap.lt_size e
  | own y => obtain ⟨_, e⟩ := x; exact Heap.lt_size e
  | xd fs => obtain ⟨_, ⟨_, _, _, e, _⟩, _⟩ := x; exact Heap.lt_size e
  | rng lo hi => obtain ⟨_, _, _, e⟩ := x; exact Heap.lt_size e
  | frz ob u => obtain ⟨e, _⟩ := x; exact Heap.lt_size e
  | tbl ps => exact Heap.lt_size (show h.get? a = some _ from x)
  | met f y => exact Heap.lt_size (show h.get? a = some _ from x)
  | ext φ => obtain ⟨_, ⟨_, e⟩, _⟩ := x; exact Heap.lt_size e
theorem Paired.mapP {α β : Type} {F G : α → β → Prop} : ∀ {l₁ : List α} {l₂ : List β}, Paired F l₁ l₂ → (∀ a b, F a b → G a b) → Paired G l₁ l₂
  | _, _, .nil, _ => .nil
  | _, _, .cons r t, f => .cons (f _ _ r) (Paired.mapP t f)
/-- what an object's description leans on: its own object, its own dict, the tuples -/
theorem ObjOk.stay (x : ObjOk P w H h a o) (k : ∀ b u, (b = a ∨ H b = some (.own a)) → h.get? b = some u → h'.get? b = some u)
    (ho : ∀ b, H b = some (.own a) → H' b = some (.own a)) (ht : ∀ b xs, H b = some (.tup xs) → H' b = some (.tup xs)) : ObjOk P w H' h' a o := by
  induction o with
  | lst xs => obtain ⟨z, its, n, r, e⟩ := x; exact ⟨z, its, n, r, k _ _ (.inl rfl) e⟩
  | tup xs => obtain ⟨z, its, r, ob, e, c⟩ := x; exact ⟨tupD_at z.1 (k _ _ (.inl rfl) e) (z.2 _ e), its, r, ob, k _ _ (.inl rfl) e, c⟩
  | dK kvs => obtain ⟨z, y, vs, r, ob, es, ep, e, c⟩ := x; exact ⟨z, y, vs, r, ob, es, ep, k _ _ (.inl rfl) e, c⟩
  | dT kvs =>
    obtain ⟨z, y, xs, r, ob, es, ep, e, c⟩ := x
    exact ⟨z, y, xs, Paired.mapP r fun p q z => ⟨z.1, ht _ _ z.2.1, z.2.2⟩, ob, es, ep, k _ _ (.inl rfl) e, c⟩
  | set S n => obtain ⟨ob, es, ep, t, e, c⟩ := x; exact ⟨ob, es, ep, t, k _ _ (.inl rfl) e, c⟩
  | ins C dx fs =>
    obtain ⟨d, z, ne, e, mA, ⟨od, es, ep, e2, c⟩, r⟩ := x
    exact ⟨ho _ d, z, ne, k _ _ (.inl rfl) e, mA, ⟨od, es, ep, k _ _ (.inr d) e2, c⟩, r⟩
  | own y => obtain ⟨ob, e⟩ := x; exact ⟨ob, k _ _ (.inl rfl) e⟩
  | xd fs => obtain ⟨mA, ⟨od, es, ep, e, c⟩, r⟩ := x; exact ⟨mA, ⟨od, es, ep, k _ _ (.inl rfl) e, c⟩, r⟩
  | rng lo hi => obtain ⟨t, u, v, e⟩ := x; exact ⟨t, u, v, k _ _ (.inl rfl) e⟩
  | frz ob u ih => obtain ⟨e, q⟩ := x; exact ⟨k _ _ (.inl rfl) e, ih q⟩
  | tbl ps =>
    have e : h.get? a = some { cls := .none, data := .fields ps } := x
    show h'.get? a = some { cls := .none, data := .fields ps }
    exact k a _ (.inl rfl) e
  | met f y =>
    have e : h.get? a = some (PySem.W.methodObj (.ref f) (.ref y)) := x
    show h'.get? a = some (PySem.W.methodObj (.ref f) (.ref y))
    exact k a _ (.inl rfl) e
  | ext φ => obtain ⟨p, ⟨o, e⟩, st⟩ := x; exact ⟨st _ _ p fun o q => k _ _ (.inl rfl) q, ⟨o, k _ _ (.inl rfl) e⟩, st⟩
theorem HOk.lt (x : HOk P w H h) (e : H a = some o) : a < h.objs.size := (x a o e).lt
theorem HOk.fresh (x : HOk P w H h) (e : h.objs.size ≤ a) : H a = none := by
  cases q : H a with
  | none => rfl
  | some u => exact absurd (Nat.lt_of_lt_of_le (x.lt q) e) (Nat.lt_irrefl _)
/-- every object of the heap is kept -/
theorem HOk.kept (x : HOk P w H h) (k : ∀ b u, h.get? b = some u → h'.get? b = some u) : HOk P w H h' := fun a o e =>
  (x a o e).stay (fun b u _ q => k b u q) (fun _ q => q) fun _ _ q => q
/-- a new object is laid and tracked -/
theorem HOk.laid (x : HOk P w H h) (k : ∀ b u, h.get? b = some u → h'.get? b = some u) (hp : h.objs.size ≤ a) (new : ObjOk P w (upd H a o) h' a o) : HOk P w (upd H a o) h' := fun b u e => by
  have hn := x.fresh hp
  by_cases hb : b = a
  · subst hb; rw [upd_same] at e; cases e; exact new
  · rw [upd_ne hb] at e
    exact (x b u e).stay (fun c v _ q => k c v q) (fun c q => by rw [upd_ne (ne_of_none q hn)]; exact q) fun c xs q => by rw [upd_ne (ne_of_none q hn)]; exact q
end

/-- what may be read as u: it is u, or a known u -/
def Rd (H : Hp) (a : Addr) (u : HO) : Prop := H a = some u ∨ ∃ o, H a = some (.frz o u)
theorem Rd.of {H : Hp} {a : Addr} {u : HO} (h : H a = some u) : Rd H a u := .inl h
theorem Rd.ok {P : Program} {w : World} {H : Hp} {h : Heap} {a : Addr} {u : HO} (r : Rd H a u) (x : HOk P w H h) : ObjOk P w H h a u := by
  rcases r with r | ⟨o, r⟩
  · exact x a u r
  · obtain ⟨_, q⟩ := x a _ r
    exact q
/-- what may be written -/
def Mut : Option HO → Prop
  | some (.lst _) => True
  | some (.dK _) => True
  | some (.dT _) => True
  | some (.set _ _) => True
  | some (.ins _ _ _) => True
  | some (.ext _) => True
  | _ => False
section
variable {P : Program} {w : World} {H : Hp} {h h' : Heap} {x e : Addr} {o' : HO}
/-- the object at e is changed: x itself, or the dict of the instance x -/
theorem HOk.write (ok : HOk P w H h) (mu : Mut (H x)) (he : e = x ∨ H e = some (.own x)) (k : ∀ b u, b ≠ e → h.get? b = some u → h'.get? b = some u) (heo : ∃ u, h'.get? e = some u)
    (new : ObjOk P w (upd H x o') h' x o') : HOk P w (upd H x o') h' := fun b u q => by
  have nown : ∀ c y, H c = some (.own y) → c ≠ x := fun c y r z => by subst z; rw [r] at mu; exact mu
  have ntup : ∀ c xs, H c = some (.tup xs) → c ≠ x := fun c xs r z => by subst z; rw [r] at mu; exact mu
  by_cases hb : b = x
  · subst hb; rw [upd_same] at q; cases q; exact new
  · rw [upd_ne hb] at q
    by_cases hbe : b = e
    · have q' : H b = some (.own x) := by
        rcases he with z | z
        · exact absurd (hbe.trans z) hb
        · rw [hbe]; exact z
      rw [q] at q'; cases q'
      obtain ⟨v, hv⟩ := heo
      exact ⟨v, by rw [hbe]; exact hv⟩
    · refine (ok b u q).stay (fun c v hc r => k c v ?_ r) (fun c r => by rw [upd_ne (nown c b r)]; exact r) fun c xs r => by rw [upd_ne (ntup c xs r)]; exact r
      rcases hc with rfl | hc
      · exact hbe
      · rintro rfl
        rcases he with z | z
        · exact nown c b hc z
        · rw [hc] at z; cases z; exact hb rfl
end

/-! ### kept unless tracked; of the frames at fs (the callers') the slots may change (an exception that passes writes there); of the records at ex (iterators) nothing is said -/
structure Un (fs ex : List Addr) (H H' : Hp) (h h' : Heap) : Prop where
  keep : ∀ b o, h.get? b = some o → H b = none → b ∉ fs → b ∉ ex → h'.get? b = some o
  slot : ∀ b o, h.get? b = some o → H b = none → b ∈ fs → b ∉ ex → ∃ sl, h'.get? b = some { o with slots := sl }
  free : ∀ b o, h.get? b = some o → H b = none → b ∉ ex → H' b = none
  there : ∀ b o, h.get? b = some o → b ∉ ex → ∃ o', h'.get? b = some o'
  tups : ∀ b xs, H b = some (.tup xs) → H' b = some (.tup xs)
  frzs : ∀ b o u, H b = some (.frz o u) → H' b = some (.frz o u)
  tbls : ∀ b ps, H b = some (.tbl ps) → ∃ more, H' b = some (.tbl (ps ++ more))
section
variable {fs fs' ex ex' : List Addr} {H H1 H2 : Hp} {h h1 h2 h' : Heap} {a x e : Addr} {o : HO}
theorem Un.any (u : Un fs ex H H1 h h1) {b : Addr} {ob : Obj} (q : h.get? b = some ob) (n : H b = none) (hx : b ∉ ex) : ∃ sl, h1.get? b = some { ob with slots := sl } := by
  by_cases hb : b ∈ fs
  · exact u.slot b ob q n hb hx
  · exact ⟨ob.slots, u.keep b ob q n hb hx⟩
theorem Un.trans (a : Un fs ex H H1 h h1) (b : Un fs ex H1 H2 h1 h2) : Un fs ex H H2 h h2 where
  keep := fun c ob q n hc hx => b.keep c ob (a.keep c ob q n hc hx) (a.free c ob q n hx) hc hx
  slot := fun c ob q n hc hx => by
    obtain ⟨sl, e1⟩ := a.slot c ob q n hc hx
    obtain ⟨sl', e2⟩ := b.slot c _ e1 (a.free c ob q n hx) hc hx
    exact ⟨sl', e2⟩
  free := fun c ob q n hx => by
    obtain ⟨o', e1⟩ := a.there c ob q hx
    exact b.free c o' e1 (a.free c ob q n hx) hx
  there := fun c ob q hx => by
    obtain ⟨o', e1⟩ := a.there c ob q hx
    exact b.there c o' e1 hx
  tups := fun c xs q => b.tups c xs (a.tups c xs q)
  frzs := fun c ob xs q => b.frzs c ob xs (a.frzs c ob xs q)
  tbls := fun c ps q => by
    obtain ⟨m1, e1⟩ := a.tbls c ps q
    obtain ⟨m2, e2⟩ := b.tbls c _ e1
    exact ⟨m1 ++ m2, by rw [e2, Array.append_assoc]⟩
theorem Un.kept (k : ∀ b u, h.get? b = some u → h'.get? b = some u) : Un fs ex H H h h' :=
  ⟨fun b ob q _ _ _ => k b ob q, fun b ob q _ _ _ => ⟨ob.slots, k b ob q⟩, fun _ _ _ n _ => n, fun b ob q _ => ⟨ob, k b ob q⟩, fun _ _ q => q, fun _ _ _ q => q, fun _ ps q => ⟨#[], by rw [q]; simp⟩⟩
theorem Un.refl : Un fs ex H H h h := Un.kept fun _ _ q => q
theorem Un.laid (k : ∀ b u, h.get? b = some u → h'.get? b = some u) (hp : h.objs.size ≤ a) (hn : H a = none) : Un fs ex H (upd H a o) h h' where
  keep := fun b u q _ _ _ => k b u q
  slot := fun b u q _ _ _ => ⟨u.slots, k b u q⟩
  free := fun b u q n _ => by rw [upd_ne (Nat.ne_of_lt (Nat.lt_of_lt_of_le (Heap.lt_size q) hp))]; exact n
  there := fun b u q _ => ⟨u, k b u q⟩
  tups := fun b xs q => by rw [upd_ne (ne_of_none q hn)]; exact q
  frzs := fun b u xs q => by rw [upd_ne (ne_of_none q hn)]; exact q
  tbls := fun b ps q => ⟨#[], by rw [upd_ne (ne_of_none q hn), q]; simp⟩
theorem Un.write (mu : Mut (H x)) (he : e = x ∨ H e = some (.own x)) (k : ∀ b u, b ≠ e → h.get? b = some u → h'.get? b = some u) (heo : ∃ u, h'.get? e = some u) : Un fs ex H (upd H x o) h h' := by
  have hx : ∀ b, H b = none → b ≠ x := fun b n z => by subst z; rw [n] at mu; exact mu
  have hb : ∀ b, H b = none → b ≠ e := fun b n z => by
    subst z
    rcases he with r | r
    · exact hx b n r
    · rw [n] at r; cases r
  have hm : ∀ b u, H b = some u → ¬ Mut (some u) → b ≠ x := fun b u q nm z => by subst z; rw [q] at mu; exact nm mu
  refine ⟨fun b u q n _ _ => k b u (hb b n) q, fun b u q n _ _ => ⟨u.slots, k b u (hb b n) q⟩, fun b u q n _ => by rw [upd_ne (hx b n)]; exact n, fun b u q _ => ?_,
    fun b xs q => by rw [upd_ne (hm b _ q fun z => z)]; exact q, fun b u xs q => by rw [upd_ne (hm b _ q fun z => z)]; exact q, fun b ps q => ⟨#[], by rw [upd_ne (hm b _ q fun z => z), q]; simp⟩⟩
  by_cases hbe : b = e
  · subst hbe; exact heo
  · exact ⟨u, k b u hbe q⟩
theorem Un.mono (u : Un fs ex H H1 h h1) (hs : ∀ b ∈ fs, b ∈ fs') (hx : ∀ b ∈ ex, b ∈ ex') : Un fs' ex' H H1 h h1 :=
  ⟨fun b ob q n hb he => u.keep b ob q n (fun z => hb (hs b z)) fun z => he (hx b z), fun _ _ q n _ he => u.any q n fun z => he (hx _ z), fun b ob q n he => u.free b ob q n fun z => he (hx b z), fun b ob q he => u.there b ob q fun z => he (hx b z), u.tups, u.frzs, u.tbls⟩
end

/-! ### the heap without what is tracked -/
def trk (h : Heap) (H : Hp) : List Addr := (List.range h.objs.size).filter fun a => (H a).isSome
def hidT (h : Heap) (H : Hp) : Heap := PySem.W.hideAll h (trk h H)
theorem hidT_size (h : Heap) (H : Hp) : (hidT h H).objs.size = h.objs.size := PySem.W.hideAll_size _ _
theorem hidT_get {h : Heap} {H : Hp} {b : Addr} {o : Obj} (e : h.get? b = some o) (n : H b = none) : (hidT h H).get? b = some o :=
  PySem.W.hideAll_get _ e fun hm => by
    have q : (H b).isSome = true := (List.mem_filter.mp hm).2
    rw [n] at q; simp at q
theorem of_hidT {h : Heap} {H : Hp} {b : Addr} {o : Obj} (e : (hidT h H).get? b = some o) : h.get? b = some o ∧ H b = none := by
  have e' : h.get? b = some o := PySem.W.of_hideAll (trk h H) e
  refine ⟨e', ?_⟩
  cases q : H b with
  | none => rfl
  | some x =>
    have hm : b ∈ trk h H := List.mem_filter.mpr ⟨List.mem_range.mpr (Heap.lt_size e'), by simp [q]⟩
    have z : (hidT h H).get? b = none := PySem.W.hideAll_none (trk h H) hm
    rw [z] at e; cases e

/-! ### OpenK's ledger, filled with every new object but one -/
def allNews (g h : Heap) (L : Addr) : List (Addr × Obj) := (List.range h.objs.size).filterMap fun a => if a = L ∨ (g.get? a).isSome = true then none else (h.get? a).map fun o => (a, o)
def rest (g h : Heap) (L d : Addr) : List (Addr × Obj) := (allNews g h L).filter fun p => decide (p.1 ≠ d)
end L2

namespace L2
open PySem PySem.Spec PyProof.Rows

/-- the module's facts, over the base: the heap at the law's entry without what is tracked there -/
structure Mod (K : PySem.W.Frag) (mg : Str → Option Value) (base : Heap) : Prop where
  kin : K.In base
  glob : base.Ns mainGlobals mg
  blt : ∃ mb, base.Ns builtinsNs mb ∧ ∀ x : Str, x ≠ "__name__" → mb x = bootBuiltins x
  nolimit : base.NoLimit

/-- the context: a def's body (or a comprehension's block) running. base: fixed through the whole law; s₀, H₀: the entry; outer: the frames whose slots others may change (a def's callers); stack: all frames that run;
   ex: iterators that were made ahead of the entry and are walked here (a comprehension's); fn: the names whose cells were made at the entry (a def: all; a comprehension's block: its own); calm: not within an except suite; pn: pins that every state bears; xe: what is wanted of an exception that leaves the code -/
structure Cx where
  prog : Program
  w : World
  K : PySem.W.Frag
  mg : Str → Option Value
  base : Heap
  A : Around
  N : List Str
  s₀ : Shared
  H₀ : Hp
  env : Env
  outer : List Env
  stack : List Env
  ex : List Addr
  fn : Str → Bool
  calm : Bool
  pn : List (Addr × Obj)
  xe : Value → Shared → Prop
/-- the callers' frames -/
def frs (l : List Env) : List Addr := l.filterMap (·.frame)
abbrev Cx.fs (X : Cx) : List Addr := frs X.outer

def Vis (sc : Scope) (x : Str) : Prop := sc.names.lookup x = some .local ∨ sc.names.lookup x = some .cell ∨ sc.names.lookup x = some .free
def Loc (sc : Scope) (x : Str) : Prop := sc.names.lookup x = some .local ∨ sc.names.lookup x = some .cell
def Look (env : Env) (h : Heap) (m : Str → Option Value) (x : Str) (u : Value) : Prop :=
  (env.kindOf x = some .local ∧ m x = some u) ∨ ((env.kindOf x = some .cell ∨ env.kindOf x = some .free) ∧ ∃ c, env.cells.lookup x = some c ∧ h.IsCell c (some u))

structure Cx.Ok (X : Cx) : Prop where
  mod : Mod X.K X.mg X.base
  kind : X.env.scope.kind = .function
  glob : X.env.globals = mainGlobals
  blt : X.env.builtins = builtinsNs
  above : X.s₀.heap.objs.size ≤ X.env.locals
  inj : ∀ x y c, X.env.cells.lookup x = some c → X.env.cells.lookup y = some c → x = y
  has : ∀ x, (X.env.kindOf x = some .cell ∨ X.env.kindOf x = some .free) → ∃ c, X.env.cells.lookup x = some c
  cab : ∀ x c, X.fn x = true → X.env.cells.lookup x = some c → X.s₀.heap.objs.size ≤ c
  hd : X.calm = true → X.A.handled = none
  frames : X.A.frames = some X.stack
  stk : X.stack = X.outer ∨ (X.stack = X.env :: X.outer ∧ X.env.frame = some X.env.locals)
  exf : ∀ b ∈ X.ex, b ≠ X.env.locals ∧ ∀ x c, X.env.cells.lookup x = some c → c ≠ b
  bs : ∀ b o, X.base.get? b = some o → X.s₀.heap.get? b = some o ∧ X.H₀ b = none
  bsz : X.base.objs.size ≤ X.s₀.heap.objs.size
  noex : ∀ b o, X.base.get? b = some o → b ∉ X.ex
  exfs : ∀ b ∈ X.ex, b ∉ X.fs
  funs : X.s₀.heap.FunFrames X.base X.outer
  frf : ∀ b ∈ X.fs, X.H₀ b = none

structure Inv (X : Cx) (pins : List (Addr × Obj)) (σ : List (Option V)) (H : Hp) (s : Shared) : Prop where
  ok : X.Ok
  os : s.os = X.s₀.os
  bare : AllBare s.gens
  base : Un X.fs X.ex X.H₀ H X.s₀.heap s.heap
  loc : ∃ m, s.heap.Ns X.env.locals m ∧ ∀ (i : Nat) (x : Str) (v : V), X.N[i]? = some x → σ[i]? = some (some v) → Vis X.env.scope x → ∃ u, RelV v u ∧ Look X.env s.heap m x u
  cell : ∀ x c, X.env.cells.lookup x = some c → ∃ v, s.heap.IsCell c v
  free : H X.env.locals = none
  freeC : ∀ x c, X.env.cells.lookup x = some c → H c = none
  pin : ∀ p ∈ X.pn ++ pins, s.heap.get? p.1 = some p.2 ∧ H p.1 = none ∧ p.1 ≠ X.env.locals ∧ p.1 ∉ X.fs ∧ ∀ v, p.2.data ≠ .cell v
  hok : HOk X.prog X.w H s.heap
  len : σ.length = X.N.length

section
variable {X : Cx} {pins : List (Addr × Obj)} {σ : List (Option V)} {H H' : Hp} {s : Shared} {h' : Heap}

theorem Cx.Ok.nofr (ok : X.Ok) {b : Addr} {o : Obj} (e : X.base.get? b = some o) : b ∉ X.fs := fun hb => by
  have := (ok.funs.mem hb).1
  rw [e] at this; cases this
theorem Inv.bs (I : Inv X pins σ H s) : ∀ b o, X.base.get? b = some o → s.heap.get? b = some o ∧ H b = none := fun b o e =>
  ⟨I.base.keep b o (I.ok.bs b o e).1 (I.ok.bs b o e).2 (I.ok.nofr e) (I.ok.noex b o e), I.base.free b o (I.ok.bs b o e).1 (I.ok.bs b o e).2 (I.ok.noex b o e)⟩
theorem Inv.bk (I : Inv X pins σ H s) : ∀ b o, X.base.get? b = some o → s.heap.get? b = some o := fun b o e => (I.bs b o e).1
theorem Inv.mod (I : Inv X pins σ H s) : Mod X.K X.mg X.base := I.ok.mod
theorem Inv.kIn (I : Inv X pins σ H s) : X.K.In s.heap := I.ok.mod.kin.keeps I.bk
theorem Inv.nolimit (I : Inv X pins σ H s) : s.heap.NoLimit := I.ok.mod.nolimit.keeps I.bk
/-- the frame over the base: for OpenK's rules (K.In X.base is I.mod.kin) -/
theorem Inv.fr (I : Inv X pins σ H s) : ∃ m, Fr X.base X.env.locals s.heap m :=
  let ⟨m, hn, _⟩ := I.loc
  ⟨m, hn, I.bk, Nat.le_trans I.ok.bsz I.ok.above⟩
theorem Inv.lt (I : Inv X pins σ H s) : X.env.locals < s.heap.objs.size := let ⟨_, hn, _⟩ := I.loc; hn.lt
theorem Inv.sz (I : Inv X pins σ H s) : X.s₀.heap.objs.size ≤ s.heap.objs.size := Nat.le_trans I.ok.above (Nat.le_of_lt I.lt)
theorem Inv.nofs (I : Inv X pins σ H s) {a : Addr} (h : s.heap.objs.size ≤ a) : a ∉ X.fs := fun hb => by
  obtain ⟨_, o, ho, _⟩ := I.ok.funs.mem hb
  exact absurd (Nat.lt_of_lt_of_le (Heap.lt_size ho) (Nat.le_trans I.sz h)) (Nat.lt_irrefl _)
theorem Inv.cne (I : Inv X pins σ H s) : ∀ x c, X.env.cells.lookup x = some c → c ≠ X.env.locals := fun x c e z => by
  obtain ⟨v, o, ho, hd⟩ := I.cell x c e
  obtain ⟨m, ⟨o', es, ep, ho', hd', _⟩, _⟩ := I.loc
  rw [z, ho'] at ho; cases ho; rw [hd'] at hd; cases hd
theorem Inv.funs (I : Inv X pins σ H s) : s.heap.FunFrames X.base X.outer := by
  have all : ∀ (l : List Env), (∀ b ∈ frs l, b ∈ X.fs) → X.s₀.heap.FunFrames X.base l → s.heap.FunFrames X.base l := by
    intro l
    induction l with
    | nil => intro _ _; trivial
    | cons env r ih =>
      intro hs hl
      obtain ⟨hk, ⟨L, o, hf, hn, ho, hd⟩, hr⟩ := hl
      have hL : L ∈ X.fs := hs L (by unfold frs; rw [List.filterMap_cons, hf]; exact List.mem_cons_self)
      obtain ⟨sl, e⟩ := I.base.slot L o ho (I.ok.frf L hL) hL fun z => I.ok.exfs L z hL
      exact ⟨hk, ⟨L, _, hf, hn, e, hd⟩, ih (fun b hb => hs b (by unfold frs; rw [List.filterMap_cons, hf]; exact List.mem_cons_of_mem _ hb)) hr⟩
  exact all X.outer (fun _ hb => hb) I.ok.funs

/-- the frames that run, for a call -/
theorem Inv.stack (I : Inv X pins σ H s) : s.heap.FunFrames X.base X.stack := by
  rcases I.ok.stk with e | ⟨e, hf⟩
  · rw [e]; exact I.funs
  · rw [e]
    obtain ⟨m, hn, _⟩ := I.loc
    refine .cons (by rw [I.ok.kind]; decide) hf hn ?_ I.funs
    exact Heap.get?_none_of_le (Nat.le_trans I.ok.bsz I.ok.above)
theorem Inv.stkSub (I : Inv X pins σ H s) : ∀ b ∈ frs X.stack, b ∈ X.env.locals :: X.fs := fun b hb => by
  rcases I.ok.stk with e | ⟨e, hf⟩
  · rw [e] at hb; exact List.mem_cons_of_mem _ hb
  · rw [e] at hb
    unfold frs at hb
    rw [List.filterMap_cons, hf] at hb
    exact hb
theorem Inv.stkFree (I : Inv X pins σ H s) : ∀ b ∈ frs X.stack, H b = none := fun b hb => by
  rcases List.mem_cons.mp (I.stkSub b hb) with e | hb
  · rw [e]; exact I.free
  · obtain ⟨_, o, ho, _⟩ := I.ok.funs.mem hb
    exact I.base.free b o ho (I.ok.frf b hb) fun z => I.ok.exfs b z hb

/-- THE STEP: the untracked objects but the frame and the records at ch are kept (the callers' frames up to slots), the frame's map is kept, the new abstract heap is held -/
theorem Inv.step {g' : Array GenState} {t' : Nat} {d' : Drawn} {ch : List Addr} (I : Inv X pins σ H s)
    (hch : ∀ b ∈ ch, (b ∈ X.ex ∨ X.s₀.heap.objs.size ≤ b) ∧ b ≠ X.env.locals ∧ (∀ x c, X.env.cells.lookup x = some c → c ≠ b) ∧ ∀ p ∈ X.pn ++ pins, p.1 ≠ b)
    (keep : ∀ b o, b ≠ X.env.locals → b ∉ X.fs → b ∉ ch → s.heap.get? b = some o → H b = none → h'.get? b = some o)
    (slot : ∀ b o, b ≠ X.env.locals → b ∈ X.fs → b ∉ ch → s.heap.get? b = some o → H b = none → ∃ sl, h'.get? b = some { o with slots := sl }) (free : ∀ b o, b ∉ ch → s.heap.get? b = some o → H b = none → H' b = none)
    (there : ∀ b o, b ∉ ch → s.heap.get? b = some o → ∃ o', h'.get? b = some o')
    (tups : ∀ b xs, H b = some (.tup xs) → H' b = some (.tup xs)) (frzs : ∀ b o u, H b = some (.frz o u) → H' b = some (.frz o u)) (tbls : ∀ b ps, H b = some (.tbl ps) → ∃ more, H' b = some (.tbl (ps ++ more)))
    (ns : ∀ m, s.heap.Ns X.env.locals m → h'.Ns X.env.locals m) (hok : HOk X.prog X.w H' h') (hg : AllBare g') :
    Inv X pins σ H' { s with heap := h', gens := g', drawn := d', toks := t' } := by
  have neL : ∀ b o, X.s₀.heap.get? b = some o → b ≠ X.env.locals := fun b o e => Nat.ne_of_lt (Nat.lt_of_lt_of_le (Heap.lt_size e) I.ok.above)
  have neC : ∀ b o, X.s₀.heap.get? b = some o → b ∉ X.ex → b ∉ ch := fun b o e hx hb => by
    rcases (hch b hb).1 with z | z
    · exact hx z
    · exact absurd (Nat.lt_of_lt_of_le (Heap.lt_size e) z) (Nat.lt_irrefl _)
  have cellK : ∀ x c, X.env.cells.lookup x = some c → ∀ v, s.heap.IsCell c v → h'.IsCell c v := fun x c e v ⟨o, ho, hd⟩ => by
    have nch : c ∉ ch := fun z => (hch c z).2.2.1 x c e rfl
    by_cases hc : c ∈ X.fs
    · obtain ⟨sl, q⟩ := slot c o (I.cne x c e) hc nch ho (I.freeC x c e)
      exact ⟨_, q, hd⟩
    · exact ⟨o, keep c o (I.cne x c e) hc nch ho (I.freeC x c e), hd⟩
  refine ⟨I.ok, I.os, hg, ⟨fun b o e n hb hx => ?_, fun b o e n hb hx => ?_, fun b o e n hx => ?_, fun b o e hx => ?_, fun b xs e => tups b xs (I.base.tups b xs e), fun b o xs e => frzs b o xs (I.base.frzs b o xs e), fun b ps e => ?_⟩, ?_, fun x c e => ?_, ?_, fun x c e => ?_, fun p hp => ?_, hok, I.len⟩
  · exact keep b o (neL b o e) hb (neC b o e hx) (I.base.keep b o e n hb hx) (I.base.free b o e n hx)
  · obtain ⟨sl, e1⟩ := I.base.slot b o e n hb hx
    obtain ⟨sl', e2⟩ := slot b _ (neL b o e) hb (neC b o e hx) e1 (I.base.free b o e n hx)
    exact ⟨sl', e2⟩
  · obtain ⟨o', e1⟩ := I.base.there b o e hx
    exact free b o' (neC b o e hx) e1 (I.base.free b o e n hx)
  · obtain ⟨o', e1⟩ := I.base.there b o e hx
    exact there b o' (neC b o e hx) e1
  · obtain ⟨m1, e1⟩ := I.base.tbls b ps e
    obtain ⟨m2, e2⟩ := tbls b _ e1
    exact ⟨m1 ++ m2, by rw [e2, Array.append_assoc]⟩
  · obtain ⟨m, hn, hl⟩ := I.loc
    refine ⟨m, ns m hn, fun i x v e1 e2 e3 => ?_⟩
    obtain ⟨u, r, l⟩ := hl i x v e1 e2 e3
    refine ⟨u, r, ?_⟩
    rcases l with l | ⟨k, c, e, z⟩
    · exact .inl l
    · exact .inr ⟨k, c, e, cellK x c e _ z⟩
  · obtain ⟨v, z⟩ := I.cell x c e
    exact ⟨v, cellK x c e v z⟩
  · obtain ⟨m, ⟨o, _, _, ho, _⟩, _⟩ := I.loc
    exact free _ o (fun z => (hch _ z).2.1 rfl) ho I.free
  · obtain ⟨v, o, ho, hd⟩ := I.cell x c e
    exact free c o (fun z => (hch c z).2.2.1 x c e rfl) ho (I.freeC x c e)
  · obtain ⟨e, n, ne, nf, d⟩ := I.pin p hp
    have nch : p.1 ∉ ch := fun z => (hch p.1 z).2.2.2 p hp rfl
    exact ⟨keep p.1 p.2 ne nf nch e n, free p.1 p.2 nch e n, ne, nf, d⟩
/-- .. where the frame's own object is kept too -/
theorem Inv.un {t' : Nat} (I : Inv X pins σ H s) (u : Un X.fs [] H H' s.heap h') (hok : HOk X.prog X.w H' h') : Inv X pins σ H' { s with heap := h', toks := t' } := by
  obtain ⟨m, ⟨o, es, ep, ho, r⟩, _⟩ := id I.loc
  obtain ⟨sl, hL⟩ := u.any ho I.free (by simp)
  exact I.step (g' := s.gens) (d' := s.drawn) (ch := []) (fun _ z => nomatch z) (fun b o _ hb _ e n => u.keep b o e n hb (by simp)) (fun b o _ hb _ e n => u.slot b o e n hb (by simp)) (fun b o _ e n => u.free b o e n (by simp)) (fun b o _ e => u.there b o e (by simp)) u.tups u.frzs u.tbls (fun m' hm => by
    obtain ⟨o', es', ep', ho', r'⟩ := hm
    rw [ho] at ho'; cases ho'
    exact ⟨_, es', ep', hL, r'⟩) hok I.bare
/-- behind a call (or a comprehension's block): the slots of this frame may have changed too, the records at ch may have turned -/
theorem Inv.call {g' : Array GenState} {t' : Nat} {d' : Drawn} {ch : List Addr} (I : Inv X pins σ H s) (u : Un (frs X.stack) ch H H' s.heap h') (hok : HOk X.prog X.w H' h') (hg : AllBare g')
    (hch : ∀ b ∈ ch, (b ∈ X.ex ∨ X.s₀.heap.objs.size ≤ b) ∧ b ≠ X.env.locals ∧ (∀ x c, X.env.cells.lookup x = some c → c ≠ b) ∧ ∀ p ∈ X.pn ++ pins, p.1 ≠ b) :
    Inv X pins σ H' { s with heap := h', gens := g', drawn := d', toks := t' } := by
  obtain ⟨m, ⟨o, es, ep, ho, r⟩, _⟩ := id I.loc
  obtain ⟨sl, hL⟩ := u.any ho I.free fun z => (hch _ z).2.1 rfl
  exact I.step (ch := ch) hch (fun b o hL hb hc e n => u.keep b o e n (fun z => (List.mem_cons.mp (I.stkSub b z)).elim hL hb) hc) (fun b o _ _ hc e n => u.any e n hc) (fun b o hc e n => u.free b o e n hc) (fun b o hc e => u.there b o e hc) u.tups u.frzs u.tbls (fun m' hm => by
    obtain ⟨o', es', ep', ho', r'⟩ := hm
    rw [ho] at ho'; cases ho'
    exact ⟨_, es', ep', hL, r'⟩) hok hg
/-- an untracked record of ours (an iterator) has turned -/
theorem Inv.turned {t' : Nat} {it : Addr} (I : Inv X pins σ H s) (k : ∀ b o, b ≠ it → s.heap.get? b = some o → h'.get? b = some o) (hn : H it = none) (hL : it ≠ X.env.locals)
    (h1 : it ∈ X.ex ∨ X.s₀.heap.objs.size ≤ it) (h2 : ∀ x c, X.env.cells.lookup x = some c → c ≠ it) (h3 : ∀ p ∈ X.pn ++ pins, p.1 ≠ it) : Inv X pins σ H { s with heap := h', toks := t' } := by
  have nit : ∀ b u, H b = some u → b ≠ it := fun b u e z => by rw [z, hn] at e; cases e
  refine I.step (g' := s.gens) (d' := s.drawn) (ch := [it]) (fun b hb => ?_) (fun b o _ _ hc e _ => k b o (fun z => hc (by simp [z])) e) (fun b o _ _ hc e _ => ⟨o.slots, k b o (fun z => hc (by simp [z])) e⟩) (fun _ _ _ _ n => n)
    (fun b o hc e => ⟨o, k b o (fun z => hc (by simp [z])) e⟩) (fun _ _ e => e) (fun _ _ _ e => e) (fun b ps e => ⟨#[], by rw [e]; simp⟩) (fun m hm => ?_) (fun b u e => ?_) I.bare
  · have e : b = it := by simpa using hb
    subst e
    exact ⟨h1, hL, h2, h3⟩
  · obtain ⟨o, es, ep, ho, r⟩ := hm
    exact ⟨o, es, ep, k _ o (Ne.symm hL) ho, r⟩
  · refine (I.hok b u e).stay (fun c v hc q => k c v ?_ q) (fun _ q => q) fun _ _ q => q
    rcases hc with z | z
    · rw [z]; exact nit b u e
    · exact nit c _ z
theorem Inv.tok (I : Inv X pins σ H s) (t : Nat) : Inv X pins σ H { s with toks := t } := I.un (h' := s.heap) (t' := t) Un.refl I.hok
/-- all objects kept -/
theorem Inv.kept {t' : Nat} (I : Inv X pins σ H s) (k : ∀ b u, s.heap.get? b = some u → h'.get? b = some u) : Inv X pins σ H { s with heap := h', toks := t' } := I.un (Un.kept k) (I.hok.kept k)
/-- a new object laid and tracked -/
theorem Inv.laid {a : Addr} {o : HO} {t' : Nat} (I : Inv X pins σ H s) (k : ∀ b u, s.heap.get? b = some u → h'.get? b = some u) (hp : s.heap.objs.size ≤ a) (new : ObjOk X.prog X.w (upd H a o) h' a o) :
    Inv X pins σ (upd H a o) { s with heap := h', toks := t' } := I.un (Un.laid k hp (I.hok.fresh hp)) (I.hok.laid k hp new)
/-- an object written -/
theorem Inv.write {x e : Addr} {o : HO} {t' : Nat} (I : Inv X pins σ H s) (mu : Mut (H x)) (he : e = x ∨ H e = some (.own x)) (k : ∀ b u, b ≠ e → s.heap.get? b = some u → h'.get? b = some u) (heo : ∃ u, h'.get? e = some u)
    (new : ObjOk X.prog X.w (upd H x o) h' x o) : Inv X pins σ (upd H x o) { s with heap := h', toks := t' } := I.un (Un.write mu he k heo) (I.hok.write mu he k heo new)
/-- forgetting slots, pins -/
theorem Inv.weak {σ' : List (Option V)} (I : Inv X pins σ H s) (hl : σ'.length = σ.length) (w : ∀ (i : Nat) v, σ'[i]? = some (some v) → σ[i]? = some (some v)) : Inv X pins σ' H s :=
  ⟨I.ok, I.os, I.bare, I.base, let ⟨m, hn, hl'⟩ := I.loc; ⟨m, hn, fun i x v e1 e2 e3 => hl' i x v e1 (w i v e2) e3⟩, I.cell, I.free, I.freeC, I.pin, I.hok, hl.trans I.len⟩
theorem Inv.pins_of {pins' : List (Addr × Obj)} (I : Inv X pins σ H s) (h : ∀ p ∈ pins', s.heap.get? p.1 = some p.2 ∧ H p.1 = none ∧ p.1 ≠ X.env.locals ∧ p.1 ∉ X.fs ∧ ∀ v, p.2.data ≠ .cell v) : Inv X pins' σ H s :=
  ⟨I.ok, I.os, I.bare, I.base, I.loc, I.cell, I.free, I.freeC, fun p hp => (List.mem_append.mp hp).elim (fun z => I.pin p (List.mem_append_left _ z)) (h p), I.hok, I.len⟩

theorem nodup_ix {N : List Str} (hN : N.Nodup) {i j : Nat} {x : Str} (a : N[i]? = some x) (b : N[j]? = some x) : i = j := by
  obtain ⟨h1, e1⟩ := List.getElem?_eq_some_iff.mp a
  obtain ⟨h2, e2⟩ := List.getElem?_eq_some_iff.mp b
  exact (List.getElem_inj hN).mp (e1.trans e2.symm)

/-- a name is stored; what changed -/
theorem store_ok2 {M : Model} {A : Around} {E : Value → Shared → Prop} {i : Nat} {x : Str} {v : V} {u : Value} {Q : Unit → Shared → Prop} (I : Inv X pins σ H s) (hN : X.N.Nodup) (hi : X.N[i]? = some x) (hx : Loc X.env.scope x) (r : RelV v u)
    (h : ∀ s', Inv X pins (σ.set i (some v)) H s' → (∃ a, Heap.SameBut a s.heap s'.heap ∧ (a = X.env.locals ∨ X.env.cells.lookup x = some a)) → Q () s') (hf : X.fn x = true ∨ X.env.scope.names.lookup x = some .local := by first | exact .inl rfl | exact .inr rfl | assumption) : wpAny M A (storeName X.env x u) Q E s := by
  obtain ⟨m, hn, hl⟩ := id I.loc
  have hcls : (X.env.scope.kind == .class || (X.env.scope.kind == .module && X.env.locals != X.env.globals)) = false := by rw [I.ok.kind]; rfl
  have hiσ : i < σ.length := by rw [I.len]; exact (List.getElem?_eq_some_iff.mp hi).1
  have cne := I.cne
  have tracked : ∀ {a : Addr} {h' : Heap}, (∃ o, s.heap.get? a = some o ∧ H a = none) → Heap.SameBut a s.heap h' → HOk X.prog X.w H h' := fun {a h'} ha hs b ob e => by
    obtain ⟨_, _, hfree⟩ := ha
    refine (I.hok b ob e).stay (fun c w' hc q => (hs.2 c ?_).trans q) (fun _ q => q) fun _ _ q => q
    rintro rfl
    rcases hc with rfl | hc
    · rw [hfree] at e; cases e
    · rw [hfree] at hc; cases hc
  rcases hx with hk | hk
  · refine wpAny_storeName_local hk hn (fun h' hn' hs => ?_) hcls
    obtain ⟨oL, _, _, hoL, _⟩ := id hn
    refine h _ ⟨I.ok, I.os, I.bare, ⟨fun b o e n hb hx => ?_, fun b o e n hb hx => ?_, I.base.free, fun b o e hx => ?_, I.base.tups, I.base.frzs, I.base.tbls⟩, ⟨_, hn', fun j y v' e1 e2 e3 => ?_⟩, fun y c e => ?_, I.free, I.freeC, fun p hp => ?_, tracked ⟨oL, hoL, I.free⟩ hs, by simpa using I.len⟩ ⟨_, hs, .inl rfl⟩
    · exact (hs.2 b (Nat.ne_of_lt (Nat.lt_of_lt_of_le (Heap.lt_size e) I.ok.above))).trans (I.base.keep b o e n hb hx)
    · obtain ⟨sl, e1⟩ := I.base.slot b o e n hb hx
      exact ⟨sl, (hs.2 b (Nat.ne_of_lt (Nat.lt_of_lt_of_le (Heap.lt_size e) I.ok.above))).trans e1⟩
    · obtain ⟨o', e1⟩ := I.base.there b o e hx
      exact ⟨o', (hs.2 b (Nat.ne_of_lt (Nat.lt_of_lt_of_le (Heap.lt_size e) I.ok.above))).trans e1⟩
    · by_cases hj : j = i
      · subst hj
        rw [hi] at e1; cases e1
        rw [List.getElem?_set_self hiσ] at e2
        cases e2
        exact ⟨u, r, .inl ⟨hk, by simp⟩⟩
      · rw [List.getElem?_set_ne (Ne.symm hj)] at e2
        obtain ⟨u', r', q⟩ := hl j y v' e1 e2 e3
        refine ⟨u', r', ?_⟩
        rcases q with ⟨k, e⟩ | ⟨k, c, e, z⟩
        · refine .inl ⟨k, ?_⟩
          have : y ≠ x := fun e => hj (nodup_ix hN e1 (e ▸ hi))
          simp [this, e]
        · exact .inr ⟨k, c, e, z.sameBut hs (cne y c e)⟩
    · obtain ⟨w', z⟩ := I.cell y c e
      exact ⟨w', z.sameBut hs (cne y c e)⟩
    · obtain ⟨e, n, ne, nf, d⟩ := I.pin p hp
      exact ⟨(hs.2 p.1 ne).trans e, n, ne, nf, d⟩
  · have hfn : X.fn x = true := by
      rcases hf with z | z
      · exact z
      · rw [z] at hk; cases hk
    obtain ⟨c, hc⟩ := I.ok.has x (.inl hk)
    obtain ⟨w', z⟩ := I.cell x c hc
    refine wpAny_storeName_cell I.ok.kind hk hc z (fun h' hc' hs => ?_)
    obtain ⟨oc, hoc, hocd⟩ := id z
    refine h { s with heap := h' } ⟨I.ok, I.os, I.bare, ⟨fun b o e n hb hx => ?_, fun b o e n hb hx => ?_, I.base.free, fun b o e hx => ?_, I.base.tups, I.base.frzs, I.base.tbls⟩, ⟨m, hn.sameBut hs (Ne.symm (cne x c hc)), fun j y v' e1 e2 e3 => ?_⟩, fun y c' e => ?_, I.free, I.freeC, fun p hp => ?_, tracked ⟨oc, hoc, I.freeC x c hc⟩ hs, by simpa using I.len⟩ ⟨c, hs, .inr hc⟩
    · exact (hs.2 b (Nat.ne_of_lt (Nat.lt_of_lt_of_le (Heap.lt_size e) (I.ok.cab x c hfn hc)))).trans (I.base.keep b o e n hb hx)
    · obtain ⟨sl, e1⟩ := I.base.slot b o e n hb hx
      exact ⟨sl, (hs.2 b (Nat.ne_of_lt (Nat.lt_of_lt_of_le (Heap.lt_size e) (I.ok.cab x c hfn hc)))).trans e1⟩
    · obtain ⟨o', e1⟩ := I.base.there b o e hx
      exact ⟨o', (hs.2 b (Nat.ne_of_lt (Nat.lt_of_lt_of_le (Heap.lt_size e) (I.ok.cab x c hfn hc)))).trans e1⟩
    · by_cases hj : j = i
      · subst hj
        rw [hi] at e1; cases e1
        rw [List.getElem?_set_self hiσ] at e2
        cases e2
        exact ⟨u, r, .inr ⟨.inl hk, c, hc, hc'⟩⟩
      · rw [List.getElem?_set_ne (Ne.symm hj)] at e2
        obtain ⟨u', r', q⟩ := hl j y v' e1 e2 e3
        refine ⟨u', r', ?_⟩
        rcases q with q | ⟨k, c', e, z'⟩
        · exact .inl q
        · refine .inr ⟨k, c', e, z'.sameBut hs ?_⟩
          rintro rfl
          exact hj (nodup_ix hN e1 (I.ok.inj _ _ _ e hc ▸ hi))
    · by_cases hcc : c' = c
      · subst hcc; exact ⟨_, hc'⟩
      · obtain ⟨w2, z2⟩ := I.cell y c' e
        exact ⟨w2, z2.sameBut hs hcc⟩
    · obtain ⟨e, n, ne, nf, d⟩ := I.pin p hp
      refine ⟨(hs.2 p.1 ?_).trans e, n, ne, nf, d⟩
      intro q
      rw [q, hoc] at e
      have q' : oc = p.2 := Option.some.inj e
      exact d w' (by rw [← q']; exact hocd)
theorem store_ok {M : Model} {A : Around} {E : Value → Shared → Prop} {i : Nat} {x : Str} {v : V} {u : Value} {Q : Unit → Shared → Prop} (I : Inv X pins σ H s) (hN : X.N.Nodup) (hi : X.N[i]? = some x) (hx : Loc X.env.scope x) (r : RelV v u)
    (h : ∀ s', Inv X pins (σ.set i (some v)) H s' → Q () s') (hf : X.fn x = true ∨ X.env.scope.names.lookup x = some .local := by first | exact .inl rfl | exact .inr rfl | assumption) : wpAny M A (storeName X.env x u) Q E s :=
  store_ok2 I hN hi hx r (fun s' I' _ => h s' I') hf
/-- behind a call or a block, the state as it is -/
theorem Inv.call' {s' : Shared} {ch : List Addr} (I : Inv X pins σ H s) (ho : s'.os = s.os) (u : Un (frs X.stack) ch H H' s.heap s'.heap) (hok : HOk X.prog X.w H' s'.heap) (hg : AllBare s'.gens)
    (hch : ∀ b ∈ ch, (b ∈ X.ex ∨ X.s₀.heap.objs.size ≤ b) ∧ b ≠ X.env.locals ∧ (∀ x c, X.env.cells.lookup x = some c → c ≠ b) ∧ ∀ p ∈ X.pn ++ pins, p.1 ≠ b) : Inv X pins σ H' s' := by
  obtain ⟨h', g', d', t', o'⟩ := s'
  have e : o' = s.os := ho
  subst e
  exact I.call (g' := g') (t' := t') (d' := d') u hok hg hch
end

/-! ### the judgements -/
/-- an exception: its class, its own dict's address (where it has one), the abstract heap behind it -/
abbrev XK := Value → Option Addr → Hp → Prop
abbrev St := List (Option V)
abbrev VK := V → Hp → Prop
/-- an expression's reading; a test's; an argument list's -/
abbrev TE := St → Hp → VK → Prop
abbrev TT := St → Hp → (Bool → Hp → Prop) → Prop
abbrev TA := St → Hp → (List V → Hp → Prop) → Prop
/-- what is wanted behind a statement -/
structure Ends where
  nx : St → Hp → Prop
  rt : VK
  bk : St → Hp → Prop := fun _ _ => False
  ct : St → Hp → Prop := fun _ _ => False
abbrev TS := Ends → St → Hp → Prop

def EP (X : Cx) (pins : List (Addr × Obj)) (σ : St) (Q : VK) (u : Value) (s' : Shared) : Prop := ∃ v H', Inv X pins σ H' s' ∧ RelV v u ∧ Q v H'
def TP (X : Cx) (pins : List (Addr × Obj)) (σ : St) (Q : Bool → Hp → Prop) (b : Bool) (s' : Shared) : Prop := ∃ H', Inv X pins σ H' s' ∧ Q b H'
def AP (X : Cx) (pins : List (Addr × Obj)) (σ : St) (Q : List V → Hp → Prop) (us : List Value) (s' : Shared) : Prop := ∃ vs H', Inv X pins σ H' s' ∧ Vals vs us ∧ Q vs H'
def SP (X : Cx) (pins : List (Addr × Obj)) (D : Ends) (f : Flow) (s' : Shared) : Prop :=
  match f with
  | .next => ∃ σ' H', Inv X pins σ' H' s' ∧ D.nx σ' H'
  | .brk => ∃ σ' H', Inv X pins σ' H' s' ∧ D.bk σ' H'
  | .cont => ∃ σ' H', Inv X pins σ' H' s' ∧ D.ct σ' H'
  | .ret u => ∃ v σ' H', Inv X pins σ' H' s' ∧ RelV v u ∧ D.rt v H'

def PE (X : Cx) (e : Expr) (t : TE) : Prop :=
  ∀ (pins : List (Addr × Obj)) (s : Shared) (σ : St) (H : Hp) (Q : VK), Inv X pins σ H s → t σ H Q → wpAny (model X.prog X.w) X.A (eval e X.env) (EP X pins σ Q) X.xe s
def PT (X : Cx) (e : Expr) (t : TT) : Prop :=
  ∀ (pins : List (Addr × Obj)) (s : Shared) (σ : St) (H : Hp) (Q : Bool → Hp → Prop), Inv X pins σ H s → t σ H Q → wpAny (model X.prog X.w) X.A (isTrue e X.env (eval e X.env)) (TP X pins σ Q) X.xe s
/-- a test whatever its 'whole' is (and, or) -/
def PW (X : Cx) (e : Expr) (t : TT) : Prop :=
  ∀ (whole : Sem Value) (pins : List (Addr × Obj)) (s : Shared) (σ : St) (H : Hp) (Q : Bool → Hp → Prop), Inv X pins σ H s → t σ H Q → wpAny (model X.prog X.w) X.A (isTrue e X.env whole) (TP X pins σ Q) X.xe s
theorem PW.pt {X : Cx} {e : Expr} {t : TT} (h : PW X e t) : PT X e t := h _
/-- an argument list (no star), from the left -/
def PA (X : Cx) (es : List Expr) (t : TA) : Prop :=
  ∀ (pos : Pos) (pins : List (Addr × Obj)) (s : Shared) (σ : St) (H : Hp) (Q : List V → Hp → Prop), Inv X pins σ H s → t σ H Q → wpAny (model X.prog X.w) X.A (spliced (backTo pos (starEach es X.env))) (AP X pins σ Q) X.xe s
def PS (X : Cx) (st : Stmt) (t : TS) : Prop :=
  ∀ (pins : List (Addr × Obj)) (s : Shared) (σ : St) (H : Hp) (D : Ends), Inv X pins σ H s → t D σ H → wpAny (model X.prog X.w) X.A (exec st X.env) (SP X pins D) X.xe s
def PSs (X : Cx) (st : List Stmt) (t : TS) : Prop :=
  ∀ (pins : List (Addr × Obj)) (s : Shared) (σ : St) (H : Hp) (D : Ends), Inv X pins σ H s → t D σ H → wpAny (model X.prog X.w) X.A (execs st X.env) (SP X pins D) X.xe s
/-- weaken the end -/
theorem thn {α : Type} {t : Sem α} {Q Q' : α → Shared → Prop} {M : Model} {A : Around} {E : Value → Shared → Prop} {s : Shared} (h : wpAny M A t Q E s) (hQ : ∀ a s, Q a s → Q' a s) : wpAny M A t Q' E s := wpAny_mono h hQ fun _ _ x => x
end L2

namespace L2
open PySem PySem.Spec PyProof.Rows
section
variable {X : Cx}


/-! ### names and constants -/
def tVar (i : Nat) : TE := fun σ H Q => ∃ v, σ[i]? = some (some v) ∧ Q v H
def tC (v : V) : TE := fun _ H Q => Q v H
theorem pe_var {i : Nat} {x : Str} {pos : Pos} (hN : X.N[i]? = some x) (hv : Vis X.env.scope x) (hd : (x == ("__debug__" : Str)) = false := by decide) (hcd : (x == ("__classdict__" : Str)) = false := by decide) : PE X (.Name x pos) (tVar i) := by
  intro pins s σ H Q I h
  obtain ⟨v, e, h⟩ := h
  obtain ⟨m, hn, hl⟩ := I.loc
  obtain ⟨u, r, l⟩ := hl i x v hN e hv
  have fin : EP X pins σ Q u s := ⟨v, H, I, r, h⟩
  rcases l with ⟨hk, hm⟩ | ⟨hk, c, hc, hcell⟩
  · exact wpAny_Name (wpAny_loadName_local I.ok.kind hk hn hm fin) hd
  · rcases hk with hk | hk
    · exact wpAny_Name (wpAny_loadName_cell I.ok.kind hk hc hcell fin) hd
    · exact wpAny_Name (wpAny_loadName_free I.ok.kind hk hc hcell fin hcd) hd
theorem pe_int {i j pos} : PE X (.Constant (.int i) j pos) (tC (.int i)) := fun _ _ _ H _ I h => wpAny_Constant_int ⟨.int i, H, I.tok _, ⟨_, rfl⟩, h⟩
theorem pe_bl {b j pos} : PE X (.Constant (.bool b) j pos) (tC (.bl b)) := fun _ _ _ H _ I h => Constant_bool ⟨.bl b, H, I, rfl, h⟩
theorem pe_str {x j pos} : PE X (.Constant (.str x) j pos) (tC (.str x)) := fun _ _ _ H _ I h => Calls.Constant_str ⟨.str x, H, I.tok _, ⟨_, rfl⟩, h⟩

/-- a global name of the def -/
def Gl (X : Cx) (x : Str) : Prop := X.env.kindOf x = some .globalImplicit
theorem ld_glob {E : Value → Shared → Prop} {pins : List (Addr × Obj)} {s : Shared} {σ : St} {H : Hp} {x : Str} {u : Value} {pos : Pos} {Q : Value → Shared → Prop} (I : Inv X pins σ H s) (hg : Gl X x) (hm : X.mg x = some u) (h : Q u s)
    (hd : (x == ("__debug__" : Str)) = false := by decide) : wpAny (model X.prog X.w) X.A (eval (.Name x pos) X.env) Q E s :=
  Calls.Name_function_global I.ok.kind hg (Calls.loadGlobal_global (by rw [I.ok.glob]; exact I.mod.glob.keeps I.bk) hm h) hd
theorem ld_blt {E : Value → Shared → Prop} {pins : List (Addr × Obj)} {s : Shared} {σ : St} {H : Hp} {x : Str} {u : Value} {pos : Pos} {Q : Value → Shared → Prop} (I : Inv X pins σ H s) (hg : Gl X x) (hm : X.mg x = none) (hv : bootBuiltins x = some u) (h : Q u s)
    (hn : x ≠ "__name__" := by decide) (hd : (x == ("__debug__" : Str)) = false := by decide) : wpAny (model X.prog X.w) X.A (eval (.Name x pos) X.env) Q E s := by
  obtain ⟨mb, h1, h2⟩ := I.mod.blt
  exact Calls.Name_function_global I.ok.kind hg (Calls.loadGlobal_builtin (by rw [I.ok.glob]; exact I.mod.glob.keeps I.bk) hm (by rw [I.ok.blt]; exact h1.keeps I.bk) ((h2 x hn).trans hv) h) hd
/-- a module's constant, a class, a function, as a value -/
theorem pe_glob {x : Str} {v : V} {u : Value} {pos : Pos} (hg : Gl X x) (hm : X.mg x = some u) (r : RelV v u) (hd : (x == ("__debug__" : Str)) = false := by decide) : PE X (.Name x pos) (tC v) :=
  fun _ _ _ H _ I h => ld_glob I hg hm ⟨v, H, I, r, h⟩ hd
theorem pe_bltn {x : Str} {v : V} {u : Value} {pos : Pos} (hg : Gl X x) (hm : X.mg x = none) (hv : bootBuiltins x = some u) (r : RelV v u) (hn : x ≠ "__name__" := by decide) (hd : (x == ("__debug__" : Str)) = false := by decide) : PE X (.Name x pos) (tC v) :=
  fun _ _ _ H _ I h => ld_blt I hg hm hv ⟨v, H, I, r, h⟩ hn hd

/-! ### arithmetic -/
/-- two ints -/
def t2I (ta tb : TE) (k : Int → Int → Hp → Prop) : St → Hp → Prop := fun σ H => ta σ H fun x H1 => tb σ H1 fun y H2 => ∃ i j, x = .int i ∧ y = .int j ∧ k i j H2
def tAdd (ta tb : TE) : TE := fun σ H Q => t2I ta tb (fun i j H2 => Q (.int (i + j)) H2) σ H
def tSub (ta tb : TE) : TE := fun σ H Q => t2I ta tb (fun i j H2 => Q (.int (i - j)) H2) σ H
/-- the left factor below 2^64 -/
def tMul (ta tb : TE) : TE := fun σ H Q => t2I ta tb (fun i j H2 => (-(2 ^ 64) < i ∧ i < 2 ^ 64) ∧ Q (.int (i * j)) H2) σ H
variable {a b : Expr} {ta tb : TE} {pos : Pos}

/-! ### comparisons -/
def PC (X : Cx) (op : CmpOp) (a b : Expr) (t : TE) : Prop :=
  ∀ (pins : List (Addr × Obj)) (s : Shared) (σ : St) (H : Hp) (Q : VK), Inv X pins σ H s → t σ H Q →
    wpAny (model X.prog X.w) X.A (eval a X.env) (fun v s₁ => wpAny (model X.prog X.w) X.A (eval b X.env) (fun u s₂ => wpAny (model X.prog X.w) X.A (compareOp op v u) (EP X pins σ Q) X.xe s₂) X.xe s₁) X.xe s
def tCmp (p : Int → Int → Bool) (ta tb : TE) : TE := fun σ H Q => t2I ta tb (fun i j H2 => Q (.bl (p i j)) H2) σ H
abbrev tLt : TE → TE → TE := tCmp fun i j => decide (i < j)
abbrev tLe : TE → TE → TE := tCmp fun i j => decide (i ≤ j)
abbrev tGt : TE → TE → TE := tCmp fun i j => decide (j < i)
abbrev tGe : TE → TE → TE := tCmp fun i j => decide (j ≤ i)
abbrev tEqI : TE → TE → TE := tCmp fun i j => decide (i = j)
abbrev tNeI : TE → TE → TE := tCmp fun i j => !decide (i = j)
/-- is None -/
def tIsN (ta : TE) : TE := fun σ H Q => ta σ H fun x H1 => Q (.bl (decide (x = .non))) H1
def tNotN (ta : TE) : TE := fun σ H Q => ta σ H fun x H1 => Q (.bl (!decide (x = .non))) H1
/-- a comparison as a value, as a test -/
def tB (t : TE) : TT := fun σ H Q => t σ H fun x H1 => ∃ c, x = .bl c ∧ Q c H1
/-- an expression whose value is a bool, as a test -/
theorem pt_val {e : Expr} {t : TE} (h : PE X e t) (he : ∀ whole, isTrue e X.env whole = (do let v ← whole; standAt e.pos; holding [v] (truthy v)) := by intro _; rfl) : PT X e (tB t) := by
  intro pins s σ H Q I hw
  refine isTrue_plain (thn (h pins s σ H _ I hw) fun v s1 ⟨x, H1, I1, r1, q1⟩ => ?_) (he _)
  obtain ⟨d, rfl, q⟩ := q1
  cases r1
  exact wpAny_truthy_bool ⟨H1, I1, q⟩

/-! ### and, or, not -/
variable {tA tB' : TT} {rest : List Expr}
def tAnd (t u : TT) : TT := fun σ H Q => t σ H fun c H1 => if c = true then u σ H1 Q else Q false H1
def tOr (t u : TT) : TT := fun σ H Q => t σ H fun c H1 => if c = true then Q true H1 else u σ H1 Q
def tNot (t : TT) : TT := fun σ H Q => t σ H fun c H1 => Q (!c) H1
theorem pw_or1 (ha : PT X a tA) : PW X (.BoolOp .Or [a] pos) tA := by
  intro wh pins s σ H Q I h
  refine isTrue_or (thn (ha pins s σ H Q I h) fun c s1 e => ?_)
  cases c with
  | false => exact isTrue_or_nil e
  | true => exact e
theorem pw_or (ha : PT X a tA) (hb : PW X (.BoolOp .Or (b :: rest) pos) tB') : PW X (.BoolOp .Or (a :: b :: rest) pos) (tOr tA tB') := by
  intro wh pins s σ H Q I h
  refine isTrue_or (thn (ha pins s σ H _ I h) fun c s1 ⟨H1, I1, q1⟩ => ?_)
  cases c with
  | true => exact ⟨H1, I1, q1⟩
  | false => exact hb wh pins s1 σ H1 Q I1 q1
theorem pt_not (ha : PT X a tA) : PT X (.UnaryOp .Not a pos) (tNot tA) := by
  intro pins s σ H Q I h
  exact isTrue_not (ha pins s σ H (fun c H1 => Q (!c) H1) I h)
/-- .. as values (bools) -/
def tAndV (ta tb : TE) : TE := fun σ H Q => ta σ H fun x H1 => ∃ c, x = .bl c ∧ if c = true then tb σ H1 Q else Q (.bl false) H1
def tOrV (ta tb : TE) : TE := fun σ H Q => ta σ H fun x H1 => ∃ c, x = .bl c ∧ if c = true then Q (.bl true) H1 else tb σ H1 Q
def tNotV (ta : TE) : TE := fun σ H Q => ta σ H fun x H1 => ∃ c, x = .bl c ∧ Q (.bl (!c)) H1
/-- a if t else b -/
def tIf (t : TT) (ta tb : TE) : TE := fun σ H Q => t σ H fun c H1 => if c = true then ta σ H1 Q else tb σ H1 Q
end
end L2

namespace L2
open PySem PySem.Spec PyProof.Rows

/-! ### a list, a tuple that is read: tracked, frozen, or an object of the module -/
def SqL (K : PySem.W.Frag) (H : Hp) (a : Addr) (xs : List V) : Prop :=
  Rd H a (.lst xs) ∨
    ∃ (o : Obj) (its : Array Value) (n : Nat), K.lookup a = some o ∧ o.cls = .type "list" ∧ o.dict = none ∧ o.data = .seq its n ∧ its.size ≤ sizeLine ∧ Vals xs its.toList
def SqT (K : PySem.W.Frag) (H : Hp) (a : Addr) (xs : List V) : Prop :=
  Rd H a (.tup xs) ∨
    ∃ (o : Obj) (its : Array Value) (n : Nat), K.lookup a = some o ∧ o.cls = .type "tuple" ∧ o.data = .seq its n ∧ its.size ≤ sizeLine ∧ Vals xs its.toList
def absV : Value → Option V
  | .none => some .non
  | .bool b => some (.bl b)
  | .int i _ => some (.int i)
  | .str x _ => some (.str x)
  | .bytes b _ => some (.byt b)
  | .float b _ => some (.flt b)
  | .ref a => some (.ref a)
  | .type n => some (.ty n)
  | _ => none
theorem RelV.abs {x : V} {u : Value} (r : RelV x u) : absV u = some x := by
  cases x with
  | non => cases r; rfl
  | bl _ => cases r; rfl
  | int _ => obtain ⟨t, rfl⟩ := r; rfl
  | str _ => obtain ⟨t, rfl⟩ := r; rfl
  | byt _ => obtain ⟨t, rfl⟩ := r; rfl
  | flt _ => obtain ⟨t, rfl⟩ := r; rfl
  | ref _ => cases r; rfl
  | ty _ => cases r; rfl
theorem RelV.inj {x y : V} {u : Value} (r : RelV x u) (q : RelV y u) : x = y := Option.some.inj (r.abs.symm.trans q.abs)
theorem Vals.inj : ∀ {xs ys : List V} {us : List Value}, Vals xs us → Vals ys us → xs = ys
  | _, _, _, .nil, .nil => rfl
  | _, _, _, .cons r t, .cons r' t' => by rw [r.inj r', Vals.inj t t']
section
variable {X : Cx} {pins : List (Addr × Obj)} {σ : St} {H : Hp} {s : Shared} {a : Addr} {xs ys : List V}
theorem SqL.of {K : PySem.W.Frag} (h : H a = some (.lst xs)) : SqL K H a xs := .inl (.inl h)
theorem SqT.of {K : PySem.W.Frag} (h : H a = some (.tup xs)) : SqT K H a xs := .inl (.inl h)
theorem Inv.list (I : Inv X pins σ H s) (h : SqL X.K H a xs) : ∃ its : List Value, Vals xs its ∧ PlainL s.heap a its.toArray ∧ xs.length ≤ sizeLine := by
  rcases h with h | ⟨o, its, n, hk, hc, hd, hs, hz, r⟩
  · obtain ⟨z, its, n, r, e⟩ := h.ok I.hok
    exact ⟨its, r, ⟨_, n, e, rfl, rfl, rfl⟩, z⟩
  · refine ⟨its.toList, r, ⟨o, n, I.kIn a o hk, hc, hd, by simpa using hs⟩, ?_⟩
    have e := r.length
    simp only [Array.length_toList] at e
    omega
theorem Inv.tuple (I : Inv X pins σ H s) (h : SqT X.K H a xs) : ∃ its : List Value, Vals xs its ∧ IsTup s.heap a its.toArray ∧ xs.length ≤ sizeLine := by
  rcases h with h | ⟨o, its, n, hk, hc, hs, hz, r⟩
  · obtain ⟨z, its, r, p⟩ := h.ok I.hok
    exact ⟨its, r, p, z.1⟩
  · refine ⟨its.toList, r, ⟨o, I.kIn a o hk, hc, n, by simpa using hs⟩, ?_⟩
    have e := r.length
    simp only [Array.length_toList] at e
    omega
theorem Inv.list_inj (I : Inv X pins σ H s) (h : SqL X.K H a xs) (h' : SqL X.K H a ys) : xs = ys := by
  obtain ⟨its, r, ⟨o, n, e, _, _, d⟩, _⟩ := I.list h
  obtain ⟨its', r', ⟨o', n', e', _, _, d'⟩, _⟩ := I.list h'
  rw [e] at e'; cases e'
  rw [d] at d'
  injection d' with d1 _
  have : its = its' := by simpa using congrArg Array.toList d1
  subst this
  exact r.inj r'
theorem Inv.tuple_inj (I : Inv X pins σ H s) (h : SqT X.K H a xs) (h' : SqT X.K H a ys) : xs = ys := by
  obtain ⟨its, r, ⟨o, e, _, n, d⟩, _⟩ := I.tuple h
  obtain ⟨its', r', ⟨o', e', _, n', d'⟩, _⟩ := I.tuple h'
  rw [e] at e'; cases e'
  rw [d] at d'
  injection d' with d1 _
  have : its = its' := by simpa using congrArg Array.toList d1
  subst this
  exact r.inj r'
end

/-! ### another wish about exceptions -/
abbrev Cx.wish (X : Cx) (E : Value → Shared → Prop) : Cx := { X with xe := E }
/-- no exception leaves -/
abbrev Cx.nox (X : Cx) : Cx := X.wish fun _ _ => False
theorem Cx.Ok.wish {X : Cx} (ok : X.Ok) (E : Value → Shared → Prop) : (X.wish E).Ok :=
  ⟨ok.mod, ok.kind, ok.glob, ok.blt, ok.above, ok.inj, ok.has, ok.cab, ok.hd, ok.frames, ok.stk, ok.exf, ok.bs, ok.bsz, ok.noex, ok.exfs, ok.funs, ok.frf⟩
theorem Cx.Ok.unwish {X : Cx} {E : Value → Shared → Prop} (ok : (X.wish E).Ok) : X.Ok :=
  ⟨ok.mod, ok.kind, ok.glob, ok.blt, ok.above, ok.inj, ok.has, ok.cab, ok.hd, ok.frames, ok.stk, ok.exf, ok.bs, ok.bsz, ok.noex, ok.exfs, ok.funs, ok.frf⟩
section
variable {X : Cx} {pins : List (Addr × Obj)} {σ : St} {H : Hp} {s : Shared} {E : Value → Shared → Prop}
theorem Inv.wish (I : Inv X pins σ H s) (E : Value → Shared → Prop) : Inv (X.wish E) pins σ H s := ⟨I.ok.wish E, I.os, I.bare, I.base, I.loc, I.cell, I.free, I.freeC, I.pin, I.hok, I.len⟩
theorem Inv.unwish (I : Inv (X.wish E) pins σ H s) : Inv X pins σ H s := ⟨I.ok.unwish, I.os, I.bare, I.base, I.loc, I.cell, I.free, I.freeC, I.pin, I.hok, I.len⟩
theorem SP.unwish {D : Ends} {f : Flow} {s' : Shared} (h : SP (X.wish E) pins D f s') : SP X pins D f s' := by
  cases f with
  | next => obtain ⟨σ', H', I, q⟩ := h; exact ⟨σ', H', I.unwish, q⟩
  | brk => obtain ⟨σ', H', I, q⟩ := h; exact ⟨σ', H', I.unwish, q⟩
  | cont => obtain ⟨σ', H', I, q⟩ := h; exact ⟨σ', H', I.unwish, q⟩
  | ret u => obtain ⟨v, σ', H', I, r, q⟩ := h; exact ⟨v, σ', H', I.unwish, r, q⟩
theorem PE.nox {e : Expr} {t : TE} (h : PE X.nox e t) : PE X e t := fun pins s σ H Q I hw =>
  wpAny_mono (h pins s σ H Q (I.wish _) hw) (fun _ _ ⟨v, H', I', r, q⟩ => ⟨v, H', I'.unwish, r, q⟩) fun _ _ z => False.elim z
theorem PT.nox {e : Expr} {t : TT} (h : PT X.nox e t) : PT X e t := fun pins s σ H Q I hw =>
  wpAny_mono (h pins s σ H Q (I.wish _) hw) (fun _ _ ⟨H', I', q⟩ => ⟨H', I'.unwish, q⟩) fun _ _ z => False.elim z
theorem PSs.nox {st : List Stmt} {t : TS} (h : PSs X.nox st t) : PSs X st t := fun pins s σ H D I hw =>
  wpAny_mono (h pins s σ H D (I.wish _) hw) (fun _ _ q => q.unwish) fun _ _ z => False.elim z
end

/-! ### blocks and small statements -/
section
variable {X : Cx} {st : Stmt} {rest : List Stmt} {t u : TS} {e : Expr} {te : TE} {pos : Pos}
def tNext : TS := fun D σ H => D.nx σ H
def tSeq (t u : TS) : TS := fun D σ H => t { D with nx := u D } σ H
theorem pss_nil : PSs X [] tNext := fun _ _ σ H _ I h => wpAny_execs_nil ⟨σ, H, I, h⟩
theorem pss_cons (h1 : PS X st t) (h2 : PSs X rest u) : PSs X (st :: rest) (tSeq t u) := by
  intro pins s σ H D I h
  refine wpAny_execs_cons (thn (h1 pins s σ H { D with nx := u D } I h) fun f s1 q => ?_)
  cases f with
  | next =>
    obtain ⟨σ', H', I', q⟩ := q
    exact h2 pins s1 σ' H' D I' q
  | ret v => exact q
  | brk => exact q
  | cont => exact q
theorem pss_one (h1 : PS X st t) : PSs X [st] t := by
  intro pins s σ H D I h
  refine wpAny_execs_cons (thn (h1 pins s σ H D I h) fun f s1 q => ?_)
  cases f with
  | next => exact wpAny_execs_nil q
  | ret v => exact q
  | brk => exact q
  | cont => exact q
def tBreak : TS := fun D σ H => D.bk σ H
def tCont : TS := fun D σ H => D.ct σ H
/-- in a def's body nothing is shown -/
theorem Inv.quiet {pins : List (Addr × Obj)} {σ : St} {H : Hp} {s : Shared} (I : Inv X pins σ H s) : interactive X.env = false := by simp [interactive, I.ok.kind]
/-- an expression whose value is dropped -/
def tDrop (te : TE) : TS := fun D σ H => te σ H fun _ H1 => D.nx σ H1
theorem ps_expr (he : PE X e te) (hs : swapsWith e none pos.line X.env = pure false := by rfl) : PS X (.Expr e pos) (tDrop te) := by
  intro pins s σ H D I h
  exact wpAny_Expr_any (thn (he pins s σ H _ I h) fun v s1 ⟨x, H1, I1, r1, q1⟩ => ⟨σ, H1, I1, q1⟩) I.quiet hs
def tRet (te : TE) : TS := fun D σ H => te σ H D.rt
theorem ps_ret (he : PE X e te) : PS X (.Return (some e) pos) (tRet te) := by
  intro pins s σ H D I h
  exact wpAny_Return_some (thn (he pins s σ H _ I h) fun v s1 ⟨x, H1, I1, r1, q1⟩ => ⟨x, σ, H1, I1, r1, q1⟩)
def tRetN : TS := fun D _ H => D.rt .non H
def tIfS (c : TT) (t u : TS) : TS := fun D σ H => c σ H fun b H1 => if b = true then t D σ H1 else u D σ H1
theorem ps_if {c : Expr} {a b : List Stmt} {tc : TT} (hc : PT X c tc) (ha : PSs X a t) (hb : PSs X b u) : PS X (.If c a b pos) (tIfS tc t u) := by
  intro pins s σ H D I h
  refine wpAny_If (thn (hc pins s σ H _ I h) fun d s1 ⟨H1, I1, q1⟩ => ?_)
  cases d with
  | true => exact ha pins s1 σ H1 D I1 q1
  | false => exact hb pins s1 σ H1 D I1 q1
/-- code that the proof never comes to -/
def tNever : TS := fun _ _ _ => False
end

/-! ### targets -/
abbrev TG := V → St → Hp → (St → Hp → Prop) → Prop
abbrev TGs := List V → St → Hp → (St → Hp → Prop) → Prop
def PG (X : Cx) (target : Expr) (t : TG) : Prop :=
  ∀ (pins : List (Addr × Obj)) (s : Shared) (σ : St) (H : Hp) (v : V) (u : Value) (Q : St → Hp → Prop), Inv X pins σ H s → RelV v u → t v σ H Q →
    wpAny (model X.prog X.w) X.A (assign target X.env u) (fun _ s' => ∃ σ' H', Inv X pins σ' H' s' ∧ Q σ' H') X.xe s
/-- several targets, one after another -/
def PGs (X : Cx) (ts : List Expr) (t : TGs) : Prop :=
  ∀ (pins : List (Addr × Obj)) (s : Shared) (σ : St) (H : Hp) (vs : List V) (us : List Value) (Q : St → Hp → Prop), Inv X pins σ H s → Vals vs us → t vs σ H Q →
    wpAny (model X.prog X.w) X.A (assignInOrder ((assignEach ts X.env).map (·.2)) us) (fun _ s' => ∃ σ' H', Inv X pins σ' H' s' ∧ Q σ' H') X.xe s
/-- o[i] = v, by values -/
abbrev TSet := V → V → V → Hp → (Hp → Prop) → Prop
def PSet (X : Cx) (t : TSet) : Prop :=
  ∀ (pins : List (Addr × Obj)) (s : Shared) (σ : St) (H : Hp) (o i v : V) (ov iv u : Value) (Q : Hp → Prop), Inv X pins σ H s → RelV o ov → RelV i iv → RelV v u → t o i v H Q →
    wpAny (model X.prog X.w) X.A (setItem ov iv u) (fun _ s' => ∃ H', Inv X pins σ H' s' ∧ Q H') X.xe s
/-- a op= b, by values -/
abbrev TIp := V → V → Hp → VK → Prop
def PIp (X : Cx) (op : Operator) (t : TIp) : Prop :=
  ∀ (pins : List (Addr × Obj)) (s : Shared) (σ : St) (H : Hp) (x y : V) (v u : Value) (Q : VK), Inv X pins σ H s → RelV x v → RelV y u → t x y H Q →
    wpAny (model X.prog X.w) X.A (inplaceOp op v u) (EP X pins σ Q) X.xe s
section
variable {X : Cx} {pos : Pos}
def gName (i : Nat) : TG := fun v σ H Q => Q (σ.set i (some v)) H
theorem pg_name {i : Nat} {x : Str} (hN : X.N.Nodup) (hi : X.N[i]? = some x) (hx : Loc X.env.scope x) (hf : X.fn x = true ∨ X.env.scope.names.lookup x = some .local := by first | exact .inl rfl | exact .inr rfl | assumption) : PG X (.Name x pos) (gName i) := by
  intro pins s σ H v u Q I r h
  exact wpAny_assign_Name (store_ok I hN hi hx r (fun s' I' => ⟨_, H, I', h⟩) hf)
def gNil : TGs := fun vs σ H Q => vs = [] ∧ Q σ H
def gCons (t : TG) (u : TGs) : TGs := fun vs σ H Q => ∃ v r, vs = v :: r ∧ t v σ H fun σ' H' => u r σ' H' Q
theorem pgs_nil : PGs X [] gNil := by
  intro pins s σ H vs us Q I r h
  obtain ⟨e, h⟩ := h
  subst e
  cases r
  exact assignInOrder_nil ⟨σ, H, I, h⟩
theorem pgs_cons {e : Expr} {es : List Expr} {t : TG} {u : TGs} (h1 : PG X e t) (h2 : PGs X es u)
    (hs : (assignEach (e :: es) X.env).map (·.2) = assign e X.env :: (assignEach es X.env).map (·.2) := by rfl) : PGs X (e :: es) (gCons t u) := by
  intro pins s σ H vs us Q I r h
  obtain ⟨v, vr, e1, h⟩ := h
  subst e1
  cases r with
  | cons r rr =>
    rw [hs]
    refine assignInOrder_cons (thn (h1 pins s σ H _ _ _ I r h) fun _ s1 ⟨σ1, H1, I1, q1⟩ => ?_)
    exact h2 pins s1 σ1 H1 _ _ Q I1 rr q1
/-- (a, b, ..) = a tuple of that length -/
def gTup (K : PySem.W.Frag) (n : Nat) (t : TGs) : TG := fun v σ H Q => ∃ a xs, v = .ref a ∧ SqT K H a xs ∧ xs.length = n ∧ t xs σ H Q
theorem pg_tup {es : List Expr} {k : Nat} {t : TGs} {n : Nat} (hc : X.calm = true) (h : PGs X es t)
    (hn : (assignEach es X.env).length = n := by rfl) (hst : (assignEach es X.env).findIdx? (·.1) = none := by rfl) : PG X (.Tuple es k pos) (gTup X.K n t) := by
  intro pins s σ H v u Q I r hw
  obtain ⟨a, xs, e1, hq, hl, hw⟩ := hw
  subst e1
  cases r
  obtain ⟨its, rv, ht, hz⟩ := I.tuple hq
  refine assign_Tuple_tuple (I.ok.hd hc) ht (by simp [hn, ← hl, rv.length]) hst fun h' hx => ?_
  have I1 : Inv X pins σ H { s with heap := h' } := I.kept (t' := s.toks) fun b o e => hx b o (Nat.ne_of_lt (Heap.lt_size e)) e
  exact h pins _ σ H xs _ Q I1 (by simpa using rv) hw
/-- o[i] = .. -/
def gSub (to ti : TE) (t : TSet) : TG := fun v σ H Q => to σ H fun o H1 => ti σ H1 fun i H2 => t o i v H2 fun H3 => Q σ H3
theorem pg_sub {o i : Expr} {to ti : TE} {t : TSet} (ho : PE X o to) (hi : PE X i ti) (hs : PSet X t)
    (ha : ∀ v, assign (.Subscript o i pos) X.env v = (do
      let ov ← holding [v] (eval o X.env)
      let iv ← holding [v, ov] (eval i X.env)
      standAt pos
      holding [v, ov, iv] (setItem ov iv v)
      release [v, ov, iv] []) := by intro _; rfl) : PG X (.Subscript o i pos) (gSub to ti t) := by
  intro pins s σ H v u Q I r h
  rw [ha]
  refine wpAny_bind (wpAny_holding (thn (ho pins s σ H _ I h) fun ov s1 ⟨x, H1, I1, r1, q1⟩ => ?_))
  refine wpAny_bind (wpAny_holding (thn (hi pins s1 σ H1 _ I1 q1) fun iv s2 ⟨y, H2, I2, r2, q2⟩ => ?_))
  refine wpAny_bind (wpAny_standAt (wpAny_bind (wpAny_holding (thn (hs pins s2 σ H2 x y v ov iv u _ I2 r1 r2 r q2) fun _ s3 ⟨H3, I3, q3⟩ => ?_))))
  exact wpAny_release ⟨σ, H3, I3, q3⟩
/-- target = value -/
def tAsg (te : TE) (g : TG) : TS := fun D σ H => te σ H fun x H1 => g x σ H1 D.nx
theorem ps_asg {tg e : Expr} {te : TE} {g : TG} (he : PE X e te) (hg : PG X tg g) (hs : swapsWithSole [tg] e pos.line X.env = pure false := by rfl) (hw : swappedStores [tg] e X.env = pure none := by rfl)
    (h1 : (assignEach [tg] X.env).map (·.2) = [assign tg X.env] := by rfl) : PS X (.Assign [tg] e pos) (tAsg te g) := by
  intro pins s σ H D I h
  refine wpAny_Assign_stores (thn (he pins s σ H _ I h) fun v s1 ⟨x, H1, I1, r1, q1⟩ => ?_) hs hw
  rw [h1]
  exact thn (hg pins s1 σ H1 x v _ I1 r1 q1) fun _ s2 q => q
/-- name = value -/
theorem ps_set {i : Nat} {x : Str} {e : Expr} {te : TE} {pos' : Pos} (hN : X.N.Nodup) (hi : X.N[i]? = some x) (hx : Loc X.env.scope x) (he : PE X e te) (hs : swapsWith e (some (.Name x pos')) pos.line X.env = pure false := by rfl) (hf : X.fn x = true ∨ X.env.scope.names.lookup x = some .local := by first | exact .inl rfl | exact .inr rfl | assumption) :
    PS X (.Assign [.Name x pos'] e pos) (tAsg te (gName i)) := by
  intro pins s σ H D I h
  refine wpAny_Assign_Name (thn (he pins s σ H _ I h) fun v s1 ⟨y, H1, I1, r1, q1⟩ => ?_) hs
  exact store_ok I1 hN hi hx r1 (fun s2 I2 => ⟨_, H1, I2, q1⟩) hf
/-- a, b = x, y with plain local names: stored from the right; the pair itself is not tracked (the opening rows as in PyProof/Rows/TupAssign.lean:23) -/
def tPar (i j : Nat) (ta : TA) : TS := fun D σ H => ta σ H fun vs H1 => ∃ v w, vs = [v, w] ∧ D.nx ((σ.set i (some v)).set j (some w)) H1
/-- name op= e -/
def tAug (i : Nat) (te : TE) (ti : TIp) : TS := fun D σ H => ∃ x, σ[i]? = some (some x) ∧ te σ H fun y H1 => ti x y H1 fun z H2 => D.nx (σ.set i (some z)) H2
theorem ps_aug {i : Nat} {x : Str} {e : Expr} {te : TE} {op : Operator} {ti : TIp} {pos' : Pos} (hN : X.N.Nodup) (hi : X.N[i]? = some x) (hx : Loc X.env.scope x) (he : PE X e te) (ho : PIp X op ti) (hf : X.fn x = true ∨ X.env.scope.names.lookup x = some .local := by first | exact .inl rfl | exact .inr rfl | assumption) :
    PS X (.AugAssign (.Name x pos') op e pos) (tAug i te ti) := by
  intro pins s σ H D I h
  obtain ⟨v, e1, h⟩ := h
  obtain ⟨m, hn, hl⟩ := I.loc
  have vis : Vis X.env.scope x := by rcases hx with k | k; exact .inl k; exact .inr (.inl k)
  obtain ⟨u, r, l⟩ := hl i x v hi e1 vis
  refine wpAny_AugAssign_Name ?_
  have go : wpAny (model X.prog X.w) X.A (eval e X.env) (fun w s₂ => wpAny (model X.prog X.w) X.A (inplaceOp op u w) (fun r s₃ => wpAny (model X.prog X.w) X.A (storeName X.env x r) (fun _ => SP X pins D .next) X.xe s₃) X.xe s₂) X.xe s := by
    refine thn (he pins s σ H _ I h) fun w s1 ⟨y, H1, I1, r1, q1⟩ => ?_
    refine thn (ho pins s1 σ H1 v y u w _ I1 r r1 q1) fun z s2 ⟨zv, H2, I2, r2, q2⟩ => ?_
    exact store_ok I2 hN hi hx r2 (fun s3 I3 => ⟨_, H2, I3, q2⟩) hf
  rcases l with ⟨hk, hm⟩ | ⟨hk, c, hc, hcell⟩
  · exact wpAny_loadName_local I.ok.kind hk hn hm go
  · rcases hk with hk | hk
    · exact wpAny_loadName_cell I.ok.kind hk hc hcell go
    · rcases hx with k | k
      · have : X.env.scope.names.lookup x = some .free := hk
        rw [k] at this; cases this
      · have : X.env.scope.names.lookup x = some .free := hk
        rw [k] at this; cases this
/-- o[i] op= e -/
def tAugS (to ti te : TE) (tget : V → V → Hp → VK → Prop) (tip : TIp) (tset : TSet) : TS := fun D σ H => to σ H fun o H1 => ti σ H1 fun i H2 => tget o i H2 fun x H3 => te σ H3 fun y H4 => tip x y H4 fun z H5 => tset o i z H5 fun H6 => D.nx σ H6
/-- o[i], by values -/
def PGet (X : Cx) (t : V → V → Hp → VK → Prop) : Prop :=
  ∀ (pins : List (Addr × Obj)) (s : Shared) (σ : St) (H : Hp) (o i : V) (ov iv : Value) (Q : VK), Inv X pins σ H s → RelV o ov → RelV i iv → t o i H Q →
    wpAny (model X.prog X.w) X.A (getItem ov iv) (EP X pins σ Q) X.xe s
/-- ints -/
def ipI (f : Int → Int → Int) : TIp := fun x y H Q => ∃ i j, x = .int i ∧ y = .int j ∧ Q (.int (f i j)) H
theorem ip_add : PIp X .Add (ipI fun i j => i + j) := by
  intro pins s σ H x y v u Q I r1 r2 h
  obtain ⟨i, j, e1, e2, q⟩ := h
  subst e1; subst e2
  obtain ⟨t, rfl⟩ := r1
  obtain ⟨t', rfl⟩ := r2
  exact iadd_int ⟨.int _, H, I.tok _, ⟨_, rfl⟩, q⟩
end

/-! ### while -/
section
variable {X : Cx} {pos : Pos}
/-- the invariant W with its measure -/
def tWhile (c : TT) (tb : TS) : TS := fun D σ H => ∃ W : Nat → St → Hp → Prop, (∃ m, W m σ H) ∧ ∀ m σ H, W m σ H →
  c σ H fun b H1 => if b = true then ∃ N : St → Hp → Prop, (∀ σ' H', N σ' H' → ∃ m', m' < m ∧ W m' σ' H') ∧ tb { D with nx := N, ct := N, bk := D.nx } σ H1 else D.nx σ H1
theorem ps_while {c : Expr} {body : List Stmt} {tc : TT} {tb : TS} (hp : PassesOwn (model X.prog X.w) X.A X.env X.xe) (hc : PT X c tc) (hb : PSs X body tb) : PS X (.While c body [] pos) (tWhile tc tb) := by
  intro pins s σ H D I h
  obtain ⟨W, ⟨m0, w0⟩, turn⟩ := h
  refine wpAny_While (codeAny_whileLoop (fun n s' => ∃ σ' H', Inv X pins σ' H' s' ∧ W n σ' H') ?_ m0 ⟨σ, H, I, w0⟩)
  rintro n s1 ⟨σ1, H1, I1, w1⟩
  refine wpAny_passesOwn hp (thn (hc pins s1 σ1 H1 _ I1 (turn n σ1 H1 w1)) fun b s2 ⟨H2, I2, q2⟩ => ?_)
  cases b with
  | true =>
    obtain ⟨N, hN, q2⟩ := q2
    rw [if_pos rfl]
    refine wpAny_passesOwn hp (thn (hb pins s2 σ1 H2 _ I2 q2) fun f s3 q3 => ?_)
    cases f with
    | next =>
      obtain ⟨σ3, H3, I3, n3⟩ := q3
      obtain ⟨m', hm, w3⟩ := hN σ3 H3 n3
      exact ⟨m', hm, σ3, H3, I3, w3⟩
    | cont =>
      obtain ⟨σ3, H3, I3, n3⟩ := q3
      obtain ⟨m', hm, w3⟩ := hN σ3 H3 n3
      exact ⟨m', hm, σ3, H3, I3, w3⟩
    | brk => exact q3
    | ret v => exact q3
  | false =>
    rw [if_neg Bool.false_ne_true]
    exact wpAny_execs_nil ⟨σ1, H2, I2, q2⟩
end

/-! ### what a loop or a comprehension walks -/
/-- at turn i: it yields x (the heap may grow), or it stops -/
structure It where
  go : Nat → Hp → Prop
  yld : Nat → Hp → V → Hp → Prop
  stop : Nat → Hp → Prop
/-- the iterator's own objects may turn: they are not the frame's, not pinned, younger than the entry (or a comprehension's own) -/
def FpOk (X : Cx) (pins : List (Addr × Obj)) (H : Hp) (b : Addr) : Prop :=
  H b = none ∧ b ≠ X.env.locals ∧ b ∉ X.fs ∧ (b ∈ X.ex ∨ X.s₀.heap.objs.size ≤ b) ∧ (∀ x c, X.env.cells.lookup x = some c → c ≠ b) ∧ ∀ p ∈ X.pn ++ pins, p.1 ≠ b
theorem Inv.fpOk {X : Cx} {pins : List (Addr × Obj)} {σ : St} {H H' : Hp} {s : Shared} {b : Addr} (I : Inv X pins σ H s) (hb : s.heap.objs.size ≤ b) (hn : H' b = none) : FpOk X pins H' b := by
  refine ⟨hn, Nat.ne_of_gt (Nat.lt_of_lt_of_le I.lt hb), I.nofs hb, .inr (Nat.le_trans I.sz hb), fun x c e z => ?_, fun p hp z => ?_⟩
  · obtain ⟨v, q⟩ := I.cell x c e
    exact absurd (Nat.lt_of_lt_of_le q.lt (by rw [z]; exact hb)) (Nat.lt_irrefl _)
  · exact absurd (Nat.lt_of_lt_of_le (Heap.lt_size (I.pin p hp).1) (by rw [z]; exact hb)) (Nat.lt_irrefl _)
structure Turn (P : Program) (w : World) (K : PySem.W.Frag) (tg : Expr) (J : It) (fp : List Addr) (it : Addr) (tn : Nat → Heap → Prop) : Prop where
  mem : it ∈ fp
  obj : ∀ i h, tn i h → ∀ b ∈ fp, ∃ o, h.get? b = some o ∧ ∀ v, o.data ≠ .cell v
  keep : ∀ i h h', tn i h → (∀ b ∈ fp, ∀ o, h.get? b = some o → h'.get? b = some o) → tn i h'
  item : ∀ (X : Cx), X.prog = P → X.w = w → X.K = K → X.calm = true → ∀ (i : Nat) (pins : List (Addr × Obj)) (s : Shared) (σ : St) (H : Hp) (E : Value → Shared → Prop), Inv X pins σ H s → (∀ b ∈ fp, FpOk X pins H b) → tn i s.heap → J.go i H →
    wpAny (model P w) X.A (pyNext (.ref it)) (fun r s1 => ∃ u, r = some u ∧
      wpAny (model P w) X.A (letOwnedTupleGo tg (.ref it) u) (fun _ s2 => ∃ x H', Inv X pins σ H' s2 ∧ RelV x u ∧ J.yld i H x H' ∧ tn (i + 1) s2.heap ∧ ∀ b ∈ fp, H' b = none) E s1) E s
  done : ∀ (X : Cx), X.prog = P → X.w = w → X.K = K → X.calm = true → ∀ (i : Nat) (pins : List (Addr × Obj)) (s : Shared) (σ : St) (H : Hp) (E : Value → Shared → Prop), Inv X pins σ H s → (∀ b ∈ fp, FpOk X pins H b) → tn i s.heap → J.stop i H →
    wpAny (model P w) X.A (pyNext (.ref it)) (fun r s1 => r = none ∧ Inv X pins σ H s1) E s
  self : ∀ (A : Around) (i : Nat) (s : Shared) (Q : Value → Shared → Prop) (E : Value → Shared → Prop), tn i s.heap → Q (.ref it) s → wpAny (model P w) A (pyIter (.ref it)) Q E s
abbrev TI := St → Hp → (It → Hp → Prop) → Prop
/-- an iterator has come -/
def PIE (X : Cx) (pins : List (Addr × Obj)) (σ : St) (tg : Expr) (R : It → Hp → Prop) (itv : Value) (s2 : Shared) : Prop :=
  ∃ (it : Addr) (fp : List Addr) (tn : Nat → Heap → Prop) (J : It) (H' : Hp), itv = .ref it ∧ Inv X pins σ H' s2 ∧ Turn X.prog X.w X.K tg J fp it tn ∧ tn 0 s2.heap ∧ (∀ b ∈ fp, FpOk X pins H' b) ∧ R J H'
def PI (X : Cx) (tg iter : Expr) (wi : TI) : Prop :=
  ∀ (pins : List (Addr × Obj)) (s : Shared) (σ : St) (H : Hp) (R : It → Hp → Prop), Inv X pins σ H s → wi σ H R →
    wpAny (model X.prog X.w) X.A (eval iter X.env) (fun v s1 => wpAny (model X.prog X.w) X.A (pyIter v) (PIE X pins σ tg R) X.xe s1) X.xe s

/-- the step ahead of the store is nothing for an iterator that keeps no tuple -/
theorem go_of {M : Model} {A : Around} {E : Value → Shared → Prop} {s : Shared} {tg : Expr} {it : Addr} {u : Value} {o : Obj} {n : String} {vs : Array Value} {Q : Unit → Shared → Prop} (ho : s.heap.get? it = some o) (hc : o.cls = .type n) (hd : o.data = .fields vs)
    (hn : ["enumerate", "zip", "dict_itemiterator", "dict_reverseitemiterator", "odict_iterator", "itertools.zip_longest", "itertools.pairwise"].contains n = false) (hQ : Q () s) : wpAny M A (letOwnedTupleGo tg (.ref it) u) Q E s := by
  unfold letOwnedTupleGo
  cases tg <;> first
    | exact wpAny_pure hQ
    | (cases u <;> first
        | exact wpAny_pure hQ
        | (refine wpAny_bind (wpAny_load ho ?_)
           rw [hc, hd]
           show wpAny M A (if (["enumerate", "zip", "dict_itemiterator", "dict_reverseitemiterator", "odict_iterator", "itertools.zip_longest", "itertools.pairwise"].contains n && vs[0]? == some (rawInt _)) = true then _ else _) Q E s
           rw [if_neg (by intro h; rw [hn, Bool.false_and] at h; cases h)]
           exact wpAny_pure hQ))

/-- the list at a, as it stands at each turn (a loop may append to it) -/
def Itl (K : PySem.W.Frag) (a : Addr) : It :=
  ⟨fun i H => ∃ xs x, SqL K H a xs ∧ xs[i]? = some x, fun i H x H' => H' = H ∧ ∀ xs, SqL K H a xs → xs[i]? = some x, fun i H => ∃ xs, SqL K H a xs ∧ xs.length ≤ i⟩
def Itt (K : PySem.W.Frag) (a : Addr) : It :=
  ⟨fun i H => ∃ xs x, SqT K H a xs ∧ xs[i]? = some x, fun i H x H' => H' = H ∧ ∀ xs, SqT K H a xs → xs[i]? = some x, fun i H => ∃ xs, SqT K H a xs ∧ xs.length ≤ i⟩
/-- lo, lo + 1, .. (n of them) -/
def Itr (lo : Int) (n : Nat) : It := ⟨fun i _ => i < n, fun i H x H' => H' = H ∧ x = .int (lo + i), fun i _ => n ≤ i⟩
theorem turn_list {P : Program} {w : World} {K : PySem.W.Frag} {tg : Expr} (a it : Addr) : Turn P w K tg (Itl K a) [it] it (fun i h => h.IsListIter it a i) where
  mem := by simp
  obj := fun i h st b hb => by
    have e : b = it := by simpa using hb
    subst e
    obtain ⟨o, e, c, d⟩ := st
    exact ⟨o, e, fun v z => by rw [d] at z; cases z⟩
  keep := fun i h h' st k => st.at fun o e => k it (by simp) o e
  item := by
    intro X hP hw hK hc i pins s σ H E I hf st hg
    subst hP hw hK
    obtain ⟨xs, x, hq, hx⟩ := hg
    obtain ⟨its, rv, p, hz⟩ := I.list hq
    obtain ⟨u, hu, ru⟩ := rv.get hx
    obtain ⟨f0, f1, f2, f3, f4, f5⟩ := hf it (by simp)
    refine wpAny_pyNext_list_item st p.isList (x := u) (by simpa using hu) fun h' st' sb => ?_
    have I1 : Inv X pins σ H { s with heap := h' } := I.turned (t' := s.toks) (fun b o hb e => (sb.2 b hb).trans e) f0 f1 f3 f4 f5
    obtain ⟨o, e, c, d⟩ := id st'
    exact ⟨u, rfl, go_of (s := { s with heap := h' }) e c d (by decide) ⟨x, H, I1, ru, ⟨rfl, fun ys hy => by rw [I.list_inj hy hq]; exact hx⟩, st', fun b hb => (hf b hb).1⟩⟩
  done := by
    intro X hP hw hK hc i pins s σ H E I hf st hg
    subst hP hw hK
    obtain ⟨xs, hq, hx⟩ := hg
    obtain ⟨its, rv, p, hz⟩ := I.list hq
    obtain ⟨f0, f1, f2, f3, f4, f5⟩ := hf it (by simp)
    have hl := rv.length
    exact wpAny_pyNext_list_end (I.ok.hd hc) st p.isList (by simp; omega) fun h' eb => ⟨rfl, I.turned (t' := s.toks) (fun b o hb e => eb b o hb e) f0 f1 f3 f4 f5⟩
  self := fun _ _ _ _ _ st h => wpAny_pyIter_listiter st h
theorem turn_tuple {P : Program} {w : World} {K : PySem.W.Frag} {tg : Expr} (a it : Addr) : Turn P w K tg (Itt K a) [it] it (fun i h => h.IsTupleIter it a i) where
  mem := by simp
  obj := fun i h st b hb => by
    have e : b = it := by simpa using hb
    subst e
    obtain ⟨o, e, c, d⟩ := st
    exact ⟨o, e, fun v z => by rw [d] at z; cases z⟩
  keep := fun i h h' st k => st.at fun o e => k it (by simp) o e
  item := by
    intro X hP hw hK hc i pins s σ H E I hf st hg
    subst hP hw hK
    obtain ⟨xs, x, hq, hx⟩ := hg
    obtain ⟨its, rv, p, hz⟩ := I.tuple hq
    obtain ⟨u, hu, ru⟩ := rv.get hx
    obtain ⟨f0, f1, f2, f3, f4, f5⟩ := hf it (by simp)
    refine wpAny_pyNext_tuple_item st (show s.heap.IsTuple a its.toArray from p) (x := u) (by simpa using hu) fun h' st' sb => ?_
    have I1 : Inv X pins σ H { s with heap := h' } := I.turned (t' := s.toks) (fun b o hb e => (sb.2 b hb).trans e) f0 f1 f3 f4 f5
    obtain ⟨o, e, c, d⟩ := id st'
    exact ⟨u, rfl, go_of (s := { s with heap := h' }) e c d (by decide) ⟨x, H, I1, ru, ⟨rfl, fun ys hy => by rw [I.tuple_inj hy hq]; exact hx⟩, st', fun b hb => (hf b hb).1⟩⟩
  done := by
    intro X hP hw hK hc i pins s σ H E I hf st hg
    subst hP hw hK
    obtain ⟨xs, hq, hx⟩ := hg
    obtain ⟨its, rv, p, hz⟩ := I.tuple hq
    obtain ⟨f0, f1, f2, f3, f4, f5⟩ := hf it (by simp)
    have hl := rv.length
    exact wpAny_pyNext_tuple_end (I.ok.hd hc) st (show s.heap.IsTuple a its.toArray from p) (by simp; omega) fun h' eb => ⟨rfl, I.turned (t' := s.toks) (fun b o hb e => eb b o hb e) f0 f1 f3 f4 f5⟩
  self := fun _ _ _ _ _ st h => wpAny_pyIter_tupleiter st h
theorem turn_range {P : Program} {w : World} {K : PySem.W.Frag} {tg : Expr} (it : Addr) (lo : Int) (n : Nat) : Turn P w K tg (Itr lo n) [it] it (fun i h => IsRangeIter h it (lo + (i : Nat) * 1) ((n : Int) - (i : Nat)) 1) where
  mem := by simp
  obj := fun i h st b hb => by
    have e : b = it := by simpa using hb
    subst e
    exact ⟨_, st, fun v z => by
      have z' : Data.fields _ = Data.cell v := z
      cases z'⟩
  keep := fun i h h' st k => k it (by simp) _ st
  item := by
    intro X hP hw hK hc i pins s σ H E I hf st hg
    subst hP hw hK
    obtain ⟨f0, f1, f2, f3, f4, f5⟩ := hf it (by simp)
    have W := Walks.range (prog := X.prog) (w := X.w) (I.ok.hd hc) it lo 1 n
    refine W.item i s _ _ hg st fun v h' tk hv st' kk => ?_
    obtain ⟨t, rfl⟩ := hv
    have I1 : Inv X pins σ H { s with heap := h', toks := tk } := I.turned (fun b o hb e => kk b o (by simpa using hb) e) f0 f1 f3 f4 f5
    refine ⟨_, rfl, go_of (s := { s with heap := h', toks := tk }) (n := "range_iterator") st' rfl rfl (by decide) ⟨.int (lo + i), H, I1, ⟨t, ?_⟩, ⟨rfl, rfl⟩, st', fun b hb => (hf b hb).1⟩⟩
    rw [Int.mul_one]
  done := by
    intro X hP hw hK hc i pins s σ H E I hf st hg
    subst hP hw hK
    obtain ⟨f0, f1, f2, f3, f4, f5⟩ := hf it (by simp)
    exact wpAny_pyNext_range_end (I.ok.hd hc) st (by have : n ≤ i := hg; omega) fun h' eb => ⟨rfl, I.turned (t' := s.toks) (fun b o hb e => eb b o hb e) f0 f1 f3 f4 f5⟩
  self := fun _ _ _ _ _ st h => wpAny_pyIter_rangeiter st h
end L2

namespace L2
open PySem PySem.Spec PyProof.Rows
section
variable {X : Cx} {tg : Expr}
def iList (K : PySem.W.Frag) (tl : TE) : TI := fun σ H R => tl σ H fun x H1 => ∃ a, x = .ref a ∧ (∃ xs, SqL K H1 a xs) ∧ R (Itl K a) H1
def iTup (K : PySem.W.Frag) (tl : TE) : TI := fun σ H R => tl σ H fun x H1 => ∃ a, x = .ref a ∧ (∃ xs, SqT K H1 a xs) ∧ R (Itt K a) H1
theorem pi_list {l : Expr} {tl : TE} (hl : PE X l tl) : PI X tg l (iList X.K tl) := by
  intro pins s σ H R I h
  refine thn (hl pins s σ H _ I h) fun v s1 ⟨x, H1, I1, r1, q1⟩ => ?_
  obtain ⟨a, e, ⟨xs, hq⟩, q⟩ := q1
  subst e
  cases r1
  obtain ⟨its, rv, p, hz⟩ := I1.list hq
  refine wpAny_pyIter_list p.isList ?_
  refine ⟨s1.heap.objs.size, [s1.heap.objs.size], _, _, H1, rfl, I1.kept (t' := s1.toks) fun b o e => Heap.get?_push_of_some _ e, turn_list a _, ⟨_, Heap.get?_push_size _ rfl, rfl, rfl⟩, fun b hb => ?_, q⟩
  have e : b = s1.heap.objs.size := by simpa using hb
  subst e
  exact I1.fpOk (Nat.le_refl _) (I1.hok.fresh (Nat.le_refl _))
theorem pi_tup {l : Expr} {tl : TE} (hl : PE X l tl) : PI X tg l (iTup X.K tl) := by
  intro pins s σ H R I h
  refine thn (hl pins s σ H _ I h) fun v s1 ⟨x, H1, I1, r1, q1⟩ => ?_
  obtain ⟨a, e, ⟨xs, hq⟩, q⟩ := q1
  subst e
  cases r1
  obtain ⟨its, rv, p, hz⟩ := I1.tuple hq
  refine wpAny_pyIter_tuple (show s1.heap.IsTuple a its.toArray from p) ?_
  refine ⟨s1.heap.objs.size, [s1.heap.objs.size], _, _, H1, rfl, I1.kept (t' := s1.toks) fun b o e => Heap.get?_push_of_some _ e, turn_tuple a _, ⟨_, Heap.get?_push_size _ rfl, rfl, rfl⟩, fun b hb => ?_, q⟩
  have e : b = s1.heap.objs.size := by simpa using hb
  subst e
  exact I1.fpOk (Nat.le_refl _) (I1.hok.fresh (Nat.le_refl _))
/-- a range object just made, walked -/
theorem range_it {pins : List (Addr × Obj)} {σ : St} {H : Hp} {s : Shared} {R : It → Hp → Prop} {E : Value → Shared → Prop} {lo hi : Int} {t u v : Tok} {tk : Nat} (I : Inv X pins σ H s) (h1 : -(2 ^ 62) ≤ lo) (h2 : lo < 2 ^ 62) (h3 : -(2 ^ 62) ≤ hi) (h4 : hi < 2 ^ 62)
    (q : R (Itr lo (hi - lo).toNat) H) : wpAny (model X.prog X.w) X.A (pyIter (.ref s.heap.objs.size)) (PIE X pins σ tg R) E { s with heap := s.heap.push { cls := .type "range", data := .fields #[.int lo t, .int hi u, .int 1 v] }, toks := tk } := by
  refine wpAny_pyIter_range (IsRange.new ..) (small_one h1 h2 h3 h4) ?_
  have I1 : Inv X pins σ H { s with heap := s.heap.push { cls := .type "range", data := .fields #[.int lo t, .int hi u, .int 1 v] }, toks := tk } := I.kept fun b o e => Heap.get?_push_of_some _ e
  refine ⟨(s.heap.push { cls := .type "range", data := .fields #[.int lo t, .int hi u, .int 1 v] }).objs.size, [(s.heap.push { cls := .type "range", data := .fields #[.int lo t, .int hi u, .int 1 v] }).objs.size], _, _, H, rfl,
    I1.kept (t' := tk) fun b o e => Heap.get?_push_of_some _ e, turn_range _ lo (hi - lo).toNat, ?_, fun b hb => ?_, q⟩
  · have e1 : lo + ((0 : Nat) : Int) * 1 = lo := by simp
    have e2 : (((hi - lo).toNat : Nat) : Int) - ((0 : Nat) : Int) = Builtin.Range.rangeSize lo hi 1 := by rw [rangeSize_one]; split <;> omega
    show IsRangeIter _ _ (lo + ((0 : Nat) : Int) * 1) ((((hi - lo).toNat : Nat) : Int) - ((0 : Nat) : Int)) 1
    rw [e1, e2]
    exact Heap.get?_push_size _ rfl
  · have e : b = (s.heap.push { cls := .type "range", data := .fields #[.int lo t, .int hi u, .int 1 v] }).objs.size := by simpa using hb
    subst e
    exact I1.fpOk (Nat.le_refl _) (I1.hok.fresh (Nat.le_refl _))
def iRng1 (ta : TA) : TI := fun σ H R => ta σ H fun vs H1 => ∃ j : Int, vs = [.int j] ∧ -(2 ^ 62) ≤ j ∧ j < 2 ^ 62 ∧ R (Itr 0 j.toNat) H1
def iRng2 (ta : TA) : TI := fun σ H R => ta σ H fun vs H1 => ∃ i j : Int, vs = [.int i, .int j] ∧ (-(2 ^ 62) ≤ i ∧ i < 2 ^ 62 ∧ -(2 ^ 62) ≤ j ∧ j < 2 ^ 62) ∧ R (Itr i (j - i).toNat) H1
theorem pi_range1 {a : Expr} {ta : TA} {p pos : Pos} (hg : Gl X "range") (hm : X.mg "range" = none) (ha : PA X [a] ta) (hs : starEach [a] X.env = [(false, eval a X.env)] := by rfl) : PI X tg (.Call (.Name "range" p) [a] [] pos) (iRng1 ta) := by
  intro pins s σ H R I h
  refine Call_ (ld_blt I hg hm boot_range (PyProof.Rows.callWith_type1 (thn (ha pos pins s σ H _ I h) fun us s1 ⟨vs, H1, I1, r1, q1⟩ => ?_) hs rfl))
  obtain ⟨j, e, q1, q2, q⟩ := q1
  subst e
  cases r1 with
  | cons r rr =>
    cases rr
    obtain ⟨t, rfl⟩ := r
    exact call_range_1 (range_it I1 (by omega) (by omega) q1 q2 (by simpa using q))

/-! ### for -/
/-- W: the invariant by the turn and a measure; N: what the body is to reach -/
def tFor (wi : TI) (g : TG) (tb : TS) : TS := fun D σ H => wi σ H fun J H1 => ∃ W : Nat → Nat → St → Hp → Prop, (∃ m, W 0 m σ H1) ∧ ∀ i m σ H, W i m σ H →
  (J.stop i H ∧ D.nx σ H) ∨ (J.go i H ∧ ∃ N : St → Hp → Prop, (∀ σ' H', N σ' H' → ∃ m', m' < m ∧ W (i + 1) m' σ' H') ∧ ∀ x H', J.yld i H x H' → g x σ H' fun σ2 H2 => tb { D with nx := N, ct := N, bk := D.nx } σ2 H2)
/-- the records at fp as they stand -/
def pinsAt (fp : List Addr) (h : Heap) : List (Addr × Obj) := fp.filterMap fun b => (h.get? b).map fun o => (b, o)
theorem mem_pinsAt {fp : List Addr} {h : Heap} {b : Addr} {o : Obj} (hb : b ∈ fp) (e : h.get? b = some o) : (b, o) ∈ pinsAt fp h := List.mem_filterMap.mpr ⟨b, hb, by rw [e]; rfl⟩
theorem of_pinsAt {fp : List Addr} {h : Heap} {p : Addr × Obj} (hp : p ∈ pinsAt fp h) : p.1 ∈ fp ∧ h.get? p.1 = some p.2 := by
  obtain ⟨b, hb, e⟩ := List.mem_filterMap.mp hp
  cases q : h.get? b with
  | none => rw [q] at e; cases e
  | some o =>
    rw [q] at e
    have e' : (b, o) = p := Option.some.inj e
    subst e'
    exact ⟨hb, q⟩
theorem Inv.pinned {pins : List (Addr × Obj)} {σ : St} {H : Hp} {s : Shared} {fp : List Addr} (I : Inv X pins σ H s) (hf : ∀ b ∈ fp, FpOk X pins H b) (ho : ∀ b ∈ fp, ∃ o, s.heap.get? b = some o ∧ ∀ v, o.data ≠ .cell v) : Inv X (pins ++ pinsAt fp s.heap) σ H s :=
  I.pins_of fun p hp => (List.mem_append.mp hp).elim (fun z => I.pin p (List.mem_append_right _ z)) fun z => by
    obtain ⟨hb, e⟩ := of_pinsAt z
    obtain ⟨f0, f1, f2, _⟩ := hf p.1 hb
    obtain ⟨o, e', d⟩ := ho p.1 hb
    rw [e] at e'; cases e'
    exact ⟨e, f0, f1, f2, d⟩
theorem Inv.unpinned {pins pl : List (Addr × Obj)} {σ : St} {H : Hp} {s : Shared} (I : Inv X (pins ++ pl) σ H s) : Inv X pins σ H s := I.pins_of fun p hp => I.pin p (List.mem_append_right _ (List.mem_append_left _ hp))
theorem ps_for {iter : Expr} {body : List Stmt} {wi : TI} {g : TG} {tb : TS} {pos : Pos} (hp : PassesOwn (model X.prog X.w) X.A X.env X.xe) (hc : X.calm = true) (hi : PI X tg iter wi) (hg : PG X tg g) (hb : PSs X body tb)
    (hs : ∀ x, foldedSetIterable iter X.env x = pure x := by intro _; rfl) : PS X (.For tg iter body [] pos) (tFor wi g tb) := by
  intro pins s σ H D I h
  refine wpAny_For (thn (hi pins s σ H _ I h) fun v s1 h1 => thn h1 fun itv s2 h2 => ?_) hs
  obtain ⟨it, fp, tn, J, H2, e, I2, T, st2, f2, W, ⟨m0, w0⟩, turn⟩ := h2
  subst e
  -- what stays true of the iterator's objects through the loop
  have stat : ∀ {H' : Hp}, (∀ b ∈ fp, H' b = none) → ∀ b ∈ fp, FpOk X pins H' b := fun hn b hb => ⟨hn b hb, (f2 b hb).2⟩
  refine codeAny_forLoop_any (fun n s' => ∃ i σ' H', Inv X pins σ' H' s' ∧ tn i s'.heap ∧ (∀ b ∈ fp, H' b = none) ∧ W i n σ' H') ?_ m0 ⟨0, σ, H2, I2, st2, fun b hb => (f2 b hb).1, w0⟩
  rintro n s3 ⟨i, σ3, H3, I3, st3, fr3, w3⟩
  rcases turn i n σ3 H3 w3 with ⟨stop, qn⟩ | ⟨go, N, hN, step⟩
  · refine wpAny_passesOwn hp (thn (T.done X rfl rfl rfl hc i pins s3 σ3 H3 X.xe I3 (stat fr3) st3 stop) fun r s4 ⟨hr, I4⟩ => ?_)
    subst hr
    exact wpAny_execs_nil ⟨σ3, H3, I4, qn⟩
  · refine wpAny_passesOwn hp (thn (T.item X rfl rfl rfl hc i pins s3 σ3 H3 X.xe I3 (stat fr3) st3 go) fun r s4 ⟨u, hr, h4⟩ => ?_)
    subst hr
    refine wpAny_passesOwn hp (thn h4 fun _ s5 ⟨x, H5, I5, r5, y5, st5, fr5⟩ => ?_)
    have I5' := I5.pinned (stat fr5) (T.obj _ _ st5)
    refine wpAny_passesOwn hp (thn (hg _ s5 σ3 H5 x u _ I5' r5 (step x H5 y5)) fun _ s6 ⟨σ6, H6, I6, q6⟩ => ?_)
    refine wpAny_passesOwn hp (thn (hb _ s6 σ6 H6 _ I6 q6) fun f s7 q7 => ?_)
    have again : ∀ {σ7 : St} {H7 : Hp}, Inv X (pins ++ pinsAt fp s5.heap) σ7 H7 s7 → N σ7 H7 → ∃ m, m < n ∧ ∃ i σ' H', Inv X pins σ' H' s7 ∧ tn i s7.heap ∧ (∀ b ∈ fp, H' b = none) ∧ W i m σ' H' := fun {σ7 H7} I7 n7 => by
      obtain ⟨m', hm, w7⟩ := hN σ7 H7 n7
      refine ⟨m', hm, i + 1, σ7, H7, I7.unpinned, T.keep _ _ _ st5 fun b hb o e => (I7.pin (b, o) (List.mem_append_right _ (List.mem_append_right _ (mem_pinsAt hb e)))).1, fun b hb => ?_, w7⟩
      obtain ⟨o, e, d⟩ := T.obj _ _ st5 b hb
      exact (I7.pin (b, o) (List.mem_append_right _ (List.mem_append_right _ (mem_pinsAt hb e)))).2.1
    cases f with
    | next => obtain ⟨σ7, H7, I7, n7⟩ := q7; exact again I7 n7
    | cont => obtain ⟨σ7, H7, I7, n7⟩ := q7; exact again I7 n7
    | brk => obtain ⟨σ7, H7, I7, q7⟩ := q7; exact ⟨σ7, H7, I7.unpinned, q7⟩
    | ret v => obtain ⟨x7, σ7, H7, I7, r7, q7⟩ := q7; exact ⟨x7, σ7, H7, I7.unpinned, r7, q7⟩
end

/-! ### the forms one uses -/
/-- over a list that the body leaves as it is -/
theorem for_list {K : PySem.W.Frag} {a : Addr} {xs : List V} {g : TG} {tb : TS} {D : Ends} {σ : St} {H : Hp} (Pv : Nat → St → Hp → Prop) (h0 : Pv 0 σ H) (hl : ∀ i σ H, i ≤ xs.length → Pv i σ H → SqL K H a xs)
    (hs : ∀ i x σ H, xs[i]? = some x → Pv i σ H → g x σ H fun σ2 H2 => tb { D with nx := Pv (i + 1), ct := Pv (i + 1), bk := D.nx } σ2 H2) (hd : ∀ σ H, Pv xs.length σ H → D.nx σ H) :
    ∃ W : Nat → Nat → St → Hp → Prop, (∃ m, W 0 m σ H) ∧ ∀ i m σ H, W i m σ H →
      ((Itl K a).stop i H ∧ D.nx σ H) ∨ ((Itl K a).go i H ∧ ∃ N : St → Hp → Prop, (∀ σ' H', N σ' H' → ∃ m', m' < m ∧ W (i + 1) m' σ' H') ∧ ∀ x H', (Itl K a).yld i H x H' → g x σ H' fun σ2 H2 => tb { D with nx := N, ct := N, bk := D.nx } σ2 H2) := by
  refine ⟨fun i m σ H => m = xs.length - i ∧ i ≤ xs.length ∧ Pv i σ H, ⟨xs.length, by simp, Nat.zero_le _, h0⟩, ?_⟩
  rintro i m σ H ⟨rfl, hi, p⟩
  have q := hl i σ H hi p
  by_cases hlt : i < xs.length
  · refine .inr ⟨⟨xs, xs[i], q, by simp [hlt]⟩, Pv (i + 1), fun σ' H' p' => ⟨xs.length - (i + 1), by omega, rfl, hlt, p'⟩, fun x H' y => ?_⟩
    obtain ⟨e, y⟩ := y
    subst e
    exact hs i x σ _ (y xs q) p
  · have e : i = xs.length := by omega
    subst e
    exact .inl ⟨⟨xs, q, Nat.le_refl _⟩, hd σ H p⟩
theorem for_tup {K : PySem.W.Frag} {a : Addr} {xs : List V} {g : TG} {tb : TS} {D : Ends} {σ : St} {H : Hp} (Pv : Nat → St → Hp → Prop) (h0 : Pv 0 σ H) (hl : ∀ i σ H, i ≤ xs.length → Pv i σ H → SqT K H a xs)
    (hs : ∀ i x σ H, xs[i]? = some x → Pv i σ H → g x σ H fun σ2 H2 => tb { D with nx := Pv (i + 1), ct := Pv (i + 1), bk := D.nx } σ2 H2) (hd : ∀ σ H, Pv xs.length σ H → D.nx σ H) :
    ∃ W : Nat → Nat → St → Hp → Prop, (∃ m, W 0 m σ H) ∧ ∀ i m σ H, W i m σ H →
      ((Itt K a).stop i H ∧ D.nx σ H) ∨ ((Itt K a).go i H ∧ ∃ N : St → Hp → Prop, (∀ σ' H', N σ' H' → ∃ m', m' < m ∧ W (i + 1) m' σ' H') ∧ ∀ x H', (Itt K a).yld i H x H' → g x σ H' fun σ2 H2 => tb { D with nx := N, ct := N, bk := D.nx } σ2 H2) := by
  refine ⟨fun i m σ H => m = xs.length - i ∧ i ≤ xs.length ∧ Pv i σ H, ⟨xs.length, by simp, Nat.zero_le _, h0⟩, ?_⟩
  rintro i m σ H ⟨rfl, hi, p⟩
  have q := hl i σ H hi p
  by_cases hlt : i < xs.length
  · refine .inr ⟨⟨xs, xs[i], q, by simp [hlt]⟩, Pv (i + 1), fun σ' H' p' => ⟨xs.length - (i + 1), by omega, rfl, hlt, p'⟩, fun x H' y => ?_⟩
    obtain ⟨e, y⟩ := y
    subst e
    exact hs i x σ _ (y xs q) p
  · have e : i = xs.length := by omega
    subst e
    exact .inl ⟨⟨xs, q, Nat.le_refl _⟩, hd σ H p⟩
theorem for_range {lo : Int} {n : Nat} {g : TG} {tb : TS} {D : Ends} {σ : St} {H : Hp} (Pv : Nat → St → Hp → Prop) (h0 : Pv 0 σ H)
    (hs : ∀ i σ H, i < n → Pv i σ H → g (.int (lo + i)) σ H fun σ2 H2 => tb { D with nx := Pv (i + 1), ct := Pv (i + 1), bk := D.nx } σ2 H2) (hd : ∀ σ H, Pv n σ H → D.nx σ H) :
    ∃ W : Nat → Nat → St → Hp → Prop, (∃ m, W 0 m σ H) ∧ ∀ i m σ H, W i m σ H →
      ((Itr lo n).stop i H ∧ D.nx σ H) ∨ ((Itr lo n).go i H ∧ ∃ N : St → Hp → Prop, (∀ σ' H', N σ' H' → ∃ m', m' < m ∧ W (i + 1) m' σ' H') ∧ ∀ x H', (Itr lo n).yld i H x H' → g x σ H' fun σ2 H2 => tb { D with nx := N, ct := N, bk := D.nx } σ2 H2) := by
  refine ⟨fun i m σ H => m = n - i ∧ i ≤ n ∧ Pv i σ H, ⟨n, by simp, Nat.zero_le _, h0⟩, ?_⟩
  rintro i m σ H ⟨rfl, hi, p⟩
  by_cases hlt : i < n
  · refine .inr ⟨hlt, Pv (i + 1), fun σ' H' p' => ⟨n - (i + 1), by omega, rfl, hlt, p'⟩, fun x H' y => ?_⟩
    obtain ⟨e, y⟩ := y
    subst e y
    exact hs i σ _ hlt p
  · have e : i = n := by omega
    subst e
    exact .inl ⟨Nat.le_refl _, hd σ H p⟩
end L2

namespace L2
open PySem PySem.Spec PyProof.Rows

abbrev R2 := V → V → Hp → VK → Prop
/-- a two-place operation on values: f is binaryOp op, inplaceOp op or compareOp op -/
def OpR (X : Cx) (f : Value → Value → Sem Value) (r : R2) : Prop :=
  ∀ (pins : List (Addr × Obj)) (s : Shared) (σ : St) (H : Hp) (x y : V) (v u : Value) (Q : VK), Inv X pins σ H s → RelV x v → RelV y u → r x y H Q →
    wpAny (model X.prog X.w) X.A (f v u) (EP X pins σ Q) X.xe s
/-- a one-place operation -/
def UnR (X : Cx) (f : Value → Sem Value) (r : V → Hp → VK → Prop) : Prop :=
  ∀ (pins : List (Addr × Obj)) (s : Shared) (σ : St) (H : Hp) (x : V) (v : Value) (Q : VK), Inv X pins σ H s → RelV x v → r x H Q →
    wpAny (model X.prog X.w) X.A (f v) (EP X pins σ Q) X.xe s
/-- a call of a value that is known (a builtin, a type) with values -/
def CallR (X : Cx) (f : Value) (r : List V → Hp → VK → Prop) : Prop :=
  ∀ (pins : List (Addr × Obj)) (s : Shared) (σ : St) (H : Hp) (xs : List V) (us : List Value) (Q : VK), Inv X pins σ H s → Vals xs us → r xs H Q →
    wpAny (model X.prog X.w) X.A (call f us) (EP X pins σ Q) X.xe s
/-- a value's truth -/
def TruR (X : Cx) (r : V → Hp → (Bool → Hp → Prop) → Prop) : Prop :=
  ∀ (pins : List (Addr × Obj)) (s : Shared) (σ : St) (H : Hp) (x : V) (v : Value) (Q : Bool → Hp → Prop), Inv X pins σ H s → RelV x v → r x H Q →
    wpAny (model X.prog X.w) X.A (truthy v) (TP X pins σ Q) X.xe s

def tOp (r : R2) (ta tb : TE) : TE := fun σ H Q => ta σ H fun x H1 => tb σ H1 fun y H2 => r x y H2 Q
def tUn (r : V → Hp → VK → Prop) (ta : TE) : TE := fun σ H Q => ta σ H fun x H1 => r x H1 Q
/-- ints in, under C, and a value out -/
def rI (C : Int → Int → Prop) (g : Int → Int → V) : R2 := fun x y H Q => ∃ i j, x = .int i ∧ y = .int j ∧ C i j ∧ Q (g i j) H
def rI0 (g : Int → Int → V) : R2 := fun x y H Q => ∃ i j, x = .int i ∧ y = .int j ∧ Q (g i j) H
def rU (g : Int → V) : V → Hp → VK → Prop := fun x H Q => ∃ i, x = .int i ∧ Q (g i) H

section
variable {X : Cx} {a b c : Expr} {ta tb tc : TE} {pos : Pos}

theorem binT (ha : PE X a ta) (hb : PE X b tb) {pins : List (Addr × Obj)} {s : Shared} {σ : St} {H : Hp} {R : V → V → Hp → Prop} (I : Inv X pins σ H s)
    (h : ta σ H fun x H1 => tb σ H1 fun y H2 => R x y H2) {Q : Value → Shared → Prop} {f : Value → Value → Sem Value}
    (hf : ∀ v u s2 x y H2, Inv X pins σ H2 s2 → RelV x v → RelV y u → R x y H2 → wpAny (model X.prog X.w) X.A (f v u) Q X.xe s2) :
    wpAny (model X.prog X.w) X.A (eval a X.env) (fun v s₁ => wpAny (model X.prog X.w) X.A (eval b X.env) (fun u s₂ => wpAny (model X.prog X.w) X.A (f v u) Q X.xe s₂) X.xe s₁) X.xe s := by
  refine thn (ha pins s σ H _ I h) fun v s1 ⟨x, H1, I1, r1, q1⟩ => ?_
  refine thn (hb pins s1 σ H1 _ I1 q1) fun u s2 ⟨y, H2, I2, r2, q2⟩ => ?_
  exact hf v u s2 x y H2 I2 r1 r2 q2

theorem pe_op {op : Operator} {r : R2} (ho : OpR X (binaryOp op) r) (ha : PE X a ta) (hb : PE X b tb) : PE X (.BinOp a op b pos) (tOp r ta tb) := by
  intro pins s σ H Q I h
  exact wpAny_BinOp (binT ha hb I h fun v u s2 x y H2 I2 rx ry q => ho pins s2 σ H2 x y v u Q I2 rx ry q)
theorem pe_un {op : UnaryOp} {r : V → Hp → VK → Prop} (ho : UnR X (unaryOp op) r) (ha : PE X a ta) : PE X (.UnaryOp op a pos) (tUn r ta) := by
  intro pins s σ H Q I h
  exact UnaryOp_ (thn (ha pins s σ H _ I h) fun v s1 ⟨x, H1, I1, r1, q1⟩ => ho pins s1 σ H1 x v Q I1 r1 q1)

/-! ### ints -/
theorem opI {f : Value → Value → Sem Value} {C : Int → Int → Prop} {g : Int → Int → Int}
    (rule : ∀ (i j : Int) (t u : Tok) (s : Shared) (Q : Value → Shared → Prop) (E : Value → Shared → Prop), C i j → Q (.int (g i j) s.toks) { s with toks := s.toks + 1 } → wpAny (model X.prog X.w) X.A (f (.int i t) (.int j u)) Q E s) :
    OpR X f (rI C fun i j => .int (g i j)) := by
  intro pins s σ H x y v u Q I rx ry h
  obtain ⟨i, j, rfl, rfl, hc, q⟩ := h
  obtain ⟨t, rfl⟩ := rx
  obtain ⟨t', rfl⟩ := ry
  exact rule i j t t' s _ _ hc ⟨.int (g i j), H, I.tok _, ⟨_, rfl⟩, q⟩
theorem opI0 {f : Value → Value → Sem Value} {g : Int → Int → Int}
    (rule : ∀ (i j : Int) (t u : Tok) (s : Shared) (Q : Value → Shared → Prop) (E : Value → Shared → Prop), Q (.int (g i j) s.toks) { s with toks := s.toks + 1 } → wpAny (model X.prog X.w) X.A (f (.int i t) (.int j u)) Q E s) :
    OpR X f (rI0 fun i j => .int (g i j)) := by
  intro pins s σ H x y v u Q I rx ry h
  obtain ⟨i, j, rfl, rfl, q⟩ := h
  obtain ⟨t, rfl⟩ := rx
  obtain ⟨t', rfl⟩ := ry
  exact rule i j t t' s _ _ ⟨.int (g i j), H, I.tok _, ⟨_, rfl⟩, q⟩
theorem opB0 {f : Value → Value → Sem Value} {g : Int → Int → Bool}
    (rule : ∀ (i j : Int) (t u : Tok) (s : Shared) (Q : Value → Shared → Prop) (E : Value → Shared → Prop), Q (.bool (g i j)) s → wpAny (model X.prog X.w) X.A (f (.int i t) (.int j u)) Q E s) :
    OpR X f (rI0 fun i j => .bl (g i j)) := by
  intro pins s σ H x y v u Q I rx ry h
  obtain ⟨i, j, rfl, rfl, q⟩ := h
  obtain ⟨t, rfl⟩ := rx
  obtain ⟨t', rfl⟩ := ry
  exact rule i j t t' s _ _ ⟨.bl (g i j), H, I, rfl, q⟩

def CDiv (i j : Int) : Prop := 0 < j ∧ j < 1073741824
def CDivN (i j : Int) : Prop := j ≠ 0 ∧ j.natAbs < 1073741824
def CPow (i j : Int) : Prop := 0 ≤ j ∧ j ≤ 1000000 ∧ i.natAbs < 2 ^ 64
def CMul (i j : Int) : Prop := (-(2 ^ 64) < i ∧ i < 2 ^ 64) ∨ (-(2 ^ 64) < j ∧ j < 2 ^ 64)
theorem CMul.ok {i j : Int} (h : CMul i j) : IntMulOk i j := by
  rcases h with ⟨h1, h2⟩ | ⟨h1, h2⟩
  · exact .of_left (intBits_le_64 h1 h2)
  · exact .of_right (intBits_le_64 h1 h2)

theorem op_add : OpR X (binaryOp .Add) (rI0 fun i j => .int (i + j)) := opI0 fun _ _ _ _ _ _ _ q => add_int q
theorem op_sub : OpR X (binaryOp .Sub) (rI0 fun i j => .int (i - j)) := opI0 fun _ _ _ _ _ _ _ q => sub_int q
theorem op_mul : OpR X (binaryOp .Mult) (rI CMul fun i j => .int (i * j)) := opI fun _ _ _ _ _ _ _ hc q => mul_int q hc.ok
/-- // by a positive divisor -/
theorem op_fdiv : OpR X (binaryOp .FloorDiv) (rI CDiv fun i j => .int (i / j)) := opI fun i j _ _ _ _ _ hc q => by
  have h1 : (0 : Int) < j := hc.1
  have h2 : j < 1073741824 := hc.2
  exact floordiv_int (by omega) (by rw [Int.fdiv_eq_ediv_of_nonneg i (by omega)]; exact q) (.inl (PyProof.noPylong_small (by omega)))
/-- % by a positive divisor of any size -/
theorem op_mod : OpR X (binaryOp .Mod) (rI (fun _ j => 0 < j) fun i j => .int (i % j)) := opI fun i j _ _ _ _ _ hc q => by
  have h1 : (0 : Int) < j := hc
  exact mod_int' (by omega) (by rw [Int.fmod_eq_emod_of_nonneg i (by omega)]; exact q)
theorem op_pow : OpR X (binaryOp .Pow) (rI CPow fun i j => .int (i ^ j.toNat)) := opI fun _ _ _ _ _ _ _ hc q => pow_int_small hc.1 hc.2.1 hc.2.2 q


theorem unI {f : Value → Sem Value} {g : Int → Int}
    (rule : ∀ (i : Int) (t : Tok) (s : Shared) (Q : Value → Shared → Prop) (E : Value → Shared → Prop), Q (.int (g i) s.toks) { s with toks := s.toks + 1 } → wpAny (model X.prog X.w) X.A (f (.int i t)) Q E s) :
    UnR X f (rU fun i => .int (g i)) := by
  intro pins s σ H x v Q I rx h
  obtain ⟨i, rfl, q⟩ := h
  obtain ⟨t, rfl⟩ := rx
  exact rule i t s _ _ ⟨.int (g i), H, I.tok _, ⟨_, rfl⟩, q⟩
theorem un_neg : UnR X (unaryOp .USub) (rU fun i => .int (-i)) := unI fun _ _ _ _ _ q => neg_int q

/-! ### bools among ints: n += (a < b) -/
end

/-! ### comparisons -/
/-- the scalars that == tells apart as data does -/
def scal : V → V → Bool
  | .non, .non => true | .non, .int _ => true | .int _, .non => true | .non, .bl _ => true | .bl _, .non => true | .non, .str _ => true | .str _, .non => true
  | .int _, .int _ => true | .bl _, .bl _ => true | .str _, .str _ => true | .byt _, .byt _ => true
  | .int _, .str _ => true | .str _, .int _ => true | .bl _, .str _ => true | .str _, .bl _ => true
  | _, _ => false
def rEq : R2 := fun x y H Q => scal x y = true ∧ Q (.bl (decide (x = y))) H
def rNe : R2 := fun x y H Q => scal x y = true ∧ Q (.bl (!decide (x = y))) H

theorem dec_int {i j : Int} : decide (V.int i = V.int j) = (i == j) := by
  rw [Bool.eq_iff_iff]
  simp
theorem dec_bl {i j : Bool} : decide (V.bl i = V.bl j) = (i == j) := by
  rw [Bool.eq_iff_iff]
  simp
theorem dec_str {i j : Str} : decide (V.str i = V.str j) = (i == j) := by
  rw [Bool.eq_iff_iff]
  simp
theorem dec_byt {i j : Array UInt8} : decide (V.byt i = V.byt j) = (i.toList == j.toList) := by
  rw [Bool.eq_iff_iff]
  cases i
  cases j
  simp

section
variable {X : Cx} {a b c : Expr} {ta tb tc : TE} {pos : Pos}
theorem fin_bl {pins : List (Addr × Obj)} {σ : St} {H : Hp} {s : Shared} {Q : VK} {k k' : Bool} (I : Inv X pins σ H s) (q : Q (.bl k) H) (e : k = k') : EP X pins σ Q (.bool k') s := by
  subst e
  exact ⟨.bl k, H, I, rfl, q⟩
theorem op_eq : OpR X (compareOp .Eq) rEq := by
  intro pins s σ H x y v u Q I rx ry h
  obtain ⟨hs, q⟩ := h
  cases x with
  | non =>
    cases rx
    cases y with
    | non => cases ry; exact PySem.EqNone.eq_none_none (fin_bl I q (by simp))
    | bl j => cases ry; exact PySem.EqNone.eq_none_bool (fin_bl I q (by simp))
    | int j => obtain ⟨t', rfl⟩ := ry; exact PySem.EqNone.eq_none_int (fin_bl I q (by simp))
    | str j => obtain ⟨t', rfl⟩ := ry; exact PySem.EqNone.eq_none_str (fin_bl I q (by simp))
    | _ => exact absurd (show false = true from hs) Bool.false_ne_true
  | bl i =>
    cases rx
    cases y with
    | non => cases ry; exact PySem.EqNone.eq_bool_none (fin_bl I q (by simp))
    | bl j => cases ry; exact eq_bool (fin_bl I q dec_bl)
    | str j => obtain ⟨t', rfl⟩ := ry; exact PySem.EqMixed.eq_bool_str (fin_bl I q (by simp))
    | _ => exact absurd (show false = true from hs) Bool.false_ne_true
  | int i =>
    obtain ⟨t, rfl⟩ := rx
    cases y with
    | non => cases ry; exact PySem.EqNone.eq_int_none (fin_bl I q (by simp))
    | int j => obtain ⟨t', rfl⟩ := ry; exact eq_int (fin_bl I q dec_int)
    | str j => obtain ⟨t', rfl⟩ := ry; exact PySem.EqMixed.eq_int_str (fin_bl I q (by simp))
    | _ => exact absurd (show false = true from hs) Bool.false_ne_true
  | str i =>
    obtain ⟨t, rfl⟩ := rx
    cases y with
    | non => cases ry; exact PySem.EqNone.eq_str_none (fin_bl I q (by simp))
    | bl j => cases ry; exact PySem.EqMixed.eq_str_bool (fin_bl I q (by simp))
    | int j => obtain ⟨t', rfl⟩ := ry; exact PySem.EqMixed.eq_str_int (fin_bl I q (by simp))
    | str j => obtain ⟨t', rfl⟩ := ry; exact eq_str (fin_bl I q dec_str)
    | _ => exact absurd (show false = true from hs) Bool.false_ne_true
  | byt i =>
    obtain ⟨t, rfl⟩ := rx
    cases y with
    | byt j => obtain ⟨t', rfl⟩ := ry; exact PySem.W.eq_bytes (fin_bl I q dec_byt)
    | _ => exact absurd (show false = true from hs) Bool.false_ne_true
  | _ => cases y <;> exact absurd (show false = true from hs) Bool.false_ne_true
theorem op_ne : OpR X (compareOp .NotEq) rNe := by
  intro pins s σ H x y v u Q I rx ry h
  obtain ⟨hs, q⟩ := h
  cases x with
  | non =>
    cases rx
    cases y with
    | non => cases ry; exact PySem.EqNone.ne_none_none (fin_bl I q (by simp))
    | bl j => cases ry; exact PySem.EqNone.ne_none_bool (fin_bl I q (by simp))
    | int j => obtain ⟨t', rfl⟩ := ry; exact PySem.EqNone.ne_none_int (fin_bl I q (by simp))
    | str j => obtain ⟨t', rfl⟩ := ry; exact PySem.EqNone.ne_none_str (fin_bl I q (by simp))
    | _ => exact absurd (show false = true from hs) Bool.false_ne_true
  | bl i =>
    cases rx
    cases y with
    | non => cases ry; exact PySem.EqNone.ne_bool_none (fin_bl I q (by simp))
    | bl j => cases ry; exact ne_bool (fin_bl I q (congrArg not dec_bl))
    | str j => obtain ⟨t', rfl⟩ := ry; exact PySem.EqMixed.ne_bool_str (fin_bl I q (by simp))
    | _ => exact absurd (show false = true from hs) Bool.false_ne_true
  | int i =>
    obtain ⟨t, rfl⟩ := rx
    cases y with
    | non => cases ry; exact PySem.EqNone.ne_int_none (fin_bl I q (by simp))
    | int j => obtain ⟨t', rfl⟩ := ry; exact ne_int (fin_bl I q (congrArg not dec_int))
    | str j => obtain ⟨t', rfl⟩ := ry; exact PySem.EqMixed.ne_int_str (fin_bl I q (by simp))
    | _ => exact absurd (show false = true from hs) Bool.false_ne_true
  | str i =>
    obtain ⟨t, rfl⟩ := rx
    cases y with
    | non => cases ry; exact PySem.EqNone.ne_str_none (fin_bl I q (by simp))
    | bl j => cases ry; exact PySem.EqMixed.ne_str_bool (fin_bl I q (by simp))
    | int j => obtain ⟨t', rfl⟩ := ry; exact PySem.EqMixed.ne_str_int (fin_bl I q (by simp))
    | str j => obtain ⟨t', rfl⟩ := ry; exact ne_str (fin_bl I q (congrArg not dec_str))
    | _ => exact absurd (show false = true from hs) Bool.false_ne_true
  | byt i =>
    obtain ⟨t, rfl⟩ := rx
    cases y with
    | byt j => obtain ⟨t', rfl⟩ := ry; exact PySem.W.ne_bytes (fin_bl I q (congrArg not dec_byt))
    | _ => exact absurd (show false = true from hs) Bool.false_ne_true
  | _ => cases y <;> exact absurd (show false = true from hs) Bool.false_ne_true

theorem op_lt : OpR X (compareOp .Lt) (rI0 fun i j => .bl (decide (i < j))) := opB0 fun _ _ _ _ _ _ _ q => lt_int q


/-- is, is not of two objects that are tracked lists or instances -/
def isObj : HO → Bool
  | .lst _ => true
  | .ins _ _ _ => true
  | _ => false

/-- two rules for one operation: by cases -/
theorem OpR.or {f : Value → Value → Sem Value} {r r' : R2} (h : OpR X f r) (h' : OpR X f r') : OpR X f (fun x y H Q => r x y H Q ∨ r' x y H Q) := by
  intro pins s σ H x y v u Q I rx ry q
  rcases q with q | q
  · exact h pins s σ H x y v u Q I rx ry q
  · exact h' pins s σ H x y v u Q I rx ry q

theorem nomark (b : Expr) {op : CmpOp} (h : op ≠ .In := by decide) (h2 : op ≠ .NotIn := by decide) : behindInMarks op b = false := by
  have e1 : (op == CmpOp.In) = false := by cases op <;> first | rfl | exact absurd rfl h
  have e2 : (op == CmpOp.NotIn) = false := by cases op <;> first | rfl | exact absurd rfl h2
  cases b <;> simp [behindInMarks, e1, e2]
/-- a reading of a value as a test -/
def tTest (t : TE) : TT := fun σ H Q => t σ H fun x H' => ∃ k, x = .bl k ∧ Q k H'
theorem pt_cmpR {op : CmpOp} {r : R2} (ho : OpR X (compareOp op) r) (ha : PE X a ta) (hb : PE X b tb) (hm : behindInMarks op b = false) : PT X (.Compare a [op] [b] pos) (tTest (tOp r ta tb)) := by
  intro pins s σ H Q I h
  refine wpAny_isTrue_Compare1 (thn (ha pins s σ H _ I h) fun v s1 ⟨x, H1, I1, r1, q1⟩ => thn (hb pins s1 σ H1 _ I1 q1) fun u s2 ⟨y, H2, I2, r2, q2⟩ =>
    thn (ho pins s2 σ H2 x y v u _ I2 r1 r2 q2) fun c s3 ⟨z, H3, I3, r3, k, e, q3⟩ => ?_) hm
  subst e
  cases r3
  exact wpAny_truthy_bool ⟨H3, I3, q3⟩
/-- a op1 b op2 c -/
def tChain (r r' : R2) (ta tb tc : TE) : TE := fun σ H Q => ta σ H fun x H1 => tb σ H1 fun y H2 => r x y H2 fun z H3 => ∃ k, z = .bl k ∧
  (if k = true then tc σ H3 fun w' H4 => r' y w' H4 Q else Q (.bl false) H3)

/-! ### truth -/
/-- a value's truth by the abstract heap -/
def TruV (K : PySem.W.Frag) (x : V) (H : Hp) (k : Bool) : Prop :=
  match x with
  | .non => k = false
  | .bl b => k = b
  | .int i => k = (i != 0)
  | .str y => y.length ≤ sizeLine ∧ k = ((y.length : Int) != 0)
  | .byt y => y.size ≤ sizeLine ∧ k = ((y.size : Int) != 0)
  | .ref p => (∃ xs, SqL K H p xs ∧ k = !xs.isEmpty) ∨ (∃ xs, SqT K H p xs ∧ k = !xs.isEmpty) ∨ ∃ kvs, H p = some (.dK kvs) ∧ k = !kvs.isEmpty
  | _ => False
theorem isEmpty_kv {κ : Type} {kvs : List (κ × V)} {vs : List (κ × Value)} (r : KV kvs vs) : (!vs.isEmpty) = !kvs.isEmpty := by
  cases r <;> rfl
theorem isEmpty_of {xs : List V} {its : List Value} (r : Vals xs its) : (!its.toArray.isEmpty) = !xs.isEmpty := by
  cases r <;> simp
theorem line63 : (sizeLine : Nat) < 2 ^ 63 := by rw [sizeLine_eq]; decide
theorem tru_ok : TruR X (fun x H Q => ∃ k, TruV X.K x H k ∧ Q k H) := by
  intro pins s σ H x v Q I rx h
  obtain ⟨k, e, q⟩ := h
  have hl := line63
  have hs : sizeLine = 16777216 := sizeLine_eq
  cases x with
  | non =>
    cases rx
    have e' : k = false := e
    subst e'
    exact truthy_none ⟨H, I, q⟩
  | bl b =>
    cases rx
    have e' : k = b := e
    subst e'
    exact wpAny_truthy_bool ⟨H, I, q⟩
  | int i =>
    obtain ⟨t, rfl⟩ := rx
    have e' : k = (i != 0) := e
    subst e'
    exact PySem.P.truthy_int ⟨H, I, q⟩
  | str y =>
    obtain ⟨t, rfl⟩ := rx
    obtain ⟨hy, e'⟩ : y.length ≤ sizeLine ∧ k = ((y.length : Int) != 0) := e
    subst e'
    exact PySem.P.truthy_str (by omega) ⟨H, I.tok _, q⟩
  | byt y =>
    obtain ⟨t, rfl⟩ := rx
    obtain ⟨hy, e'⟩ : y.size ≤ sizeLine ∧ k = ((y.size : Int) != 0) := e
    subst e'
    exact PySem.W.truthy_bytes (by omega) ⟨H, I.tok _, q⟩
  | ref p =>
    cases rx
    have e' : (∃ xs, SqL X.K H p xs ∧ k = !xs.isEmpty) ∨ (∃ xs, SqT X.K H p xs ∧ k = !xs.isEmpty) ∨ ∃ kvs, H p = some (.dK kvs) ∧ k = !kvs.isEmpty := e
    rcases e' with ⟨xs, hx, e'⟩ | ⟨xs, hx, e'⟩ | ⟨kvs, hx, e'⟩
    · subst e'
      obtain ⟨its, r, pl, hz⟩ := I.list hx
      have hlen := r.length
      exact wpAny_truthy_list pl.isList (by simp only [List.size_toArray]; omega) ⟨H, I.tok _, by rw [isEmpty_of r]; exact q⟩
    · subst e'
      obtain ⟨its, r, pl, hz⟩ := I.tuple hx
      have hlen := r.length
      exact truthy_tuple pl (by simp only [List.size_toArray]; omega) ⟨H, I.tok _, by rw [isEmpty_of r]; exact q⟩
    · subst e'
      obtain ⟨hz, hS, vs, r, m⟩ : kvs.length ≤ sizeLine ∧ (p == sysModules) = false ∧ ∃ vs, KV kvs vs ∧ s.heap.DictOf (mixKind X.prog X.w) p vs := I.hok p _ hx
      have hlen : kvs.length = vs.length := Paired.length r
      exact wpAny_truthy_dict hS m (by omega) ⟨H, I.tok _, by rw [isEmpty_kv r]; exact q⟩
  | _ => exact (show False from e).elim
/-- any expression whose test is its value's truth (a name, a call, a subscript, a field ..: he by fun _ => rfl) -/
theorem pt_truth (ha : PE X a ta) (he : ∀ whole, isTrue a X.env whole = (do let v ← whole; standAt a.pos; holding [v] (truthy v))) :
    PT X a (fun σ H Q => ta σ H fun x H' => ∃ k, TruV X.K x H' k ∧ Q k H') := by
  intro pins s σ H Q I h
  exact isTrue_plain (thn (ha pins s σ H _ I h) fun v s1 ⟨x, H1, I1, r1, q1⟩ => tru_ok pins s1 σ H1 x v Q I1 r1 q1) (he _)

/-! ### strs and bytes -/
theorem op_add_str : OpR X (binaryOp .Add) (fun x y H Q => ∃ i j, x = .str i ∧ y = .str j ∧ i.length + j.length ≤ sizeLine ∧ Q (.str (i ++ j)) H) := by
  intro pins s σ H x y v u Q I rx ry h
  obtain ⟨i, j, rfl, rfl, hz, q⟩ := h
  obtain ⟨t, rfl⟩ := rx
  obtain ⟨t', rfl⟩ := ry
  exact add_str (fun t' tk => ⟨.str (i ++ j), H, I.tok _, ⟨_, rfl⟩, q⟩) hz

def PlainIxT (b : Expr) : Prop := ∀ o i, subscripted b false o i = operate [o, i] (getItem o i)

/-! ### scalar builtins, by CallR -/
theorem vals1 {x : V} {us : List Value} (r : Vals [x] us) : ∃ u, us = [u] ∧ RelV x u := by
  cases r with
  | cons r1 r2 => cases r2; exact ⟨_, rfl, r1⟩
/-- len of a str, a bytes, a list, a tuple -/
def LenV (K : PySem.W.Frag) (x : V) (H : Hp) (n : Nat) : Prop :=
  match x with
  | .str y => y.length ≤ sizeLine ∧ n = y.length
  | .byt y => y.size ≤ sizeLine ∧ n = y.size
  | .ref p => (∃ xs, SqL K H p xs ∧ n = xs.length) ∨ ∃ xs, SqT K H p xs ∧ n = xs.length
  | _ => False
end
end L2

namespace L2
open PySem PySem.Spec PyProof.Rows

/-! ### an instance, its attributes a map -/
structure ObjM (h : Heap) (x dx C : Addr) (mA : Str → Option Value) : Prop where
  obj : h.get? x = some (PySem.W.instObj C dx)
  ns : h.Ns1 dx mA
  ne : dx ≠ x



section
variable {prog : Program} {w : World} {A : Around} {E : Value → Shared → Prop} {s : Shared} {K : PySem.W.Frag} {x dx C f : Addr} {mA : Str → Option Value} {name : Str} {v : Value}





end

/-! ### the attributes as a list of pairs -/
def putF (f : Str) (v : V) : List (Str × V) → List (Str × V)
  | [] => [(f, v)]
  | (g, x) :: r => if g = f then (g, v) :: r else (g, x) :: putF f v r

theorem RelO.some_of {v : V} {o : Option Value} (r : RelO (some v) o) : ∃ u, o = some u ∧ RelV v u := by
  cases o with
  | none => exact (show False from r).elim
  | some u => exact ⟨u, rfl, r⟩

section
variable {P : Program} {w : World} {H H' : Hp} {h h' : Heap} {a C dx : Addr} {fs fs' : List (Str × V)}
end

/-! ### what of the text a class must have -/
structure Cls (K : PySem.W.Frag) (C : Addr) : Prop where
  pg : PySem.W.plainGet K C Str.empty = true
  hd : PySem.W.hasDictIn K C = true
  po : PySem.W.plainOver K C = true
  sa : PySem.W.findIn K (.ref C) "__setattr__" = some (some (.builtin "object.__setattr__"))
theorem Cls.get {K : PySem.W.Frag} {C : Addr} (c : Cls K C) (f : Str) : PySem.W.plainGet K C f = true := c.pg
/-- no class of it has the name -/
def NoAttr (K : PySem.W.Frag) (C : Addr) (f : Str) : Prop := PySem.W.findIn K (.ref C) f = some none
/-- a constant of the class -/
structure Con (K : PySem.W.Frag) (C : Addr) (f : Str) (v : V) (u : Value) : Prop where
  at_ : PySem.W.findIn K (.ref C) f = some (some u)
  rel : RelV v u
  get : PySem.W.specialIn K u "__get__" = some none
  cp : PySem.W.copiedNames.contains f = false
/-- a method: a plain def of the class or of one above it -/
structure Meth (K : PySem.W.Frag) (C : Addr) (m : Str) (f : Addr) : Prop where
  at_ : PySem.W.findIn K (.ref C) m = some (some (.ref f))
  fn : PySem.W.isFn K (.ref f) = true
  kp : PySem.W.keepIn K (.ref f) = true

section
variable {X : Cx} {pins : List (Addr × Obj)} {σ : St} {H : Hp} {s : Shared} {a C dx : Addr} {fs : List (Str × V)} {f : Str} {v : V} {A : Around} {E : Value → Shared → Prop}





/-- a new instance, tracked, without attributes -/
theorem Inv.made (I : Inv X pins σ H s) : Inv X pins σ (upd (upd H s.heap.objs.size (.own (s.heap.objs.size + 1))) (s.heap.objs.size + 1) (.ins C s.heap.objs.size []))
    { s with heap := (s.heap.push PySem.W.emptyDict).push (PySem.W.instObj C s.heap.objs.size) } := by
  have e1 : (s.heap.push PySem.W.emptyDict).get? s.heap.objs.size = some PySem.W.emptyDict := Heap.get?_push_size s.heap rfl
  have e2 : ((s.heap.push PySem.W.emptyDict).push (PySem.W.instObj C s.heap.objs.size)).get? (s.heap.objs.size + 1) = some (PySem.W.instObj C s.heap.objs.size) := by
    have := Heap.get?_push_size (s.heap.push PySem.W.emptyDict) (o := PySem.W.instObj C s.heap.objs.size) rfl
    rwa [Heap.size_push] at this
  have e3 : (s.heap.push PySem.W.emptyDict).Ns s.heap.objs.size (fun _ => none) := ⟨PySem.W.emptyDict, #[], _, e1, rfl, (fun e he => absurd he (by simp)), fun _ => rfl⟩
  have I1 := I.laid (a := s.heap.objs.size) (o := .own (s.heap.objs.size + 1)) (h' := s.heap.push PySem.W.emptyDict) (t' := s.toks) (fun b u q => Heap.get?_push_of_some _ q) (Nat.le_refl _) ⟨_, e1⟩
  refine I1.laid (a := s.heap.objs.size + 1) (o := .ins C s.heap.objs.size []) (t' := s.toks) (fun b u q => Heap.get?_push_of_some _ q) (Nat.le_of_eq (Heap.size_push _ _)) ?_
  have ne : s.heap.objs.size ≠ s.heap.objs.size + 1 := Nat.ne_of_lt (Nat.lt_succ_self _)
  refine ⟨by rw [upd_ne ne, upd_same], Nat.zero_le _, ne, e2, fun _ => none, (Heap.Ns1.of_empty e3).at fun o q => Heap.get?_push_of_some _ q, fun _ => True.intro, fun y hy => absurd rfl hy⟩

end

/-! ### readings and rules -/
/-- e.f, an attribute of the instance -/
def tFld (K : PySem.W.Frag) (ta : TE) (f : Str) : TE := fun σ H Q => ta σ H fun x H1 => ∃ a C dx fs v, x = .ref a ∧ H1 a = some (.ins C dx fs) ∧ Cls K C ∧ NoAttr K C f ∧ fs.lookup f = some v ∧ Q v H1
/-- e.f, a constant of the class -/
def tCon (K : PySem.W.Frag) (ta : TE) (f : Str) : TE := fun σ H Q => ta σ H fun x H1 => ∃ a C dx fs v u, x = .ref a ∧ H1 a = some (.ins C dx fs) ∧ Cls K C ∧ Con K C f v u ∧ fs.lookup f = none ∧ Q v H1
/-- e.f = value -/
def sFld (K : PySem.W.Frag) (ta tv : TE) (f : Str) : TS := fun D σ H => tv σ H fun y H1 => ta σ H1 fun x H2 => ∃ a C dx fs, x = .ref a ∧ H2 a = some (.ins C dx fs) ∧ Cls K C ∧ NoAttr K C f ∧ fs.length < 1000 ∧
  D.nx σ (upd H2 a (.ins C dx (putF f y fs)))
/-- an augmented operator on two values -/
def InOp (X : Cx) (op : Operator) (rd : V → V → Hp → VK → Prop) : Prop :=
  ∀ (pins : List (Addr × Obj)) (s : Shared) (σ : St) (H : Hp) (x y : V) (u v : Value) (Q : VK), Inv X pins σ H s → RelV x u → RelV y v → rd x y H Q → wpAny (model X.prog X.w) X.A (inplaceOp op u v) (EP X pins σ Q) X.xe s
/-- e.f op= value -/
def sFldAug (K : PySem.W.Frag) (ta tv : TE) (rd : V → V → Hp → VK → Prop) (f : Str) : TS := fun D σ H => ta σ H fun x H1 => ∃ a C dx fs v, x = .ref a ∧ H1 a = some (.ins C dx fs) ∧ Cls K C ∧ NoAttr K C f ∧ fs.lookup f = some v ∧
  tv σ H1 fun y H2 => rd v y H2 fun z H3 => ∃ dx' fs', H3 a = some (.ins C dx' fs') ∧ fs'.length < 1000 ∧ D.nx σ (upd H3 a (.ins C dx' (putF f z fs')))

section
variable {X : Cx} {o e value : Expr} {f : Str} {pos pos' tpos : Pos} {ta tv : TE}
def rAdd : V → V → Hp → VK → Prop := fun x y H Q => ∃ i j, x = .int i ∧ y = .int j ∧ Q (.int (i + j)) H
def rSub : V → V → Hp → VK → Prop := fun x y H Q => ∃ i j, x = .int i ∧ y = .int j ∧ Q (.int (i - j)) H

end

/-! ### isinstance -/
section
variable {X : Cx} {pins : List (Addr × Obj)} {σ : St} {H : Hp} {s : Shared} {A : Around} {E : Value → Shared → Prop} {Q : Value → Shared → Prop} {c : Value} {b : Bool}
/-- the type of a value, as the fragment's deciders take it; for an instance its class -/
inductive TyOf (K : PySem.W.Frag) (H : Hp) : V → Value → Prop where
  | non : TyOf K H .non (.type "NoneType")
  | bl (x : Bool) : TyOf K H (.bl x) (.type "bool")
  | int (i : Int) : TyOf K H (.int i) (.type "int")
  | str (x : Str) : TyOf K H (.str x) (.type "str")
  | flt (x : UInt64) : TyOf K H (.flt x) (.type "float")
  | lst {a : Addr} {xs : List V} (e : H a = some (.lst xs)) : TyOf K H (.ref a) (.type "list")
  | frz {a : Addr} {o : Obj} {xs : List V} (e : H a = some (.frz o (.lst xs))) : TyOf K H (.ref a) (.type "list")
  | tup {a : Addr} {xs : List V} (e : H a = some (.tup xs)) : TyOf K H (.ref a) (.type "tuple")
  | dK {a : Addr} {kvs : List (Key × V)} (e : H a = some (.dK kvs)) : TyOf K H (.ref a) (.type "dict")
  | dT {a : Addr} {kvs : List (List Key × V)} (e : H a = some (.dT kvs)) : TyOf K H (.ref a) (.type "dict")
  | ins {a C dx : Addr} {fs : List (Str × V)} (e : H a = some (.ins C dx fs)) (cl : Cls K C) (ha : PySem.W.findIn K (.ref C) "__class__" = some (some (.builtin "object.__class__")))
      (hn : PySem.W.specialIn K (.builtin "object.__class__") "__get__" = some (some (.builtin "getset_descriptor.__get__"))) (htk : PySem.W.takesIn K (.builtin "object.__class__") = some true)
      (hm : PySem.W.mroIn K C (.type "object") = some true) : TyOf K H (.ref a) (.ref C)
end
end L2

namespace L2
open PySem PySem.Spec PyProof.Rows

/-! ### room -/
structure Room (k : Nat) (A : Around) : Prop where
  hd : A.handled = none
  dp : A.depth + 3 * k + 5 < recursionLimit
  un : A.units + 16 * k + 200 < cLine
theorem Room.mono {j k : Nat} {A : Around} (r : Room k A) (h : j ≤ k) : Room j A := ⟨r.hd, by have := r.dp; omega, by have := r.un; omega⟩
theorem Room.deeper {k : Nat} {A : Around} (r : Room (k + 1) A) (env : Env) : Room k (A.deeper env) :=
  ⟨r.hd, by have := r.dp; show A.depth + 1 + 3 * k + 5 < _; omega, by have := r.un; show A.units + 3 + 16 * k + 200 < _; omega⟩
theorem Room.in1 {k : Nat} {A : Around} (r : Room (k + 1) A) : Room k A.in1 :=
  ⟨r.hd, by have := r.dp; show A.depth + 3 * k + 5 < _; omega, by have := r.un; show A.units + 1 + 16 * k + 200 < _; omega⟩
theorem Room.depth {k : Nat} {A : Around} (r : Room k A) : A.depth < recursionLimit := by have := r.dp; omega
theorem Room.units {k : Nat} {A : Around} (r : Room k A) : A.units + 64 < cLine := by have := r.un; omega

/-! ### argument lists and displays -/
def tNil : TA := fun _ H Q => Q [] H
def tCons (ta : TE) (tr : TA) : TA := fun σ H Q => ta σ H fun x H1 => tr σ H1 fun xs H2 => Q (x :: xs) H2
section
variable {X : Cx} {e : Expr} {es : List Expr} {te : TE} {t : TA} {pos : Pos}
theorem pa_nil : PA X [] tNil := fun _ _ _ _ H Q I h => Calls.spliced_nil ⟨[], H, I, .nil, h⟩
theorem pa_cons (ha : PE X e te) (hr : PA X es t) (hs : starEach (e :: es) X.env = (false, eval e X.env) :: starEach es X.env := by rfl) : PA X (e :: es) (tCons te t) := by
  intro pos pins s σ H Q I h
  rw [hs]
  show wpAny _ _ (spliced ((false, eval e X.env) :: backTo pos (starEach es X.env))) _ _ s
  refine Calls.spliced_cons (thn (ha pins s σ H _ I h) fun u s1 ⟨x, H1, I1, r1, q1⟩ => ?_)
  exact thn (hr pos pins s1 σ H1 _ I1 q1) fun us s2 ⟨xs, H2, I2, r2, q2⟩ => ⟨x :: xs, H2, I2, .cons r1 r2, q2⟩

/-- a tuple, a list of written items -/
def tTup (t : TA) : TE := fun σ H Q => t σ H fun xs H1 => xs.length ≤ sizeLine ∧ ∀ p, H1 p = none → Q (.ref p) (upd H1 p (.tup xs))
def tLst (t : TA) : TE := fun σ H Q => t σ H fun xs H1 => xs.length ≤ sizeLine ∧ ∀ p, H1 p = none → Q (.ref p) (upd H1 p (.lst xs))
theorem pe_tup {x1} (h : PA X es t) : PE X (.Tuple es x1 pos) (tTup t) := by
  intro pins s σ H Q I hq
  refine wpAny_Tuple_spliced (thn (h pos pins s σ H _ I hq) fun us s1 ⟨xs, H1, I1, r, z, q⟩ => ⟨by rw [← r.length]; exact z, ?_⟩)
  have hf : H1 s1.heap.objs.size = none := I1.hok.fresh (Nat.le_refl _)
  refine ⟨.ref s1.heap.objs.size, upd H1 s1.heap.objs.size (.tup xs), I1.laid (t' := s1.toks) (fun b u e => Heap.get?_push_of_some _ e) (Nat.le_refl _) ?_, rfl, q _ hf⟩
  exact ⟨tupD_new z, us, r, ⟨_, Heap.get?_push_size _ rfl, rfl, _, rfl⟩⟩
theorem pe_lst (h : PA X es t) : PE X (.List es pos) (tLst t) := by
  intro pins s σ H Q I hq
  refine wpAny_List_spliced (thn (h pos pins s σ H _ I hq) fun us s1 ⟨xs, H1, I1, r, z, q⟩ => ⟨by rw [← r.length]; exact z, ?_⟩)
  have hf : H1 s1.heap.objs.size = none := I1.hok.fresh (Nat.le_refl _)
  refine ⟨.ref s1.heap.objs.size, upd H1 s1.heap.objs.size (.lst xs), I1.laid (t' := s1.toks) (fun b u e => Heap.get?_push_of_some _ e) (Nat.le_refl _) ?_, rfl, q _ hf⟩
  exact ⟨z, us, 0, r, Heap.get?_push_size _ rfl⟩
end

/-! ### what a def promises -/
/-- a def's promise: the bound arguments in the parameters' order, the heap, the wanted end, the wanted exception -/
abbrev Sp := List V → Hp → VK → XK → Prop
/-- how an exception lies behind a call (file 08 gives it): the callers' frames, abstract heap and state ahead of the call, the wish, the exception, the state -/
abbrev CXT := List Env → Hp → Shared → XK → Value → Shared → Prop

/-- the state at a call -/
structure Env0 (P : Program) (w : World) (K : PySem.W.Frag) (mg : Str → Option Value) (base : Heap) (A : Around) (outer : List Env) (s : Shared) (H : Hp) : Prop where
  frames : A.frames = some outer
  mod : Mod K mg base
  bs : ∀ b o, base.get? b = some o → s.heap.get? b = some o ∧ H b = none
  bsz : base.objs.size ≤ s.heap.objs.size
  funs : s.heap.FunFrames base outer
  frf : ∀ b ∈ frs outer, H b = none
  hok : HOk P w H s.heap
  bare : AllBare s.gens
/-- a call's end -/
def CE (outer : List Env) (P : Program) (w : World) (H : Hp) (s : Shared) (Q : VK) (u : Value) (s' : Shared) : Prop :=
  ∃ v H', s'.os = s.os ∧ AllBare s'.gens ∧ Un (frs outer) [] H H' s.heap s'.heap ∧ HOk P w H' s'.heap ∧ RelV v u ∧ Q v H'
def CR (CX : CXT) (outer : List Env) (P : Program) (w : World) (H : Hp) (s : Shared) (Q : VK) (E : XK) (r : Result) (s' : Shared) : Prop :=
  match r with
  | .ok (.ret u) => CE outer P w H s Q u s'
  | .ok _ => False
  | .error e => CX outer H s E e s'
structure FnOk (P : Program) (w : World) (K : PySem.W.Frag) (mg : Str → Option Value) (base : Heap) (CX : CXT) (k : Nat) (f : Addr) (fd : FuncData) (ps : List Str) (sp : Sp) : Prop where
  len : ∀ vs H Q E, sp vs H Q E → vs.length = ps.length
  run : ∀ (A : Around) (outer : List Env) (s : Shared) (H : Hp) (args : Args) (us : List Value) (vs : List V) (Q : VK) (E : XK), Room k A → Env0 P w K mg base A outer s H → BindsTo s fd args (ps.zip us) → Vals vs us → sp vs H Q E →
    codeAny (model P w) A (.call (.ref f) args) (CR CX outer P w H s Q E) s
theorem FnOk.mono {P : Program} {w : World} {K : PySem.W.Frag} {mg : Str → Option Value} {base : Heap} {CX : CXT} {j k : Nat} {f : Addr} {fd : FuncData} {ps : List Str} {sp : Sp} (F : FnOk P w K mg base CX j f fd ps sp) (h : j ≤ k) :
    FnOk P w K mg base CX k f fd ps sp := ⟨F.len, fun A outer s H args us vs Q E hr => F.run A outer s H args us vs Q E (hr.mono h)⟩
/-- a weaker promise -/
theorem FnOk.imp {P : Program} {w : World} {K : PySem.W.Frag} {mg : Str → Option Value} {base : Heap} {CX : CXT} {k : Nat} {f : Addr} {fd : FuncData} {ps : List Str} {sp sp' : Sp} (F : FnOk P w K mg base CX k f fd ps sp)
    (h : ∀ vs H Q E, sp' vs H Q E → sp vs H Q E) : FnOk P w K mg base CX k f fd ps sp' :=
  ⟨fun vs H Q E q => F.len vs H Q E (h _ _ _ _ q), fun A outer s H args us vs Q E hr he hb hv hs => F.run A outer s H args us vs Q E hr he hb hv (h _ _ _ _ hs)⟩

theorem Env0.in1 {P : Program} {w : World} {K : PySem.W.Frag} {mg : Str → Option Value} {base : Heap} {A : Around} {outer : List Env} {s : Shared} {H : Hp} (e : Env0 P w K mg base A outer s H) :
    Env0 P w K mg base A.in1 outer s H := ⟨e.frames, e.mod, e.bs, e.bsz, e.funs, e.frf, e.hok, e.bare⟩

section
variable {X : Cx} {pins : List (Addr × Obj)} {σ : St} {H : Hp} {s s' : Shared}
/-- from a body: what a callee wants -/
theorem Inv.env0 (I : Inv X pins σ H s) : Env0 X.prog X.w X.K X.mg X.base X.A X.stack s H :=
  ⟨I.ok.frames, I.ok.mod, I.bs, Nat.le_trans I.ok.bsz I.sz, I.stack, I.stkFree, I.hok, I.bare⟩
/-- behind a call -/
theorem Inv.after {Q : VK} {u : Value} (I : Inv X pins σ H s) (h : CE X.stack X.prog X.w H s Q u s') : EP X pins σ Q u s' := by
  obtain ⟨v, H', os, bare, un, hok, r, q⟩ := h
  obtain ⟨hh, g, d, t, os'⟩ := s'
  obtain rfl : os' = s.os := os
  exact ⟨v, H', I.call (h' := hh) (g' := g) (d' := d) (t' := t) (ch := []) un hok bare (fun b z => absurd z (by simp)), r, q⟩
end

/-! ### calls -/
/-- f(..): the written arguments, then the defaults dvs; E: what is wanted of an exception -/
def tCall (sp : Sp) (dvs : List V) (E : XK) (t : TA) : TE := fun σ H Q => t σ H fun vs H1 => sp (vs ++ dvs) H1 Q E
/-- o.m(..) of an instance of the class at C -/
def tMeth (C : Addr) (m : Str) (sp : Sp) (dvs : List V) (E : XK) (ta : TE) (t : TA) : TE := fun σ H Q => ta σ H fun x H1 => ∃ a dx fs, x = .ref a ∧ H1 a = some (.ins C dx fs) ∧ fs.lookup m = none ∧
  t σ H1 fun vs H2 => sp (x :: (vs ++ dvs)) H2 Q E
/-- C(..): a new instance and its dict, then __init__ -/
def tMake (C : Addr) (sp : Sp) (dvs : List V) (E : XK) (t : TA) : TE := fun σ H Q => t σ H fun vs H1 => ∀ x dx, H1 x = none → H1 dx = none → dx ≠ x →
  sp (.ref x :: (vs ++ dvs)) (upd (upd H1 dx (.own x)) x (.ins C dx [])) (fun v H2 => v = .non ∧ Q (.ref x) H2) E

/-- how the parameters are bound: us the positional arguments, kw the keywords' values by name, ds the defaults that fill up -/
def Binds (K : PySem.W.Frag) (fd : FuncData) (ps : List Str) (ds : List Value) : Prop :=
  ∀ (s : Shared) (us : List Value), K.In s.heap → (us ++ ds).length = ps.length → BindsTo s fd ⟨us, []⟩ (ps.zip (us ++ ds))
/-- every parameter is given -/
theorem Binds.all {K : PySem.W.Frag} {fd : FuncData} {ps : List Str} (h : ∀ us : List Value, us.length = ps.length → bindArgs fd ⟨us, []⟩ = pure (ps.zip us)) : Binds K fd ps [] := fun s us _ hl => by
  rw [List.append_nil] at hl ⊢
  exact .of_eq (h us hl)

/-- an exception of a callee reaches what this body wants of exceptions -/
def Passes (CX : CXT) (X : Cx) (E : XK) : Prop := ∀ (pins : List (Addr × Obj)) (σ : St) (H : Hp) (s : Shared) (e : Value) (s' : Shared), Inv X pins σ H s → CX X.stack H s E e s' → X.xe e s'

section
variable {X : Cx} {CX : CXT} {k : Nat} {f C : Addr} {fd : FuncData} {ps : List Str} {sp : Sp} {dvs : List V} {ds : List Value} {E : XK} {x m : Str} {p pos apos : Pos} {e o : Expr} {es : List Expr} {ta : TE} {t : TA}

/-- the callee runs -/
theorem run_fn {pins : List (Addr × Obj)} {σ : St} {H : Hp} {s : Shared} {Q : VK} {us : List Value} {vs : List V} (F : FnOk X.prog X.w X.K X.mg X.base CX k f fd ps sp) (hr : Room k X.A) (hb : Binds X.K fd ps ds) (hd : Vals dvs ds) (hx : Passes CX X E)
    (I : Inv X pins σ H s) (r : Vals vs us) (h : sp (vs ++ dvs) H Q E) : wpAny (model X.prog X.w) X.A (call (.ref f) us) (EP X pins σ Q) X.xe s := by
  have r2 : Vals (vs ++ dvs) (us ++ ds) := r.append hd
  have hl : (us ++ ds).length = ps.length := by rw [← r2.length]; exact F.len _ _ _ _ h
  refine wpAny_call (codeAny_mono (F.run X.A X.stack s H ⟨us, []⟩ (us ++ ds) (vs ++ dvs) Q E hr I.env0 (hb s us I.kIn hl) r2 h) fun r s' hq => ?_)
  cases r with
  | error e => exact hx pins σ H s e s' I hq
  | ok fl =>
    cases fl with
    | ret u => exact I.after hq
    | next => exact False.elim hq
    | brk => exact False.elim hq
    | cont => exact False.elim hq

theorem pe_call (F : FnOk X.prog X.w X.K X.mg X.base CX k f fd ps sp) (hr : Room k X.A) (hg : Gl X x) (hm : X.mg x = some (.ref f)) (hk : PySem.W.keepIn X.K (.ref f) = true) (hb : Binds X.K fd ps ds) (hd : Vals dvs ds) (hx : Passes CX X E)
    (ha : PA X (e :: es) t) (hdb : (x == ("__debug__" : Str)) = false := by decide) (he : starEach (e :: es) X.env = (false, eval e X.env) :: starEach es X.env := by rfl) (hpl : (backTo pos (starEach es X.env)).any (·.1) = false := by rfl) :
    PE X (.Call (.Name x p) (e :: es) [] pos) (tCall sp dvs E t) := by
  intro pins s σ H Q I h
  refine wpAny_Call_Name_kw (ld_glob I hg hm ?_ hdb)
  refine PySem.W.callWith_K (h₀ := X.base) I.ok.mod.kin hk (thn (ha pos pins s σ H _ I h) fun us s1 ⟨vs, H1, I1, r, q⟩ => ⟨I1.kIn, ?_⟩) he hpl
  exact run_fn F hr hb hd hx I1 r q


/-- what a class must have to be made -/
structure Mk (K : PySem.W.Frag) (C f : Addr) : Prop where
  makes : PySem.W.makesIn K C = true
  init : PySem.W.findIn K (.ref C) "__init__" = some (some (.ref f))
  fn : PySem.W.isFn K (.ref f) = true
  kp : PySem.W.keepIn K (.ref C) = true

end

/-! ### keywords -/
/-- the values of the keywords, from the left -/
def PK (X : Cx) (kws : List Keyword) (t : TA) : Prop :=
  ∀ (pos : Pos) (pins : List (Addr × Obj)) (s : Shared) (σ : St) (H : Hp) (Q : List V → Hp → Prop), Inv X pins σ H s → t σ H Q → wpAny (model X.prog X.w) X.A (evalAll ((backToKw pos (keywordEach kws X.env)).map (·.2))) (AP X pins σ Q) X.xe s
section
variable {X : Cx} {CX : CXT} {k : Nat} {f C : Addr} {fd : FuncData} {ps ks : List Str} {sp : Sp} {E : XK} {x m : Str} {p pos apos kpos : Pos} {e o : Expr} {es : List Expr} {kws : List Keyword} {te ta : TE} {t tk : TA} {nm : Option Str}

/-- how a call with keywords binds: g puts the positional values us and the keywords' values ws (names ks) in the parameters' order, defaults among them -/
structure KBinds (K : PySem.W.Frag) (fd : FuncData) (ps ks : List Str) (g : List Value → List Value → List Value) (gV : List V → List V → List V) : Prop where
  to : ∀ (s : Shared) (us ws : List Value), K.In s.heap → (g us ws).length = ps.length → BindsTo s fd ⟨us, ks.zip ws⟩ (ps.zip (g us ws))
  rel : ∀ {vs : List V} {us : List Value} {zs : List V} {ws : List Value}, Vals vs us → Vals zs ws → Vals (gV vs zs) (g us ws)
def tCallK (sp : Sp) (gV : List V → List V → List V) (E : XK) (t tk : TA) : TE := fun σ H Q => t σ H fun vs H1 => tk σ H1 fun zs H2 => sp (gV vs zs) H2 Q E
variable {g : List Value → List Value → List Value} {gV : List V → List V → List V}
end

/-! ### a def's body keeps its promise -/
/-- names: the parameters first -/
structure FnScope (N P : List Str) (sc : Scope) : Prop where
  kind : sc.kind = .function
  co : sc.isCoroutine = false
  gen : sc.isGenerator = false
  nd : N.Nodup
  pre : N.take P.length = P
  par : ∀ x ∈ P, sc.names.lookup x = some .local ∨ sc.names.lookup x = some .cell
  nofree : ∀ y ∈ sc.names, y.2 ≠ .free

theorem bindL_out {kindOf : Str → Option NameKind} {x : Str} : ∀ {binds : List (Str × Value)} {m : Str → Option Value}, (∀ v, (x, v) ∉ binds) → bindL kindOf binds m x = m x
  | [], _, _ => rfl
  | (n, v) :: r, m, h => by
    unfold bindL
    rw [bindL_out fun w hw => h w (List.mem_cons_of_mem _ hw)]
    split
    · have : x ≠ n := by rintro rfl; exact h v List.mem_cons_self
      simp [this]
    · rfl
theorem bindC_out {kindOf : Str → Option NameKind} {x : Str} : ∀ {binds : List (Str × Value)} {m : Str → Option Value}, (∀ v, (x, v) ∉ binds) → bindC kindOf binds m x = m x
  | [], _, _ => rfl
  | (n, v) :: r, m, h => by
    unfold bindC
    rw [bindC_out fun w hw => h w (List.mem_cons_of_mem _ hw)]
    split
    · rfl
    · have : x ≠ n := by rintro rfl; exact h v List.mem_cons_self
      simp [this]
theorem bindL_get {kindOf : Str → Option NameKind} {x : Str} {v : Value} : ∀ {P : List Str} {vs : List Value} {i : Nat} {m : Str → Option Value}, P.Nodup → P[i]? = some x → vs[i]? = some v → kindOf x = some .local →
    bindL kindOf (P.zip vs) m x = some v
  | [], _, _, _, _, h, _, _ => by simp at h
  | _ :: _, [], _, _, _, _, h, _ => by simp at h
  | p :: P, w :: vs, 0, m, nd, h1, h2, hk => by
    simp at h1 h2; subst h1; subst h2
    show bindL kindOf ((p, w) :: P.zip vs) m p = _
    unfold bindL
    rw [bindL_out fun v hv => (List.nodup_cons.mp nd).1 (List.of_mem_zip hv).1, if_pos hk]
    simp
  | p :: P, w :: vs, i + 1, m, nd, h1, h2, hk => by
    show bindL kindOf ((p, w) :: P.zip vs) m x = _
    unfold bindL
    exact bindL_get (i := i) (List.nodup_cons.mp nd).2 (by simpa using h1) (by simpa using h2) hk
theorem bindC_get {kindOf : Str → Option NameKind} {x : Str} {v : Value} : ∀ {P : List Str} {vs : List Value} {i : Nat} {m : Str → Option Value}, P.Nodup → P[i]? = some x → vs[i]? = some v → kindOf x ≠ some .local →
    bindC kindOf (P.zip vs) m x = some v
  | [], _, _, _, _, h, _, _ => by simp at h
  | _ :: _, [], _, _, _, _, h, _ => by simp at h
  | p :: P, w :: vs, 0, m, nd, h1, h2, hk => by
    simp at h1 h2; subst h1; subst h2
    show bindC kindOf ((p, w) :: P.zip vs) m p = _
    unfold bindC
    rw [bindC_out fun v hv => (List.nodup_cons.mp nd).1 (List.of_mem_zip hv).1, if_neg hk]
    simp
  | p :: P, w :: vs, i + 1, m, nd, h1, h2, hk => by
    show bindC kindOf ((p, w) :: P.zip vs) m x = _
    unfold bindC
    exact bindC_get (i := i) (List.nodup_cons.mp nd).2 (by simpa using h1) (by simpa using h2) hk

/-- the names' values at the entry -/
def start (N : List Str) (vs : List V) : St := vs.map some ++ List.replicate (N.length - vs.length) none

/-- the context of a def's body, at its entry; an exception leaves the frame, then lies as CX says -/
def cxOf (CX : CXT) (P : Program) (w : World) (K : PySem.W.Frag) (mg : Str → Option Value) (base : Heap) (N : List Str) (qual : Str) (scope : Scope) (f : Addr) (cd : Value) (A : Around) (outer : List Env) (s : Shared) (H : Hp) (E : XK) : Cx where
  prog := P
  w := w
  K := K
  mg := mg
  base := base
  A := A.deeper (envOfC qual scope s.heap.objs.size f cd)
  N := N
  s₀ := s
  H₀ := H
  env := envOfC qual scope s.heap.objs.size f cd
  outer := outer
  stack := envOfC qual scope s.heap.objs.size f cd :: outer
  ex := []
  calm := true
  fn := fun _ => true
  pn := []
  xe := fun e s' => wpAny (model P w) (A.deeper (envOfC qual scope s.heap.objs.size f cd)) (leaving (envOfC qual scope s.heap.objs.size f cd) e) (fun _ s'' => CX outer H s E e s'') (fun e' s'' => CX outer H s E e' s'') s'

theorem cell_has {sc : Scope} {n : Nat} {x : Str} (h : sc.names.lookup x = some .cell) : ∃ c, (cellsFrom n sc.names []).lookup x = some c := by
  have q := PySem.W.cellsFrom_some sc.names n [] (.inl h)
  exact Option.isSome_iff_exists.mp q

theorem inv_start {CX : CXT} {P : Program} {w : World} {K : PySem.W.Frag} {mg : Str → Option Value} {base : Heap} {N ps : List Str} {qual : Str} {scope : Scope} {f : Addr} {cd : Value} {A : Around} {outer : List Env} {s s1 : Shared} {H : Hp} {E : XK} {us : List Value} {vs : List V}
    (S : FnScope N ps scope) (hd : A.handled = none) (e0 : Env0 P w K mg base A outer s H) (hl : vs.length = ps.length) (r : Vals vs us)
    (x : InCallC s s.heap.objs.size (bindL (envOfC qual scope s.heap.objs.size f cd).kindOf (ps.zip us) fun _ => none) (cellsFrom (s.heap.objs.size + 1) scope.names []) (bindC (envOfC qual scope s.heap.objs.size f cd).kindOf (ps.zip us) fun _ => none) s1) :
    Inv (cxOf CX P w K mg base N qual scope f cd A outer s H E) [] (start N vs) H s1 := by
  have hpl : ps.length ≤ N.length := by have := congrArg List.length S.pre; rw [List.length_take] at this; omega
  obtain ⟨h1, tk, rfl, hk⟩ := x.done
  have noA : ∀ b : Addr, b ∉ (cxOf CX P w K mg base N qual scope f cd A outer s H E).ex := fun b z => absurd (show b ∈ ([] : List Addr) from z) (by simp)
  refine ⟨⟨e0.mod, S.kind, rfl, rfl, Nat.le_refl _, fun y z c h1 h2 => ?_, fun y hy => ?_, fun y c _ h => ?_, fun _ => hd, Around.frames_deeper e0.frames, .inr ⟨rfl, rfl⟩, fun b z => absurd z (noA b), e0.bs, e0.bsz, fun b _ _ => noA b, fun b z => absurd z (noA b), e0.funs, e0.frf⟩,
    rfl, e0.bare, Un.kept hk, ⟨_, x.toInCall.ns, fun i y v h1 h2 h3 => ?_⟩, fun y c h => ⟨_, x.cell y c h⟩, e0.hok.fresh (Nat.le_refl _), fun y c h => ?_, fun p hp => absurd (show p ∈ ([] : List (Addr × Obj)) from hp) (by simp), e0.hok.kept hk, ?_⟩
  · exact name_of_addr x.apart (PySem.mem_of_lookup h1) (PySem.mem_of_lookup h2)
  · have hy : scope.names.lookup y = some .cell ∨ scope.names.lookup y = some .free := hy
    rcases hy with hy | hy
    · exact cell_has hy
    · exact absurd rfl (S.nofree _ (PySem.mem_of_lookup hy))
  · exact Nat.le_of_lt (x.above y c (PySem.mem_of_lookup h))
  · have hi : i < vs.length := by
      unfold start at h2
      by_cases hi : i < vs.length
      · exact hi
      · rw [List.getElem?_append_right (by simpa using hi)] at h2
        rw [List.getElem?_replicate] at h2
        split at h2 <;> cases h2
    have ha : vs[i]? = some v := by
      unfold start at h2
      rw [List.getElem?_append_left (by simpa using hi), List.getElem?_map] at h2
      cases e : vs[i]? with
      | none => rw [e] at h2; cases h2
      | some a => rw [e] at h2; cases h2; rfl
    obtain ⟨u, hu, rv⟩ := r.get ha
    have hp : ps[i]? = some y := by
      rw [← S.pre, List.getElem?_take_of_lt (by omega)]; exact h1
    have ndP : ps.Nodup := by rw [← S.pre]; exact S.nd.sublist (List.take_sublist _ _)
    refine ⟨u, rv, ?_⟩
    rcases S.par y (List.mem_of_getElem? hp) with k | k
    · exact .inl ⟨k, bindL_get ndP hp hu k⟩
    · obtain ⟨c, e⟩ := cell_has (n := s.heap.objs.size + 1) k
      refine .inr ⟨.inl k, c, e, ?_⟩
      have q := x.cell y c e
      rw [bindC_get ndP hp hu (by show scope.names.lookup y ≠ _; rw [k]; decide)] at q
      exact q
  · exact e0.hok.fresh (Nat.le_of_lt (x.above y c (PySem.mem_of_lookup h)))
  · unfold start
    show _ = N.length
    rw [List.length_append, List.length_map, List.length_replicate]
    omega

/-- THE RULE: a def (or a method) of the text, by its body. The body's reading t is chosen for each entry; it is run at the parameters' values -/
theorem fn_of {CX : CXT} {P : Program} {w : World} {K : PySem.W.Frag} {mg : Str → Option Value} {base : Heap} {k : Nat} {f : Addr} {name qual : Str} {params : Arguments} {body : List Stmt} {scope : Scope} {dV kV doc pm cdv ct oc : Value} {an od : Option Addr}
    {osl : Array (Option Value)} {N ps : List Str} {sp : Sp} (lk : K.lookup f = some ⟨oc, od, .func (PySem.W.fnOf name qual params body scope dV kV doc pm an cdv ct), osl⟩) (hcd : PySem.W.codeIn K cdv qual = true) (S : FnScope N ps scope)
    (len : ∀ vs H Q E, sp vs H Q E → vs.length = ps.length)
    (hbody : ∀ (A : Around) (outer : List Env) (s : Shared) (H : Hp) (vs : List V) (Q : VK) (E : XK), Room k (A.deeper (envOfC qual scope s.heap.objs.size f cdv)) → sp vs H Q E →
      ∃ t, PSs (cxOf CX P w K mg base N qual scope f cdv A outer s H E) body t ∧ t { nx := fun _ H' => Q .non H', rt := Q } (start N vs) H) :
    FnOk P w K mg base CX (k + 1) f (PySem.W.fnOf name qual params body scope dV kV doc pm an cdv ct) ps sp := by
  refine ⟨len, fun A outer s H args us vs Q E hr e0 hb r hsp => ?_⟩
  have hl := len _ _ _ _ hsp
  have KX : K.In s.heap := e0.mod.kin.keeps fun b o e => (e0.bs b o e).1
  have lim : s.heap.NoLimit := e0.mod.nolimit.keeps fun b o e => (e0.bs b o e).1
  have hkind : ∀ y ∈ ps.zip us, scope.names.lookup y.1 = some .local ∨ (scope.names.lookup y.1 = some .cell ∧ ((cellsFrom (s.heap.objs.size + 1) scope.names []).lookup y.1).isSome = true) := fun ⟨n, v⟩ hy => by
    rcases S.par n (List.of_mem_zip hy).1 with q | q
    · exact .inl q
    · exact .inr ⟨q, PySem.W.cellsFrom_some _ _ _ (.inl q)⟩
  refine codeAny_call_function hr.depth (KX _ _ lk) rfl S.co S.gen rfl (PySem.W.codeRec_of KX hcd) (hb _ _ _ _ ?_)
  refine wpAny_newFunctionEnv_cells S.kind hkind fun env he s1 x => ?_
  subst he
  refine ⟨lim.keeps x.toInCall.keep, codeAny_func ?_⟩
  obtain ⟨t, ht, hq⟩ := hbody A outer s H vs Q E (hr.deeper _) hsp
  have I : Inv (cxOf CX P w K mg base N qual scope f cdv A outer s H E) [] (start N vs) H s1 := inv_start S hr.hd e0 hl r x
  refine wpAny_mono (ht [] s1 (start N vs) H _ I hq) (fun fl s' hs => ?_) fun e s' hs => hs
  have fin : ∀ {σ' : St} {H' : Hp} {v : V} {u : Value}, Inv (cxOf CX P w K mg base N qual scope f cdv A outer s H E) [] σ' H' s' → RelV v u → Q v H' → CE outer P w H s Q u s' :=
    fun {σ' H' v u} J rv q => ⟨v, H', J.os, J.bare, J.base, J.hok, rv, q⟩
  cases fl with
  | ret u =>
    obtain ⟨v, σ', H', J, rv, q⟩ := hs
    exact fin J rv q
  | next =>
    obtain ⟨σ', H', J, q⟩ := hs
    exact fin (v := V.non) (u := Value.none) J rfl q
  | brk =>
    obtain ⟨_, _, _, q⟩ := hs
    exact False.elim q
  | cont =>
    obtain ⟨_, _, _, q⟩ := hs
    exact False.elim q
end L2

namespace L2
open PySem PySem.Spec PyProof.Rows
section
variable {X : Cx} {x : Str} {p pos : Pos} {e : Expr} {es : List Expr} {t : TA} {id T : String} {r : List V → Hp → VK → Prop}

def tCB (r : List V → Hp → VK → Prop) (t : TA) : TE := fun σ H Q => t σ H fun vs H1 => r vs H1 Q
/-- f(e, ..), f a built-in function -/
theorem pe_callB (hc : CallR X (.builtin id) r) (hg : Gl X x) (hm : X.mg x = none) (hv : bootBuiltins x = some (.builtin id)) (ha : PA X (e :: es) t) (hn : x ≠ "__name__" := by decide) (hdb : (x == ("__debug__" : Str)) = false := by decide)
    (he : starEach (e :: es) X.env = (false, eval e X.env) :: starEach es X.env := by rfl) (hpl : (backTo pos (starEach es X.env)).any (·.1) = false := by rfl) : PE X (.Call (.Name x p) (e :: es) [] pos) (tCB r t) := by
  intro pins s σ H Q I h
  refine wpAny_Call_Name_kw (ld_blt I hg hm hv ?_ hn hdb)
  exact PyProof.Rows.callWith_builtin1 (thn (ha pos pins s σ H _ I h) fun us s1 ⟨vs, H1, I1, r1, q1⟩ => hc pins s1 σ H1 vs us Q I1 r1 q1) he hpl
/-- T(e, ..), T a built-in type -/
theorem pe_callTy (hc : CallR X (.type T) r) (hg : Gl X x) (hm : X.mg x = none) (hv : bootBuiltins x = some (.type T)) (ha : PA X (e :: es) t) (hn : x ≠ "__name__" := by decide) (hdb : (x == ("__debug__" : Str)) = false := by decide)
    (he : starEach (e :: es) X.env = (false, eval e X.env) :: starEach es X.env := by rfl) (hpl : (backTo pos (starEach es X.env)).any (·.1) = false := by rfl) : PE X (.Call (.Name x p) (e :: es) [] pos) (tCB r t) := by
  intro pins s σ H Q I h
  refine wpAny_Call_Name_kw (ld_blt I hg hm hv ?_ hn hdb)
  exact PyProof.Rows.callWith_type1 (thn (ha pos pins s σ H _ I h) fun us s1 ⟨vs, H1, I1, r1, q1⟩ => hc pins s1 σ H1 vs us Q I1 r1 q1) he hpl
end
end L2

namespace L2
open PySem PySem.Spec PyProof.Rows

/-! ### lists of pairs as tables -/
section
variable {κ : Type} [DecidableEq κ]
def valV (kvs : List (κ × V)) (k : κ) : Option V := (kvs.find? fun kv => decide (kv.1 = k)).map (·.2)
/-- in its place, or at the end -/
def putK (kvs : List (κ × V)) (k : κ) (v : V) : List (κ × V) :=
  if (kvs.any fun kv => decide (kv.1 = k)) = true then kvs.map (fun kv => if kv.1 = k then (kv.1, v) else kv) else kvs ++ [(k, v)]
def dropK (kvs : List (κ × V)) (k : κ) : List (κ × V) := kvs.filter fun kv => decide (kv.1 ≠ k)

theorem valV_nil {k : κ} : valV ([] : List (κ × V)) k = none := rfl
theorem valV_pos {p : κ × V} {r : List (κ × V)} {k : κ} (e : p.1 = k) : valV (p :: r) k = some p.2 := by simp [valV, List.find?_cons, e]
theorem valV_neg {p : κ × V} {r : List (κ × V)} {k : κ} (e : ¬ p.1 = k) : valV (p :: r) k = valV r k := by simp [valV, List.find?_cons, e]
theorem valV_any (k : κ) : ∀ kvs : List (κ × V), (kvs.any fun kv => decide (kv.1 = k)) = (valV kvs k).isSome
  | [] => rfl
  | p :: r => by
    rw [List.any_cons]
    by_cases e : p.1 = k
    · simp only [valV_pos e, decide_eq_true e, Bool.true_or, Option.isSome_some]
    · rw [valV_neg e, decide_eq_false e, Bool.false_or]; exact valV_any k r
theorem valV_map (k j : κ) (y : V) : ∀ kvs : List (κ × V), valV (kvs.map fun kv => if kv.1 = k then (kv.1, y) else kv) j = (valV kvs j).map fun x => if j = k then y else x
  | [] => rfl
  | p :: r => by
    have ih := valV_map k j y r
    rw [List.map_cons]
    by_cases h : p.1 = k
    · rw [if_pos h]
      by_cases e : p.1 = j
      · rw [valV_pos (p := (p.1, y)) e, valV_pos e, Option.map_some, if_pos (e.symm.trans h)]
      · rw [valV_neg (p := (p.1, y)) e, valV_neg e, ih]
    · rw [if_neg h]
      by_cases e : p.1 = j
      · rw [valV_pos (p := p) e, valV_pos e, Option.map_some, if_neg (fun z => h (e.trans z))]
      · rw [valV_neg (p := p) e, valV_neg e, ih]
theorem valV_snoc (k j : κ) (y : V) : ∀ kvs : List (κ × V), valV kvs k = none → valV (kvs ++ [(k, y)]) j = if j = k then some y else valV kvs j
  | [], _ => by
    by_cases e : k = j
    · rw [if_pos e.symm]; exact valV_pos (p := (k, y)) e
    · rw [if_neg (fun z => e z.symm)]; exact valV_neg (p := (k, y)) e
  | p :: r, hn => by
    rw [List.cons_append]
    have hk : ¬ p.1 = k := fun z => by rw [valV_pos z] at hn; cases hn
    rw [valV_neg hk] at hn
    have ih := valV_snoc k j y r hn
    by_cases e : p.1 = j
    · rw [valV_pos e, valV_pos e, if_neg (fun z => hk (e.trans z))]
    · rw [valV_neg e, valV_neg e, ih]
theorem valV_put (kvs : List (κ × V)) (k j : κ) (y : V) : valV (putK kvs k y) j = if j = k then some y else valV kvs j := by
  unfold putK
  by_cases a : (kvs.any fun kv => decide (kv.1 = k)) = true
  · rw [if_pos a, valV_map]
    rw [valV_any] at a
    by_cases e : j = k
    · obtain ⟨x, hx⟩ := Option.isSome_iff_exists.mp a
      rw [if_pos e, e, hx, Option.map_some, if_pos rfl]
    · rw [if_neg e]
      cases valV kvs j with
      | none => rfl
      | some x => rw [Option.map_some, if_neg e]
  · rw [if_neg a]
    refine valV_snoc k j y kvs ?_
    rw [valV_any] at a
    cases q : valV kvs k with
    | none => rfl
    | some x => rw [q] at a; exact (a rfl).elim
theorem length_putK (kvs : List (κ × V)) (k : κ) (v : V) : (putK kvs k v).length ≤ kvs.length + 1 := by
  unfold putK
  split
  · rw [List.length_map]; omega
  · rw [List.length_append, List.length_cons, List.length_nil]; omega
theorem putK_new {kvs : List (κ × V)} {k : κ} (v : V) (h : valV kvs k = none) : putK kvs k v = kvs ++ [(k, v)] := by
  unfold putK
  rw [valV_any, h]
  exact if_neg (by decide)

theorem RelO.isSome_eq {o : Option V} {u : Option Value} (r : RelO o u) : o.isSome = u.isSome := by
  cases o with
  | none => cases u with
    | none => rfl
    | some _ => exact (show False from r).elim
  | some _ => cases u with
    | none => exact (show False from r).elim
    | some _ => rfl
theorem RelO.getD {o : Option V} {u : Option Value} {d : V} {d' : Value} (r : RelO o u) (rd : RelV d d') : RelV (o.getD d) (u.getD d') := by
  cases o with
  | none => cases u with
    | none => exact rd
    | some _ => exact (show False from r).elim
  | some _ => cases u with
    | none => exact (show False from r).elim
    | some _ => exact r

/-- raw tables of the same keys -/
theorem KV.val {kvs : List (κ × V)} {vs : List (κ × Value)} (r : KV kvs vs) (k : κ) : RelO (valV kvs k) (valueAt vs k) := by
  unfold KV at r
  induction r with
  | nil => exact True.intro
  | @cons p q ps qs h t ih =>
    obtain ⟨h1, h2⟩ := h
    by_cases e : p.1 = k
    · have e' : q.1 = k := h1.symm.trans e
      have b : valueAt (q :: qs) k = some q.2 := by simp [valueAt, List.find?_cons, e']
      rw [valV_pos e, b]; exact h2
    · have e' : ¬ q.1 = k := fun z => e (h1.trans z)
      have b : valueAt (q :: qs) k = valueAt qs k := by simp [valueAt, List.find?_cons, e']
      rw [valV_neg e, b]; exact ih
theorem KV.any {kvs : List (κ × V)} {vs : List (κ × Value)} (r : KV kvs vs) (k : κ) : (kvs.any fun kv => decide (kv.1 = k)) = vs.any fun kv => decide (kv.1 = k) := by
  unfold KV at r
  induction r with
  | nil => rfl
  | cons h t ih => rw [List.any_cons, List.any_cons, ih, h.1]
theorem KV.repl {kvs : List (κ × V)} {vs : List (κ × Value)} (r : KV kvs vs) (k : κ) {y : V} {u : Value} (ry : RelV y u) :
    KV (kvs.map fun kv => if kv.1 = k then (kv.1, y) else kv) (vs.map fun kv => if kv.1 = k then (kv.1, u) else kv) := by
  unfold KV at r ⊢
  induction r with
  | nil => exact .nil
  | @cons p q ps qs h t ih =>
    rw [List.map_cons, List.map_cons]
    refine .cons ?_ ih
    obtain ⟨h1, h2⟩ := h
    by_cases e : p.1 = k
    · rw [if_pos e, if_pos (h1.symm.trans e)]; exact ⟨h1, ry⟩
    · rw [if_neg e, if_neg (fun z => e (h1.trans z))]; exact ⟨h1, h2⟩
theorem KV.put {kvs : List (κ × V)} {vs : List (κ × Value)} (r : KV kvs vs) (k : κ) {y : V} {u : Value} (ry : RelV y u) : KV (putK kvs k y) (stored vs k u) := by
  unfold putK stored
  rw [r.any k]
  by_cases e : (vs.any fun kv => decide (kv.1 = k)) = true
  · rw [if_pos e, if_pos e]; exact r.repl k ry
  · rw [if_neg e, if_neg e]; exact Paired.snoc r ⟨rfl, ry⟩
theorem KV.drop {kvs : List (κ × V)} {vs : List (κ × Value)} (r : KV kvs vs) (k : κ) : KV (dropK kvs k) (without vs k) := by
  unfold KV at r ⊢
  unfold dropK without
  induction r with
  | nil => exact .nil
  | @cons p q ps qs h t ih =>
    obtain ⟨h1, h2⟩ := h
    rw [List.filter_cons, List.filter_cons]
    by_cases e : p.1 = k
    · have a : ¬ decide (p.1 ≠ k) = true := by simp [e]
      have b : ¬ decide (q.1 ≠ k) = true := by simp [h1.symm.trans e]
      rw [if_neg a, if_neg b]; exact ih
    · have e' : ¬ q.1 = k := fun z => e (h1.trans z)
      have a : decide (p.1 ≠ k) = true := by simp [e]
      have b : decide (q.1 ≠ k) = true := by simp [e']
      rw [if_pos a, if_pos b]; exact .cons ⟨h1, h2⟩ ih
theorem KV.keys {kvs : List (κ × V)} {vs : List (κ × Value)} (r : KV kvs vs) : kvs.map (·.1) = vs.map (·.1) := by
  unfold KV at r
  induction r with
  | nil => rfl
  | cons h t ih => rw [List.map_cons, List.map_cons, ih, h.1]
theorem KV.length {kvs : List (κ × V)} {vs : List (κ × Value)} (r : KV kvs vs) : kvs.length = vs.length := Paired.length r
end


/-! ### a tracked dict, its keys ints and texts or tuples of these -/
theorem kV_is {P : Program} {w : World} {k : Key} {u : Value} (r : RelV (kV k) u) : (mixKind P w).is k u = true := by
  cases k with
  | inl i => obtain ⟨t, e⟩ := (show ∃ t, u = Value.int i t from r); subst e; exact mixKind_int P w i t
  | inr x => obtain ⟨t, e⟩ := (show ∃ t, u = Value.str x t from r); subst e; exact mixKind_str P w x t
theorem items_are {P : Program} {w : World} : ∀ {ks : List Key} {us : List Value}, Vals (ks.map kV) us → ItemsAre (mixKind P w) ks us
  | [], _, r => by rw [List.map_nil] at r; cases r; exact .nil
  | k :: ks, _, r => by
    rw [List.map_cons] at r
    cases r with
    | cons h t => exact .cons (kV_is h) (items_are t)

/-- raw entries of a dict with tuple keys -/
abbrev KT (H : Hp) : List (List Key × V) → List (List Key × Addr × Value) → Prop := Paired fun p q => p.1 = q.1 ∧ H q.2.1 = some (.tup (p.1.map kV)) ∧ RelV p.2 q.2.2
theorem KT.val {H : Hp} {kvs : List (List Key × V)} {xs : List (List Key × Addr × Value)} (r : KT H kvs xs) (k : List Key) : RelO (valV kvs k) ((atKey xs k).map (·.2)) := by
  induction r with
  | nil => exact True.intro
  | @cons p q ps qs h t ih =>
    obtain ⟨h1, _, h2⟩ := h
    by_cases e : p.1 = k
    · have e' : q.1 = k := h1.symm.trans e
      have b : atKey (q :: qs) k = some q.2 := by simp [atKey, List.find?_cons, e']
      rw [valV_pos e, b]; exact h2
    · have e' : ¬ q.1 = k := fun z => e (h1.trans z)
      have b : atKey (q :: qs) k = atKey qs k := by simp [atKey, List.find?_cons, e']
      rw [valV_neg e, b]; exact ih
theorem KT.repl {H : Hp} {kvs : List (List Key × V)} {xs : List (List Key × Addr × Value)} (r : KT H kvs xs) (k : List Key) {y : V} {u : Value} (ry : RelV y u) :
    KT H (kvs.map fun kv => if kv.1 = k then (kv.1, y) else kv) (xs.map (putAt k u)) := by
  induction r with
  | nil => exact .nil
  | @cons p q ps qs h t ih =>
    rw [List.map_cons, List.map_cons]
    refine .cons ?_ ih
    obtain ⟨h1, h2, h3⟩ := h
    unfold putAt
    by_cases e : p.1 = k
    · rw [if_pos e, if_pos (h1.symm.trans e)]; exact ⟨h1, h2, ry⟩
    · rw [if_neg e, if_neg (fun z => e (h1.trans z))]; exact ⟨h1, h2, h3⟩
theorem KT.put {H : Hp} {kvs : List (List Key × V)} {xs : List (List Key × Addr × Value)} (r : KT H kvs xs) (k : List Key) {b : Addr} {y : V} {u : Value} (hb : H b = some (.tup (k.map kV))) (ry : RelV y u) :
    KT H (putK kvs k y) (storedH xs k b u) := by
  have e : (kvs.any fun kv => decide (kv.1 = k)) = (atKey xs k).isSome := by
    rw [valV_any, (r.val k).isSome_eq, Option.isSome_map]
  unfold putK storedH
  rw [e]
  by_cases q : (atKey xs k).isSome = true
  · rw [if_pos q, if_pos q]; exact r.repl k ry
  · rw [if_neg q, if_neg q]; exact Paired.snoc r ⟨rfl, hb, ry⟩
theorem KT.keeps {H H' : Hp} {kvs : List (List Key × V)} {xs : List (List Key × Addr × Value)} (r : KT H kvs xs) (ht : ∀ b ys, H b = some (.tup ys) → H' b = some (.tup ys)) : KT H' kvs xs :=
  Paired.mapP r fun _ _ z => ⟨z.1, ht _ _ z.2.1, z.2.2⟩

section
variable {P : Program} {w : World} {H : Hp} {h : Heap} {a : Addr}
theorem rd_of {u : HO} (ok : HOk P w H h) (e : Rd H a u) : ObjOk P w H h a u := e.ok ok
theorem dk_rd {kvs : List (Key × V)} (ok : HOk P w H h) (e : Rd H a (.dK kvs)) : kvs.length ≤ sizeLine ∧ (a == sysModules) = false ∧ ∃ vs, KV kvs vs ∧ h.DictOf (mixKind P w) a vs :=
  show ObjOk P w H h a (.dK kvs) from rd_of ok e
theorem dk_of {kvs : List (Key × V)} (ok : HOk P w H h) (e : H a = some (.dK kvs)) : kvs.length ≤ sizeLine ∧ (a == sysModules) = false ∧ ∃ vs, KV kvs vs ∧ h.DictOf (mixKind P w) a vs := dk_rd ok (.inl e)
/-- a tracked tuple of ints and texts is a key -/
theorem key_of {ks : List Key} (ok : HOk P w H h) (e : H a = some (.tup (ks.map kV))) : (tupleKind (mixKind P w)).is h ks a := by
  obtain ⟨_, its, r, o, h1, h2, n, h3⟩ := (show ObjOk P w H h a (.tup (ks.map kV)) from ok a _ e)
  exact ⟨o, its.toArray, n, h1, h2, h3, by simpa using items_are r⟩
theorem dt_rd {kvs : List (List Key × V)} (ok : HOk P w H h) (e : Rd H a (.dT kvs)) : kvs.length ≤ sizeLine ∧ (a == sysModules) = false ∧
    ∃ xs, KT H kvs xs ∧ h.DictOfH (tupleKind (mixKind P w)) a xs := by
  obtain ⟨z, y, xs, r, o, es, ep, h1, h2, h3, h4, h5⟩ := (show ObjOk P w H h a (.dT kvs) from rd_of ok e)
  refine ⟨z, y, xs, r, o, es, ep, h1, h2, h3, h4, fun x hx => ?_, h5⟩
  have all : ∀ {l : List (List Key × V)} {m : List (List Key × Addr × Value)}, KT H l m → ∀ x ∈ m, (tupleKind (mixKind P w)).is h x.1 x.2.1 := by
    intro l m q
    induction q with
    | nil => intro x hx; exact nomatch hx
    | @cons p q ps qs hq t ih =>
      intro x hx
      rcases List.mem_cons.mp hx with e | hx
      · subst e
        exact key_of ok (by rw [← hq.1]; exact hq.2.1)
      · exact ih x hx
  exact all r x hx
theorem dt_of {kvs : List (List Key × V)} (ok : HOk P w H h) (e : H a = some (.dT kvs)) : kvs.length ≤ sizeLine ∧ (a == sysModules) = false ∧
    ∃ xs, KT H kvs xs ∧ h.DictOfH (tupleKind (mixKind P w)) a xs := dt_rd ok (.inl e)
end

/-- what the dict at a holds at the key y -/
def DGet (H : Hp) (a : Addr) (y : V) (r : Option V) : Prop :=
  (∃ kvs k, Rd H a (.dK kvs) ∧ y = kV k ∧ r = valV kvs k) ∨ ∃ kvs k b, Rd H a (.dT kvs) ∧ y = .ref b ∧ H b = some (.tup (k.map kV)) ∧ r = valV kvs k
/-- the heap behind a[y] = v -/
def DPut (H : Hp) (a : Addr) (y v : V) (H' : Hp) : Prop :=
  (∃ kvs k, H a = some (.dK kvs) ∧ y = kV k ∧ kvs.length < sizeLine ∧ H' = upd H a (.dK (putK kvs k v))) ∨
  ∃ kvs k b, H a = some (.dT kvs) ∧ y = .ref b ∧ H b = some (.tup (k.map kV)) ∧ kvs.length < sizeLine ∧ H' = upd H a (.dT (putK kvs k v))
theorem DGet.k {H : Hp} {a : Addr} {kvs : List (Key × V)} {k : Key} (e : H a = some (.dK kvs)) : DGet H a (kV k) (valV kvs k) := .inl ⟨kvs, k, .inl e, rfl, rfl⟩
theorem DGet.t {H : Hp} {a b : Addr} {kvs : List (List Key × V)} {k : List Key} (e : H a = some (.dT kvs)) (eb : H b = some (.tup (k.map kV))) : DGet H a (.ref b) (valV kvs k) := .inr ⟨kvs, k, b, .inl e, rfl, eb, rfl⟩
theorem DPut.k {H : Hp} {a : Addr} {kvs : List (Key × V)} {k : Key} {v : V} (e : H a = some (.dK kvs)) (hl : kvs.length < sizeLine) : DPut H a (kV k) v (upd H a (.dK (putK kvs k v))) := .inl ⟨kvs, k, e, rfl, hl, rfl⟩
theorem DPut.t {H : Hp} {a b : Addr} {kvs : List (List Key × V)} {k : List Key} {v : V} (e : H a = some (.dT kvs)) (eb : H b = some (.tup (k.map kV))) (hl : kvs.length < sizeLine) :
    DPut H a (.ref b) v (upd H a (.dT (putK kvs k v))) := .inr ⟨kvs, k, b, e, rfl, eb, hl, rfl⟩


section
variable {X : Cx} {pins : List (Addr × Obj)} {σ : St} {H : Hp} {s : Shared} {a : Addr} {y v : V} {u r : Value} {o : Option V} {A : Around} {E : Value → Shared → Prop}

theorem Inv.big (I : Inv X pins σ H s) : sysModules < s.heap.objs.size := by
  have h : mainGlobals < s.heap.objs.size := (I.mod.glob.keeps I.bk).lt
  exact Nat.lt_trans (by decide) h

/-- d[y], there -/
theorem d_getItem {Q : Value → Shared → Prop} (hu : A.units + 1 < cLine) (I : Inv X pins σ H s) (g : DGet H a y (some v)) (ry : RelV y u) (h : ∀ w' s', Inv X pins σ H s' → RelV v w' → Q w' s') :
    wpAny (model X.prog X.w) A (getItem (.ref a) u) Q E s := by
  rcases g with ⟨kvs, k, e, ey, l⟩ | ⟨kvs, k, b, e, ey, eb, l⟩
  · subst ey
    obtain ⟨z, hd, vs, rel, dd⟩ := dk_rd I.hok e
    obtain ⟨w', hw, rw'⟩ := RelO.some_of (v := v) (o := valueAt vs k) (by rw [l]; exact rel.val k)
    exact wpAny_getItem_of (kV_is ry) dd.mapOf hw (h w' _ (I.tok _) rw')
  · subst ey
    cases (show u = Value.ref b from ry)
    obtain ⟨z, hd, xs, rel, dd⟩ := dt_rd I.hok e
    obtain ⟨w', hw, rw'⟩ := RelO.some_of (v := v) (o := (atKey xs k).map (·.2)) (by rw [l]; exact rel.val k)
    obtain ⟨p, hp, hp2⟩ := Option.map_eq_some_iff.mp hw
    refine wpAny_getItem_heap (tupleKind_room_in1 hu) (key_of I.hok eb) dd hp ?_
    rw [hp2]
    exact h w' _ (I.tok _) rw'
/-- a dict's object is replaced -/
theorem d_write {h' : Heap} {t' : Nat} {ob : HO} (I : Inv X pins σ H s) (mu : Mut (H a)) (hs : Heap.SameBut a s.heap h') (he : ∃ q, h'.get? a = some q) (new : ObjOk X.prog X.w (upd H a ob) h' a ob) :
    Inv X pins σ (upd H a ob) { s with heap := h', toks := t' } :=
  I.write (x := a) (e := a) mu (.inl rfl) (fun b q hb z => (hs.2 b hb).trans z) he new
theorem dk_new {P : Program} {w : World} {H' : Hp} {h' : Heap} {kvs : List (Key × V)} {vs : List (Key × Value)} (z : kvs.length ≤ sizeLine) (hd : (a == sysModules) = false) (rel : KV kvs vs) (dd : h'.DictOf (mixKind P w) a vs) :
    ObjOk P w H' h' a (.dK kvs) := ⟨z, hd, vs, rel, dd⟩
/-- d[y] = v -/
theorem d_setItem {H' : Hp} {Q : Unit → Shared → Prop} (hu : A.units + 1 < cLine) (I : Inv X pins σ H s) (g : DPut H a y v H') (ry : RelV y u) (rv : RelV v r) (h : ∀ s', Inv X pins σ H' s' → Q () s') :
    wpAny (model X.prog X.w) A (setItem (.ref a) u r) Q E s := by
  rcases g with ⟨kvs, k, e, ey, l, eH⟩ | ⟨kvs, k, b, e, ey, eb, l, eH⟩
  · subst ey eH
    obtain ⟨z, hd, vs, rel, dd⟩ := dk_of I.hok e
    have hz : vs.length ≤ sizeLine := by rw [← rel.length]; exact z
    have hl : (putK kvs k v).length ≤ sizeLine := by have := length_putK kvs k v; omega
    refine wpAny_setItem_pairs (hsz := hz) (kV_is ry) dd fun h' dd' hs => h _ ?_
    have he : ∃ q, h'.get? a = some q := let ⟨q, _, _, hq, _⟩ := dd'; ⟨q, hq⟩
    exact d_write I (by rw [e]; exact True.intro) hs he (dk_new hl hd (rel.put k rv) dd')
  · subst ey eH
    cases (show u = Value.ref b from ry)
    obtain ⟨z, hd, xs, rel, dd⟩ := dt_of I.hok e
    have hz : xs.length ≤ sizeLine := by rw [← Paired.length rel]; exact z
    have hl : (putK kvs k v).length ≤ sizeLine := by have := length_putK kvs k v; omega
    refine wpAny_setItem_heap (hsz := hz) (tupleKind_room_in1 hu) (key_of I.hok eb) dd fun h' dd' hs => h _ ?_
    obtain ⟨q, es, ep, hq, h2, h3, h4, _, h5⟩ := dd'
    refine d_write I (by rw [e]; exact True.intro) hs ⟨q, hq⟩ ⟨hl, hd, _, (rel.put k eb rv).keeps fun c ys ec => ?_, q, es, ep, hq, h2, h3, h4, h5⟩
    rw [upd_ne (ne_of ec e (fun z => nomatch z))]
    exact ec
end

section
variable {X : Cx} {pins : List (Addr × Obj)} {σ : St} {H : Hp} {s : Shared} {a : Addr} {kvs : List (Key × V)} {k : Key} {u : Value} {A : Around} {E : Value → Shared → Prop}
end


/-! ### readings and rules -/
/-- the element of a subscription, not a slice -/
def NoSl (i : Expr) : Prop := ∀ ov iv, subscripted i false ov iv = operate [ov, iv] (getItem ov iv)

theorem dict_typeIs {X : Cx} {pins : List (Addr × Obj)} {σ : St} {H : Hp} {s : Shared} {a : Addr} {y : V} {o : Option V} (I : Inv X pins σ H s) (g : DGet H a y o) : s.TypeIs (.ref a) "dict" := by
  rcases g with ⟨kvs, k, e, _, _⟩ | ⟨kvs, k, b, e, _, _, _⟩
  · obtain ⟨_, _, vs, _, dd⟩ := dk_rd I.hok e
    exact dd.typeIs
  · obtain ⟨_, _, xs, _, dd⟩ := dt_rd I.hok e
    exact dd.typeIs

/-- d[y] -/
def tDGet (td ty : TE) : TE := fun σ H Q => td σ H fun x H1 => ty σ H1 fun y H2 => ∃ a v, x = .ref a ∧ DGet H2 a y (some v) ∧ Q v H2
/-- y in d, y not in d -/
def tDIn (ty td : TE) : TE := fun σ H Q => ty σ H fun y H1 => td σ H1 fun x H2 => ∃ a o, x = .ref a ∧ DGet H2 a y o ∧ Q (.bl o.isSome) H2
def tDNotIn (ty td : TE) : TE := fun σ H Q => ty σ H fun y H1 => td σ H1 fun x H2 => ∃ a o, x = .ref a ∧ DGet H2 a y o ∧ Q (.bl (!o.isSome)) H2
/-- d[y] = v -/
def sDPut (td ty tv : TE) : TS := fun D σ H => tv σ H fun v H1 => td σ H1 fun x H2 => ty σ H2 fun y H3 => ∃ a H4, x = .ref a ∧ DPut H3 a y v H4 ∧ D.nx σ H4
/-- d[y] op= v -/
def sDAug (td ty tv : TE) (rd : V → V → Hp → VK → Prop) : TS := fun D σ H => td σ H fun x H1 => ty σ H1 fun y H2 => ∃ a v, x = .ref a ∧ DGet H2 a y (some v) ∧
  tv σ H2 fun y2 H3 => rd v y2 H3 fun z H4 => ∃ H5, DPut H4 a y z H5 ∧ D.nx σ H5
/-- del d[y] -/
def sDDel (td ty : TE) : TS := fun D σ H => td σ H fun x H1 => ty σ H1 fun y H2 => ∃ a kvs k, x = .ref a ∧ H2 a = some (.dK kvs) ∧ y = kV k ∧ (valV kvs k).isSome = true ∧ D.nx σ (upd H2 a (.dK (dropK kvs k)))

section
variable {X : Cx} {o i e value : Expr} {pos pos' tpos : Pos} {td ty tv : TE}
end


/-! ### displays -/
theorem dk_empty {P : Program} {w : World} {H : Hp} (h : Heap) (hb : sysModules < h.objs.size) : ObjOk P w H (h.push { cls := .type "dict", data := .dict #[] }) h.objs.size (.dK []) :=
  ⟨Nat.zero_le _, beq_eq_false_iff_ne.mpr (Ne.symm (Nat.ne_of_lt hb)), [], .nil, Heap.DictOf.new h⟩
theorem dt_empty {P : Program} {w : World} {H : Hp} (h : Heap) (hb : sysModules < h.objs.size) : ObjOk P w H (h.push { cls := .type "dict", data := .dict #[] }) h.objs.size (.dT []) :=
  ⟨Nat.zero_le _, beq_eq_false_iff_ne.mpr (Ne.symm (Nat.ne_of_lt hb)), [], .nil, _, #[], 0, Heap.get?_push_size _ rfl, ⟨rfl, rfl, rfl⟩, rfl, rfl, List.nodup_nil⟩
/-- {}, to be a dict of the kind that is wanted -/
def tDNewK : TE := fun _ H Q => ∀ p, H p = none → Q (.ref p) (upd H p (.dK []))
def tDNewT : TE := fun _ H Q => ∀ p, H p = none → Q (.ref p) (upd H p (.dT []))
section
variable {X : Cx} {pos : Pos}
theorem pe_dnewK : PE X (.Dict [] [] pos) tDNewK := fun pins s σ H Q I h =>
  wpAny_Dict_empty ⟨.ref s.heap.objs.size, _, I.laid (a := s.heap.objs.size) (o := .dK []) (t' := s.toks) (fun _ _ q => Heap.get?_push_of_some _ q) (Nat.le_refl _) (dk_empty s.heap I.big), rfl, h _ (I.hok.fresh (Nat.le_refl _))⟩
theorem pe_dnewT : PE X (.Dict [] [] pos) tDNewT := fun pins s σ H Q I h =>
  wpAny_Dict_empty ⟨.ref s.heap.objs.size, _, I.laid (a := s.heap.objs.size) (o := .dT []) (t' := s.toks) (fun _ _ q => Heap.get?_push_of_some _ q) (Nat.le_refl _) (dt_empty s.heap I.big), rfl, h _ (I.hok.fresh (Nat.le_refl _))⟩
end

/-- the pairs of a display, from the left -/
def tPairs : List (TE × TE) → St → Hp → (List (V × V) → Hp → Prop) → Prop
  | [], _, H, Q => Q [] H
  | (tk, tv) :: r, σ, H, Q => tk σ H fun x H1 => tv σ H1 fun y H2 => tPairs r σ H2 fun ps H3 => Q ((x, y) :: ps) H3
abbrev VV : List (V × V) → List (Value × Value) → Prop := Paired fun p q => RelV p.1 q.1 ∧ RelV p.2 q.2
def PPs (X : Cx) (pos : Pos) (keys : List (Option Expr)) (values : List Expr) (trs : List (TE × TE)) : Prop :=
  ∀ (pins : List (Addr × Obj)) (s : Shared) (σ : St) (H : Hp) (Q : List (V × V) → Hp → Prop), Inv X pins σ H s → tPairs trs σ H Q →
    wpAny (model X.prog X.w) X.A (evalPairs (pairTrees keys values X.env pos)) (fun vs s' => ∃ ps H', Inv X pins σ H' s' ∧ VV ps vs ∧ Q ps H') X.xe s

def mergeK (kvs more : List (Key × V)) : List (Key × V) := more.foldl (fun acc kv => putK acc kv.1 kv.2) kvs
/-- {k: v, ..} with keys ints and texts; the new dict stands empty while the pairs are made -/
def tDisp (trs : List (TE × TE)) : TE := fun σ H Q => ∀ p, H p = none → tPairs trs σ (upd H p (.dK [])) fun ps H2 => H2 p = some (.dK []) ∧ ∃ kvs : List (Key × V), ps = kvs.map (fun kv => (kV kv.1, kv.2)) ∧ kvs.length ≤ 15 ∧ Q (.ref p) (upd H2 p (.dK (mergeK [] kvs)))


/-! ### methods -/
/-- a method call o.m(e) of a built-in, with one argument: what must be seen of the text -/
structure M1 (X : Cx) (o : Expr) (m : Str) (apos : Pos) (e : Expr) (cpos : Pos) : Prop where
  base : attributeBase o m X.env (eval o X.env) = eval o X.env
  few : ((backTo cpos (starEach [e] X.env)).all (fun x => !x.1) && (backToKw cpos (keywordEach [] X.env)).all (fun x => x.1.isSome)
    && decide (([e] : List Expr).length + ([] : List Keyword).length + (if ([] : List Keyword).isEmpty then 0 else 1) < 30)) = true
  line : (apos.endLine == cpos.line) = true
  trees : backTo cpos (starEach [e] X.env) = [(false, eval e X.env)]
structure M2 (X : Cx) (o : Expr) (m : Str) (apos : Pos) (e f : Expr) (cpos : Pos) : Prop where
  base : attributeBase o m X.env (eval o X.env) = eval o X.env
  few : ((backTo cpos (starEach [e, f] X.env)).all (fun x => !x.1) && (backToKw cpos (keywordEach [] X.env)).all (fun x => x.1.isSome)
    && decide (([e, f] : List Expr).length + ([] : List Keyword).length + (if ([] : List Keyword).isEmpty then 0 else 1) < 30)) = true
  line : (apos.endLine == cpos.line) = true
  trees : backTo cpos (starEach [e, f] X.env) = [(false, eval e X.env), (false, eval f X.env)]

/-- a is a dict, whatever its keys -/
def IsD (H : Hp) (a : Addr) : Prop := (∃ kvs, Rd H a (.dK kvs)) ∨ ∃ kvs, Rd H a (.dT kvs)
theorem isD_at {X : Cx} {pins : List (Addr × Obj)} {σ : St} {H : Hp} {s : Shared} {a : Addr} (I : Inv X pins σ H s) (d : IsD H a) :
    s.TypeIs (.ref a) "dict" ∧ (∀ b, Value.ref a = .ref b → ∃ ob, s.heap.get? b = some ob ∧ ob.dict = none) ∧ (a == sysModules) = false := by
  rcases d with ⟨kvs, e⟩ | ⟨kvs, e⟩
  · obtain ⟨_, hd, vs, _, dd⟩ := dk_rd I.hok e
    refine ⟨dd.typeIs, fun b q => ?_, hd⟩
    cases q
    obtain ⟨ob, _, _, h1, h2, _⟩ := dd
    exact ⟨ob, h1, h2.2.1⟩
  · obtain ⟨_, hd, xs, _, dd⟩ := dt_rd I.hok e
    refine ⟨dd.typeIs, fun b q => ?_, hd⟩
    cases q
    obtain ⟨ob, _, _, h1, h2, _⟩ := dd
    exact ⟨ob, h1, h2.2.1⟩

section
variable {X : Cx} {pins : List (Addr × Obj)} {σ : St} {H : Hp} {s : Shared} {a : Addr} {y d : V} {u r : Value} {o : Option V} {A : Around} {E : Value → Shared → Prop}
/-- d.get(y, x) -/
theorem d_get2 {Q : Value → Shared → Prop} (hu : A.units + 1 < cLine) (I : Inv X pins σ H s) (g : DGet H a y o) (ry : RelV y u) (rd : RelV d r) (h : ∀ w' s', Inv X pins σ H s' → RelV (o.getD d) w' → Q w' s') :
    wpAny (model X.prog X.w) A (call (.builtin "dict.get") [.ref a, u, r]) Q E s := by
  rcases g with ⟨kvs, k, e, ey, l⟩ | ⟨kvs, k, b, e, ey, eb, l⟩
  · subst ey
    obtain ⟨z, hd, vs, rel, dd⟩ := dk_rd I.hok e
    refine call_meetsIn PySem.F.slot_dict_get dd.typeIs PySem.F.entry_dict_get (PySem.F.args_dict_get_3 _ _ _) (meets_dict_get_default (mixKind X.prog X.w) a (kV_is ry) hd r) ⟨_, dd.mapOf, h _ _ (I.tok _) ?_⟩
    rw [l]
    exact (rel.val k).getD rd
  · subst ey
    cases (show u = Value.ref b from ry)
    obtain ⟨z, hd, xs, rel, dd⟩ := dt_rd I.hok e
    refine call_meetsIn PySem.F.slot_dict_get dd.typeIs PySem.F.entry_dict_get (PySem.F.args_dict_get_3 _ _ _) (meetsH_dict_get_default (tupleKind (mixKind X.prog X.w)) a b hd r) ⟨tupleKind_room_in1 hu, k, xs, key_of I.hok eb, dd, h _ _ (I.tok _) ?_⟩
    rw [l]
    exact (rel.val k).getD rd
end

def tDGet1 (td ty : TE) : TE := fun σ H Q => td σ H fun x H1 => ∃ a, x = .ref a ∧ IsD H1 a ∧ ty σ H1 fun y H2 => ∃ o, DGet H2 a y o ∧ Q (o.getD .non) H2
def tDGet2 (td ty tx : TE) : TE := fun σ H Q => td σ H fun x H1 => ∃ a, x = .ref a ∧ IsD H1 a ∧ ty σ H1 fun y H2 => tx σ H2 fun z H3 => ∃ o, DGet H3 a y o ∧ Q (o.getD z) H3
/-- d.pop(k): there; d.pop(k, x): there or not -/
def tDPop1 (td ty : TE) : TE := fun σ H Q => td σ H fun x H1 => ∃ a, x = .ref a ∧ IsD H1 a ∧ ty σ H1 fun y H2 => ∃ kvs k v, H2 a = some (.dK kvs) ∧ y = kV k ∧ valV kvs k = some v ∧ Q v (upd H2 a (.dK (dropK kvs k)))
def tDPop2 (td ty tx : TE) : TE := fun σ H Q => td σ H fun x H1 => ∃ a, x = .ref a ∧ IsD H1 a ∧ ty σ H1 fun y H2 => tx σ H2 fun z H3 => ∃ kvs k, H3 a = some (.dK kvs) ∧ y = kV k ∧
  (∀ v, valV kvs k = some v → Q v (upd H3 a (.dK (dropK kvs k)))) ∧ (valV kvs k = none → Q z H3)
section
variable {X : Cx} {o e f : Expr} {apos cpos : Pos} {td ty tx : TE}
theorem pe_dget2 (hu : X.A.units + 1 < cLine) (ho : PE X o td) (he : PE X e ty) (hf : PE X f tx) (m : M2 X o "get" apos e f cpos) : PE X (.Call (.Attribute o "get" apos) [e, f] [] cpos) (tDGet2 td ty tx) := by
  intro pins s σ H Q I h
  refine wpAny_Call_method m.base m.few m.line PySem.F.plainAttrs_dict PySem.F.slot_dict_get PySem.F.type_dict_get (thn (ho pins s σ H _ I h) fun u s1 ⟨x, H1, I1, rx, a, ex, d, q1⟩ => ?_)
  subst ex
  obtain rfl : u = Value.ref a := rx
  obtain ⟨t1, t2, _⟩ := isD_at I1 d
  refine ⟨t1, t2, ?_⟩
  rw [m.trees]
  refine Calls.callWith_builtin rfl (Calls.evalArgs_plain (Calls.spliced_cons (thn (he pins s1 σ H1 _ I1 q1) fun iv s2 ⟨y, H2, I2, ry, q2⟩ =>
    Calls.spliced_cons (thn (hf pins s2 σ H2 _ I2 q2) fun fv s3 ⟨z, H3, I3, rz, ov, g, q3⟩ => Calls.spliced_nil ?_))))
  exact d_get2 hu I3 g ry rz fun w' s4 I4 rw' => ⟨_, H3, I4, rw', q3⟩
end

/-! ### dict(d): a copy -/
section
variable {X : Cx} {pins : List (Addr × Obj)} {σ : St} {H : Hp} {s : Shared} {a : Addr} {kvs : List (Key × V)} {A : Around} {E : Value → Shared → Prop}
end


section
variable {X : Cx} {pins : List (Addr × Obj)} {σ : St} {H : Hp} {s : Shared} {a : Addr} {y : V} {u : Value} {A : Around} {E : Value → Shared → Prop}
end
end L2

namespace HT
open PySem PyProof.Rows

/-- t < u of tuples of ints -/
def lexLt : List Int → List Int → Bool
  | [], [] => false
  | [], _ :: _ => true
  | _ :: _, [] => false
  | x :: xs, y :: ys => if x = y then lexLt xs ys else decide (x < y)

theorem rcLt_int (A : Around) (s : Shared) (a : Int) (t : Tok) (c : Int) (u : Tok) (prog : Program) (w : World) (E : Value → Shared → Prop) (Q : Value → Shared → Prop) (h : Q (.bool (decide (a < c))) s) :
    wpAny (model prog w) A (richCompare .Lt (.int a t) (.int c u)) Q E s :=
  (PyProof.Rows.lt_int h : wpAny (model prog w) A (compareOp .Lt (.int a t) (.int c u)) Q E s)

section
open PySem.SeqAt
open PySem.AutoSeq1 (wpAny_loadPart')
open PySem.MeetsSeq PySem.MeetsSeq2 PySem.MeetsSeq3

end

section
variable {prog : Program} {w : World} {A : Around} {E : Value → Shared → Prop} {s : Shared}


/-- t + u, t not empty -/
theorem cat_tup {t b : Addr} {vs ws : List Value} {Q : Value → Shared → Prop} (ht : IsTup s.heap t vs.toArray) (hb : IsTup s.heap b ws.toArray) (hv : vs ≠ [])
    (h1 : ws = [] → Q (.ref t) s) (h2 : ws ≠ [] → Q (.ref s.heap.objs.size) { s with heap := s.heap.push { cls := .type "tuple", data := .seq (vs ++ ws).toArray } })
    (hsz : vs.length + ws.length ≤ sizeLine) : wpAny (model prog w) A (binaryOp .Add (.ref t) (.ref b)) Q E s := by
  obtain ⟨⟨cls, dd, data, sl⟩, ho, hc, n, hd⟩ := id ht
  obtain ⟨⟨cls2, dd2, data2, sl2⟩, ho2, hc2, n2, hd2⟩ := id hb
  simp only at hc hd hc2 hd2
  subst hc hd hc2 hd2
  have e : vs.toArray ++ ws.toArray = (vs ++ ws).toArray := by simp
  by_cases hw : ws = []
  · exact concat_meets ⟨_, ho, rfl⟩ ⟨_, ho2, rfl⟩ noFill_tuple_add seq_tuple_add PySem.F.slot_tuple_add PySem.F.entry_tuple_add (PySem.F.args_tuple_add_2 _ _)
      (tuple_addW1 t b vs.toArray ws.toArray n n2 dd dd2 sl sl2 (by simpa using hv) (by simp [hw])) ⟨ho, ho2, h1 hw⟩
  · refine concat_meets ⟨_, ho, rfl⟩ ⟨_, ho2, rfl⟩ noFill_tuple_add seq_tuple_add PySem.F.slot_tuple_add PySem.F.entry_tuple_add (PySem.F.args_tuple_add_2 _ _)
      (tuple_addW2 t b vs.toArray ws.toArray n n2 dd dd2 sl sl2 (by simpa using hv) (by simpa using hw) (by rw [List.size_toArray, List.size_toArray]; exact hsz)) ⟨ho, ho2, ?_⟩
    rw [e]
    exact h2 hw

/-! ### t[a:b], not the whole -/
/-- a slice's bound as a place among n (d where it is left out) -/
def sIx (n d : Nat) : Option Int → Nat
  | none => d
  | some v => if v < 0 then (v + (n : Int)).toNat else min v.toNat n
theorem sIx_le (n d : Nat) (hd : d ≤ n) (o : Option Int) : sIx n d o ≤ n := by
  cases o with
  | none => exact hd
  | some v =>
    show (if v < 0 then (v + (n : Int)).toNat else min v.toNat n) ≤ n
    by_cases hv : v < 0
    · rw [if_pos hv]; omega
    · rw [if_neg hv]; exact Nat.min_le_right _ _
theorem clip_eq (v : Int) (n d : Nat) : (if v < 0 then max (v + (n : Int)) 0 else min v (n : Int)) = ((sIx n d (some v) : Nat) : Int) := by
  show (if v < 0 then max (v + (n : Int)) 0 else min v (n : Int)) = (((if v < 0 then (v + (n : Int)).toNat else min v.toNat n) : Nat) : Int)
  by_cases hv : v < 0
  · simp only [if_pos hv]; omega
  · simp only [if_neg hv]; omega
theorem adjust_gen (lo hi : Option Int) (n : Nat) : Builtin.Slice.sliceAdjust lo hi 1 (n : Int) = (((sIx n 0 lo : Nat) : Int), ((sIx n n hi : Nat) : Int)) := by
  have h1 : ¬ ((1 : Int) < 0) := by omega
  unfold Builtin.Slice.sliceAdjust
  simp only [h1, if_false]
  refine Prod.ext ?_ ?_
  · cases lo with
    | none => rfl
    | some v => exact clip_eq v n 0
  · cases hi with
    | none => rfl
    | some v => exact clip_eq v n n
theorem places_gen (i j : Nat) : Builtin.Slice.slicePlaces (i : Int) (j : Int) 1 = j - i := by
  unfold Builtin.Slice.slicePlaces
  have h1 : (1 : Int) > 0 := by omega
  simp only [h1, if_true, Int.ediv_one]
  split <;> omega
theorem slicePart_ {v : Value} {o : Option Int} {Q : Option Int → Shared → Prop} (p : IsPart v o) (h : Q o s) : wpAny (model prog w) A (Builtin.Slice.slicePartIndex v) Q E s := by
  cases p with
  | none => exact slicePart_none h
  | int i t => exact slicePart_int h
theorem sliceApplied_gen {sl : Addr} {vl vu : Value} {lo hi : Option Int} {n : Nat} {Q : Int × Int × Nat → Shared → Prop} (hs : s.heap.IsSliceOf sl vl vu .none) (pl : IsPart vl lo) (pu : IsPart vu hi)
    (h : Q (((sIx n 0 lo : Nat) : Int), 1, sIx n n hi - sIx n 0 lo) s) : wpAny (model prog w) A (Builtin.Slice.sliceApplied (.ref sl) (pure (n : Int))) Q E s := by
  obtain ⟨os, hos, hcs, hds⟩ := id hs
  unfold Builtin.Slice.sliceApplied Builtin.Slice.sliceFields
  refine wpAny_bind (wpAny_bind (wpAny_field hos hds (x := vl) rfl (wpAny_bind (wpAny_field hos hds (x := vu) rfl (wpAny_bind (wpAny_field hos hds (x := .none) rfl (wpAny_pure ?_)))))))
  refine wpAny_bind (slicePart_none ?_)
  show wpAny _ _ (if ((1 : Int) == 0) = true then _ else _) _ _ s
  rw [if_neg (by decide)]
  refine wpAny_bind (slicePart_ pl (wpAny_bind (slicePart_ pu (wpAny_bind (wpAny_pure ?_)))))
  show wpAny _ _ (match Builtin.Slice.sliceAdjust lo hi 1 (n : Int) with | (lo, hi) => pure (lo, (1 : Int), Builtin.Slice.slicePlaces lo hi 1)) _ _ s
  rw [adjust_gen lo hi n]
  show wpAny _ _ (pure (((sIx n 0 lo : Nat) : Int), (1 : Int), Builtin.Slice.slicePlaces ((sIx n 0 lo : Nat) : Int) ((sIx n n hi : Nat) : Int) 1)) _ _ s
  rw [places_gen]
  exact wpAny_pure h
theorem pick_gen (xs : Array Value) (i k : Nat) : ((List.range k).filterMap fun (m : Nat) => xs[((i : Int) + (m : Int) * 1).toNat]?).toArray = ((xs.toList.drop i).take k).toArray := by
  have e : (fun (m : Nat) => xs[((i : Int) + (m : Int) * 1).toNat]?) = fun m => xs[i + m]? := by
    funext m
    have : ((i : Int) + (m : Int) * 1).toNat = i + m := by omega
    rw [this]
  rw [e]
  have := pick_run xs i k
  rw [List.filterMap_map] at this
  have e2 : ((fun x => xs[x]?) ∘ fun x => i + x) = fun m => xs[i + m]? := rfl
  rw [e2] at this
  rw [this]

theorem getItem_tuple_cut {t sl : Addr} {items : Array Value} {vl vu : Value} {lo hi : Option Int} {Q : Value → Shared → Prop} (ht : IsTup s.heap t items) (hs : s.heap.IsSliceOf sl vl vu .none) (pl : IsPart vl lo) (pu : IsPart vu hi)
    (hw : ¬ (sIx items.size 0 lo = 0 ∧ sIx items.size items.size hi = items.size))
    (h : Q (.ref s.heap.objs.size) { s with heap := s.heap.push { cls := .type "tuple", data := .seq ((items.toList.drop (sIx items.size 0 lo)).take (sIx items.size items.size hi - sIx items.size 0 lo)).toArray } })
    (hsz : items.size ≤ sizeLine) : wpAny (model prog w) A (getItem (.ref t) (.ref sl)) Q E s := by
  have htake : sizeOk (.seq ((items.toList.drop (sIx items.size 0 lo)).take (sIx items.size items.size hi - sIx items.size 0 lo)).toArray) := by
    show ((items.toList.drop (sIx items.size 0 lo)).take (sIx items.size items.size hi - sIx items.size 0 lo)).toArray.size ≤ sizeLine
    rw [List.size_toArray, List.length_take, List.length_drop, Array.length_toList]
    omega
  have hj : sIx items.size items.size hi ≤ items.size := sIx_le _ _ (Nat.le_refl _) hi
  obtain ⟨os, hos, hcs, hds⟩ := id hs
  have hTs : s.TypeIs (.ref sl) "slice" := ⟨os, hos, hcs⟩
  unfold getItem
  try with_reducible refine wpAny_holding ?_
  first | refine wpAny_bind (wpAny_pure ?_) | skip
  refine wpAny_bind (wpAny_sequenceKey ht.typeIs (by decide) ?_)
  refine wpAny_bind (wpAny_callSpecial?_slot (name := Str.ofString "__getitem__") ht.typeIs PyProof.Rows.slot_tuple_getitem
    (wpAny_call_entry PyProof.Rows.slot_tuple_getitem ht.typeIs entry_tuple_getitem ?_ (args_tuple_getitem _ _)))
  show wpAny _ _ (Builtin.Tuple.tupleItemsOf (.ref t) >>= _) _ _ s
  refine wpAny_bind (tupleItemsOf_ ht ?_)
  refine wpAny_bind (wpAny_typeOf hTs ?_)
  rw [if_pos (by decide)]
  refine wpAny_bind (sliceApplied_gen hs pl pu ?_)
  have hno : ¬ ((((sIx items.size 0 lo : Nat) : Int) == 0 && (1 : Int) == 1 && (sIx items.size items.size hi - sIx items.size 0 lo) == items.size) = true) := by
    intro q
    rw [Bool.and_eq_true, Bool.and_eq_true] at q
    have q1 : ((sIx items.size 0 lo : Nat) : Int) = 0 := eq_of_beq q.1.1
    have q2 : sIx items.size items.size hi - sIx items.size 0 lo = items.size := eq_of_beq q.2
    exact hw ⟨by omega, by omega⟩
  show wpAny _ _ (if (((sIx items.size 0 lo : Nat) : Int) == 0 && (1 : Int) == 1 && (sIx items.size items.size hi - sIx items.size 0 lo) == items.size) = true then _ else _) _ _ s
  rw [if_neg hno, pick_gen]
  first
    | exact wpAny_bind (m := Builtin.Tuple.tupleExact _) (wpAny_newObj_type (wpAny_pure ⟨_, rfl, wpAny_pure h⟩) htake)
    | exact wpAny_bind (m := Builtin.Tuple.tupleExact _) (wpAny_newObj_type (wpAny_bind (wpAny_pure (wpAny_pure ⟨_, rfl, wpAny_pure h⟩))) htake)
    | exact wpAny_bind (wpAny_bind (m := Builtin.Tuple.tupleExact _) (wpAny_newObj_type (wpAny_pure (wpAny_pure ⟨_, rfl, wpAny_pure h⟩)) htake))
    | exact wpAny_bind (wpAny_bind (m := Builtin.Tuple.tupleExact _) (wpAny_newObj_type (wpAny_pure ⟨_, rfl, wpAny_pure h⟩) htake))
end
end HT

namespace L2
open PySem PySem.Spec PyProof.Rows

/-! ### the parts of a slice -/
abbrev TO := St → Hp → (Option Int → Hp → Prop) → Prop
/-- a slice's part (left out, or an int) -/
def PO (X : Cx) (e : Option Expr) (t : TO) : Prop :=
  ∀ (pins : List (Addr × Obj)) (s : Shared) (σ : St) (H : Hp) (Q : Option Int → Hp → Prop), Inv X pins σ H s → t σ H Q →
    wpAny (model X.prog X.w) X.A (evalPart e X.env) (fun u s' => ∃ o H', Inv X pins σ H' s' ∧ IsPart u o ∧ Q o H') X.xe s
def tNoPart : TO := fun _ H Q => Q none H
def tPart (t : TE) : TO := fun σ H Q => t σ H fun x H1 => ∃ i, x = .int i ∧ Q (some i) H1


section
variable {X : Cx} {e : Expr} {te : TE} {lo hi : Option Expr} {tl th : TO} {pos p2 : Pos}

theorem po_none : PO X none tNoPart := by
  intro pins s σ H Q I h
  rw [evalPart_none]
  exact wpAny_pure ⟨none, H, I, .none, h⟩
theorem po_some (h : PE X e te) : PO X (some e) (tPart te) := by
  intro pins s σ H Q I hw
  rw [evalPart_some]
  refine thn (h pins s σ H _ I hw) fun u s1 ⟨x, H1, I1, r1, q1⟩ => ?_
  obtain ⟨i, rfl, q⟩ := q1
  obtain ⟨t, rfl⟩ := r1
  exact ⟨some i, H1, I1, .int i t, q⟩

/-- what a slice of a value is, by values: the slice object stands at sl -/
def SlR (X : Cx) (r : V → Option Int → Option Int → Hp → VK → Prop) : Prop :=
  ∀ (pins : List (Addr × Obj)) (s : Shared) (σ : St) (H : Hp) (x : V) (v vl vu : Value) (lo hi : Option Int) (sl : Addr) (Q : VK), Inv X pins σ H s → RelV x v → s.heap.IsSliceOf sl vl vu .none → IsPart vl lo → IsPart vu hi → r x lo hi H Q →
    ∃ T id, typeLookup (.type T) "__getitem__" = pure (some (.builtin id)) ∧ s.TypeIs v T ∧ wpAny (model X.prog X.w) X.A (getItem v (.ref sl)) (EP X pins σ Q) X.xe s
theorem SlR.or {r r' : V → Option Int → Option Int → Hp → VK → Prop} (h : SlR X r) (h' : SlR X r') : SlR X (fun x lo hi H Q => r x lo hi H Q ∨ r' x lo hi H Q) := by
  intro pins s σ H x v vl vu lo hi sl Q I rx hs pl pu q
  rcases q with q | q
  · exact h pins s σ H x v vl vu lo hi sl Q I rx hs pl pu q
  · exact h' pins s σ H x v vl vu lo hi sl Q I rx hs pl pu q
def tSl (r : V → Option Int → Option Int → Hp → VK → Prop) (te : TE) (tl th : TO) : TE := fun σ H Q => te σ H fun x H1 => tl σ H1 fun l H2 => th σ H2 fun u H3 => r x l u H3 Q
/-- a[lo:hi], any a -/
theorem pe_slice {r : V → Option Int → Option Int → Hp → VK → Prop} (hr : SlR X r) (he : PE X e te) (hl : PO X lo tl) (hu : PO X hi th) : PE X (.Subscript e (.Slice lo hi none p2) pos) (tSl r te tl th) := by
  intro pins s σ H Q I h
  refine Subscript_ (thn (he pins s σ H _ I h) fun v s1 ⟨x, H1, I1, r1, q1⟩ => ?_)
  refine wpAny_Slice (thn (hl pins s1 σ H1 _ I1 q1) fun vl s2 ⟨l, H2, I2, pl, q2⟩ => thn (hu pins s2 σ H2 _ I2 q2) fun vu s3 ⟨u, H3, I3, pu, q3⟩ => ?_)
  rw [evalPart_none]
  refine wpAny_pure ?_
  have I4 : Inv X pins σ H3 { s3 with heap := s3.heap.push { cls := .type "slice", data := .fields #[vl, vu, .none] } } := I3.kept (t' := s3.toks) fun b ob q => Heap.get?_push_of_some _ q
  obtain ⟨T, id, hT, ht, hg⟩ := hr pins { s3 with heap := s3.heap.push { cls := .type "slice", data := .fields #[vl, vu, .none] } } σ H3 x v vl vu l u s3.heap.objs.size Q I4 r1 (Heap.IsSliceOf.new ..) pl pu q3
  show wpAny (model X.prog X.w) X.A (subscriptTail e (.Slice lo hi none p2) v (.ref s3.heap.objs.size)) (EP X pins σ Q) X.xe { s3 with heap := s3.heap.push { cls := .type "slice", data := .fields #[vl, vu, .none] } }
  exact tail_any (ops := [.ref s3.heap.objs.size, v]) ht hT hg (by with_unfolding_all rfl)

/-- the items of xs[lo:hi] -/
def cutV (xs : List V) (lo hi : Option Int) : List V := (xs.drop (HT.sIx xs.length 0 lo)).take (HT.sIx xs.length xs.length hi - HT.sIx xs.length 0 lo)
theorem cutV_length (xs : List V) (lo hi : Option Int) : (cutV xs lo hi).length ≤ xs.length := by
  unfold cutV
  rw [List.length_take, List.length_drop]
  omega
/-- t[lo:hi], not the whole of it (the whole would be t itself) -/
def rSlT (K : PySem.W.Frag) : V → Option Int → Option Int → Hp → VK → Prop := fun x lo hi H Q => ∃ a xs, x = .ref a ∧ SqT K H a xs ∧
  ¬ (HT.sIx xs.length 0 lo = 0 ∧ HT.sIx xs.length xs.length hi = xs.length) ∧ ∀ p, H p = none → Q (.ref p) (upd H p (.tup (cutV xs lo hi)))
theorem sl_tup : SlR X (rSlT X.K) := by
  intro pins s σ H x v vl vu lo hi sl Q I rx hs pl pu h
  obtain ⟨a, xs, rfl, hx, hw, q⟩ := h
  cases rx
  obtain ⟨its, r, ht, hz⟩ := I.tuple hx
  have hlen : its.toArray.size = xs.length := by rw [List.size_toArray]; exact r.length.symm
  refine ⟨"tuple", _, PyProof.Rows.slot_tuple_getitem.lookup, ht.typeIs, ?_⟩
  refine HT.getItem_tuple_cut ht hs pl pu (by rw [hlen]; exact hw) ?_ (by rw [hlen]; exact hz)
  rw [hlen]
  refine ⟨.ref s.heap.objs.size, _, I.laid (t' := s.toks) (o := .tup (cutV xs lo hi)) (fun b ob q => Heap.get?_push_of_some _ q) (Nat.le_refl _) ?_, rfl, q _ (I.hok.fresh (Nat.le_refl _))⟩
  exact ⟨tupD_new (Nat.le_trans (cutV_length xs lo hi) hz), _, (r.drop (HT.sIx xs.length 0 lo)).take (HT.sIx xs.length xs.length hi - HT.sIx xs.length 0 lo), IsTup.new _ _⟩

/-! ### t < u, t + u -/
def rLtT (K : PySem.W.Frag) : R2 := fun x y H Q => ∃ a b ns ms, x = .ref a ∧ y = .ref b ∧ SqT K H a (ns.map V.int) ∧ SqT K H b (ms.map V.int) ∧ Q (.bl (HT.lexLt ns ms)) H
/-- t + u, t not empty: u empty gives t itself -/
def rCatT (K : PySem.W.Frag) : R2 := fun x y H Q => ∃ a b xs ys, x = .ref a ∧ y = .ref b ∧ SqT K H a xs ∧ SqT K H b ys ∧ xs ≠ [] ∧ xs.length + ys.length ≤ sizeLine ∧
  (ys = [] → Q (.ref a) H) ∧ (ys ≠ [] → ∀ p, H p = none → Q (.ref p) (upd H p (.tup (xs ++ ys))))
theorem Vals.nil_iff {xs : List V} {us : List Value} (r : Vals xs us) : us = [] ↔ xs = [] := by
  cases r with
  | nil => simp
  | cons _ _ => simp
theorem op_catT : OpR X (binaryOp .Add) (rCatT X.K) := by
  intro pins s σ H x y v u Q I rx ry h
  obtain ⟨a, b, xs, ys, rfl, rfl, ha, hb, hx, hz, q1, q2⟩ := h
  cases rx
  cases ry
  obtain ⟨its, r1, p1, _⟩ := I.tuple ha
  obtain ⟨its2, r2, p2, _⟩ := I.tuple hb
  refine HT.cat_tup p1 p2 (fun z => hx (r1.nil_iff.mp z)) (fun z => ⟨.ref a, H, I, rfl, q1 (r2.nil_iff.mp z)⟩) (fun z => ?_) (by rw [← r1.length, ← r2.length]; exact hz)
  refine ⟨.ref s.heap.objs.size, _, I.laid (t' := s.toks) (o := .tup (xs ++ ys)) (fun b ob q => Heap.get?_push_of_some _ q) (Nat.le_refl _) ?_, rfl, q2 (fun w => z (r2.nil_iff.mpr w)) _ (I.hok.fresh (Nat.le_refl _))⟩
  exact ⟨tupD_new (by rw [List.length_append]; exact hz), _, r1.append r2, IsTup.new _ _⟩
end
end L2

namespace L2
open PySem PySem.Spec PyProof.Rows

/-! ### places -/
/-- the place that an index of any sign means -/
def ixN (n : Nat) (i : Int) : Option Nat := if 0 ≤ i then (if i < n then some i.toNat else none) else if -(n : Int) ≤ i then some (i + n).toNat else none
def atI {α : Type} (xs : List α) (i : Int) : Option α := (ixN xs.length i).bind fun j => xs[j]?
theorem ixN_seq {n : Nat} {i : Int} {j : Nat} (h : ixN n i = some j) : seqIndex? i n = some j ∧ j < n ∧ -(n : Int) ≤ i ∧ i < n := by
  unfold ixN at h
  by_cases h0 : 0 ≤ i
  · rw [if_pos h0] at h
    by_cases h1 : i < n
    · rw [if_pos h1] at h
      have e : i.toNat = j := Option.some.inj h
      exact ⟨by rw [seqIndex_of h0 h1, e], by omega, by omega, h1⟩
    · rw [if_neg h1] at h; cases h
  · rw [if_neg h0] at h
    by_cases h1 : -(n : Int) ≤ i
    · rw [if_pos h1] at h
      have e : (i + n).toNat = j := Option.some.inj h
      exact ⟨by rw [seqIndex_neg (by omega) h1, e], by omega, h1, by omega⟩
    · rw [if_neg h1] at h; cases h
theorem atI_get {α : Type} {xs : List α} {i : Int} {v : α} (h : atI xs i = some v) : ∃ j, seqIndex? i xs.length = some j ∧ xs[j]? = some v ∧ j < xs.length ∧ -(xs.length : Int) ≤ i ∧ i < xs.length := by
  unfold atI at h
  cases e : ixN xs.length i with
  | none => rw [e] at h; cases h
  | some j =>
    rw [e] at h
    obtain ⟨h1, h2, h3, h4⟩ := ixN_seq e
    exact ⟨j, h1, h, h2, h3, h4⟩
theorem atI_nat {α : Type} {xs : List α} {j : Nat} {v : α} (h : xs[j]? = some v) : atI xs (j : Int) = some v := by
  have hj : j < xs.length := (List.getElem?_eq_some_iff.mp h).1
  have e : ixN xs.length (j : Int) = some j := by
    unfold ixN
    rw [if_pos (by omega), if_pos (by omega)]; simp
  unfold atI; rw [e]; exact h

/-! ### what may be subscripted -/
/-- what stands as an index of a plain subscript -/
def PlainIx (b : Expr) : Prop := ∀ o i, subscripted b false o i = operate [o, i] (getItem o i)
/-- a subscript by values -/
def IxR (X : Cx) (r : R2) : Prop :=
  ∀ (value slice : Expr) (pins : List (Addr × Obj)) (s : Shared) (σ : St) (H : Hp) (x y : V) (v u : Value) (Q : VK), Inv X pins σ H s → RelV x v → RelV y u → r x y H Q →
    subscripted slice false v u = operate [v, u] (getItem v u) → wpAny (model X.prog X.w) X.A (subscriptTail value slice v u) (EP X pins σ Q) X.xe s
/-- a call of a builtin's method by values: the receiver, the arguments -/
def MtR (X : Cx) (id : String) (r : V → List V → Hp → VK → Prop) : Prop :=
  ∀ (pins : List (Addr × Obj)) (s : Shared) (σ : St) (H : Hp) (x : V) (xs : List V) (v : Value) (us : List Value) (Q : VK), Inv X pins σ H s → RelV x v → Vals xs us → r x xs H Q →
    wpAny (model X.prog X.w) X.A (call (.builtin id) (v :: us)) (EP X pins σ Q) X.xe s
section
variable {X : Cx} {a b : Expr} {ta tb : TE} {pos : Pos}
theorem IxR.or {r r' : R2} (h : IxR X r) (h' : IxR X r') : IxR X (fun x y H Q => r x y H Q ∨ r' x y H Q) := by
  intro value slice pins s σ H x y v u Q I rx ry q hs
  rcases q with q | q
  · exact h value slice pins s σ H x y v u Q I rx ry q hs
  · exact h' value slice pins s σ H x y v u Q I rx ry q hs
theorem MtR.or {id : String} {r r' : V → List V → Hp → VK → Prop} (h : MtR X id r) (h' : MtR X id r') : MtR X id (fun x xs H Q => r x xs H Q ∨ r' x xs H Q) := by
  intro pins s σ H x xs v us Q I rx rs q
  rcases q with q | q
  · exact h pins s σ H x xs v us Q I rx rs q
  · exact h' pins s σ H x xs v us Q I rx rs q
/-- a[b] -/
theorem pe_ix {r : R2} (hr : IxR X r) (ha : PE X a ta) (hb : PE X b tb) (hs : PlainIx b) : PE X (.Subscript a b pos) (tOp r ta tb) := by
  intro pins s σ H Q I h
  exact Subscript_ (binT ha hb I h fun v u s2 x y H2 I2 rx ry q => hr a b pins s2 σ H2 x y v u Q I2 rx ry q (hs _ _))

def rIxL (K : PySem.W.Frag) : R2 := fun x y H Q => ∃ p xs i v, x = .ref p ∧ y = .int i ∧ SqL K H p xs ∧ atI xs i = some v ∧ Q v H
def rIxT (K : PySem.W.Frag) : R2 := fun x y H Q => ∃ p xs i v, x = .ref p ∧ y = .int i ∧ SqT K H p xs ∧ atI xs i = some v ∧ Q v H
def rIxS : R2 := fun x y H Q => ∃ z i c, x = .str z ∧ y = .int i ∧ z.length ≤ sizeLine ∧ atI z.cps.toList i = some c ∧ Q (.str ⟨#[c]⟩) H
theorem ix_list : IxR X (rIxL X.K) := by
  intro value slice pins s σ H x y v u Q I rx ry h hs
  obtain ⟨p, xs, i, z, rfl, rfl, hq, he, q⟩ := h
  cases rx
  obtain ⟨t, rfl⟩ := ry
  obtain ⟨its, r, pl, hz⟩ := I.list hq
  obtain ⟨j, h1, h2, h3, h4, h5⟩ := atI_get he
  obtain ⟨w, ew, rw'⟩ := r.get h2
  have hl := r.length
  have hn := line63
  have fin : EP X pins σ Q w s := ⟨z, H, I, rw', q⟩
  by_cases h0 : 0 ≤ i
  · have hj : i.toNat = j := by
      rw [seqIndex_of h0 h5] at h1
      exact Option.some.inj h1
    exact item_listR pl.isList h0 (by omega) (by rw [hj]; simpa using ew) fin hs
  · have hj : (i + (its.toArray.size : Int)).toNat = j := by
      rw [seqIndex_neg (by omega) h4] at h1
      rw [List.size_toArray, ← hl]
      exact Option.some.inj h1
    exact subscriptTail_builtinR (x := w) pl.isList.typeIs slot_list_getitem.lookup
      (wpAny_getItem_list_neg (Q := fun r s' => r = w ∧ EP X pins σ Q r s') pl.isList (by omega) (by rw [List.size_toArray] <;> omega) (by omega) (by rw [hj]; simpa using ew) ⟨rfl, fin⟩) hs
theorem ix_tup : IxR X (rIxT X.K) := by
  intro value slice pins s σ H x y v u Q I rx ry h hs
  obtain ⟨p, xs, i, z, rfl, rfl, hq, he, q⟩ := h
  cases rx
  obtain ⟨t, rfl⟩ := ry
  obtain ⟨its, r, pl, hz⟩ := I.tuple hq
  obtain ⟨j, h1, h2, h3, h4, h5⟩ := atI_get he
  obtain ⟨w, ew, rw'⟩ := r.get h2
  have hl := r.length
  have hn := line63
  have fin : EP X pins σ Q w s := ⟨z, H, I, rw', q⟩
  exact subscriptTail_builtinR (x := w) pl.typeIs slot_tuple_getitem.lookup
    (getItem_tuple (j := j) (Q := fun r s' => r = w ∧ EP X pins σ Q r s') pl (by omega) (by omega) (by rw [List.size_toArray, ← hl]; exact h1) (by simpa using ew) ⟨rfl, fin⟩) hs
theorem ix_str : IxR X rIxS := by
  intro value slice pins s σ H x y v u Q I rx ry h hs
  obtain ⟨z, i, c, rfl, rfl, hz, he, q⟩ := h
  obtain ⟨t, rfl⟩ := rx
  obtain ⟨t', rfl⟩ := ry
  obtain ⟨j, h1, h2, h3, h4, h5⟩ := atI_get he
  have hl : z.cps.toList.length = z.length := by simp [Str.length]
  rw [hl] at h1 h4 h5
  have hn := line63
  exact tail_any (typeIs_str s z t) slot_str_getitem.lookup (getItem_str (c := c) (by
    have e1 : decide (i < -(2 ^ 63 : Int)) = false := decide_eq_false (by omega)
    have e2 : decide (i ≥ 2 ^ 63) = false := decide_eq_false (by omega)
    rw [e1, e2, Bool.or_false]) (by rw [h1]; simpa using h2) ⟨.str ⟨#[c]⟩, H, I.tok _, ⟨_, rfl⟩, q⟩) hs
/-- list, tuple or str -/
def rIx (K : PySem.W.Frag) : R2 := fun x y H Q => rIxL K x y H Q ∨ rIxT K x y H Q ∨ rIxS x y H Q

/-! ### xs[i] = v, any sign -/
/-- the list's object behind a store -/
theorem mapSeq_set (its : List Value) (n j : Nat) (u : Value) : Obj.mapSeq (·.setIfInBounds j u) { cls := .type "list", data := .seq its.toArray n } = { cls := .type "list", data := .seq (its.set j u).toArray n } := by
  simp [Obj.mapSeq]
theorem Inv.lst {pins : List (Addr × Obj)} {σ : St} {H : Hp} {s : Shared} {p : Addr} {xs : List V} (I : Inv X pins σ H s) (h : H p = some (.lst xs)) :
    ∃ (its : List Value) (n : Nat), Vals xs its ∧ s.heap.get? p = some { cls := .type "list", data := .seq its.toArray n } ∧ xs.length ≤ sizeLine := by
  obtain ⟨z, its, n, r, e⟩ := I.hok p _ h
  exact ⟨its, n, r, e, z⟩
/-- the list at p is written by an update of its object -/
theorem Inv.lstUpd {pins : List (Addr × Obj)} {σ : St} {H : Hp} {s : Shared} {p : Addr} {xs ys : List V} {its its' : List Value} {n n' : Nat} {f : Obj → Obj} (I : Inv X pins σ H s) (h : H p = some (.lst xs))
    (ho : s.heap.get? p = some { cls := .type "list", data := .seq its.toArray n }) (hf : f { cls := .type "list", data := .seq its.toArray n } = { cls := .type "list", data := .seq its'.toArray n' }) (r : Vals ys its') (hz : ys.length ≤ sizeLine) (t : Nat) :
    Inv X pins σ (upd H p (.lst ys)) { s with heap := s.heap.update p f, toks := t } := by
  have e : (s.heap.update p f).get? p = some { cls := .type "list", data := .seq its'.toArray n' } := by
    rw [Heap.get?_update_self f ho (by rw [hf] <;> rfl), hf]
  refine I.write (x := p) (e := p) (by rw [h]; trivial) (.inl rfl) (fun b u hb q => (Heap.get?_update_other _ _ (Ne.symm hb)).trans q) ⟨_, e⟩ ?_
  exact ⟨hz, its', n', r, e⟩
def rSetL : V → V → V → Hp → (Hp → Prop) → Prop := fun o i v H Q => ∃ p xs k j, o = .ref p ∧ i = .int k ∧ H p = some (.lst xs) ∧ ixN xs.length k = some j ∧ Q (upd H p (.lst (xs.set j v)))
theorem set_list : PSet X rSetL := by
  intro pins s σ H o i v ov iv u Q I ro ri rv h
  obtain ⟨p, xs, k, j, rfl, rfl, hp, hj, q⟩ := h
  cases ro
  obtain ⟨t, rfl⟩ := ri
  obtain ⟨its, n, r, ho, hz⟩ := I.lst hp
  obtain ⟨h1, h2, h3, h4⟩ := ixN_seq hj
  have hl := r.length
  have hn := line63
  have I' : Inv X pins σ (upd H p (.lst (xs.set j v))) { s with heap := s.heap.update p (Obj.mapSeq (·.setIfInBounds j u)) } :=
    I.lstUpd hp ho (mapSeq_set its n j u) (r.set rv j) (by rw [List.length_set]; exact hz) s.toks
  by_cases h0 : 0 ≤ k
  · have hk : k.toNat = j := by
      rw [seqIndex_of h0 h4] at h1
      exact Option.some.inj h1
    exact PySem.W.ki_setAt ho h0 (by omega) (by rw [List.size_toArray, ← hl]; exact h4) (by rw [hk]; exact ⟨_, I', q⟩)
  · have hk : (k + (its.toArray.size : Int)).toNat = j := by
      rw [seqIndex_neg (by omega) h3] at h1
      rw [List.size_toArray, ← hl]
      exact Option.some.inj h1
    exact PySem.W.ki_setBack ho (by omega) (by rw [List.size_toArray, ← hl]; exact h3) (by omega) (by rw [hk]; exact ⟨_, I', q⟩)

/-! ### slices -/
theorem slice_bounds (lo hi : Option Int) (n : Nat) : (sliceBounds lo hi none n).1 = ((HT.sIx n 0 lo : Nat) : Int) ∧ (sliceBounds lo hi none n).2.1 = ((HT.sIx n n hi : Nat) : Int) ∧ (sliceBounds lo hi none n).2.2 = 1 := by
  refine ⟨?_, ?_, rfl⟩
  · cases lo with
    | none => simp [sliceBounds, HT.sIx]
    | some i =>
      simp only [sliceBounds, HT.sIx, Option.getD_none, show (1 : Int) > 0 by decide, if_true]
      by_cases h : i < 0
      · simp only [h, if_true] <;> omega
      · simp only [h, if_false] <;> omega
  · cases hi with
    | none => simp [sliceBounds, HT.sIx]
    | some i =>
      simp only [sliceBounds, HT.sIx, Option.getD_none, show (1 : Int) > 0 by decide, if_true]
      by_cases h : i < 0
      · simp only [h, if_true] <;> omega
      · simp only [h, if_false] <;> omega
theorem slicePick_cut (its : List Value) (lo hi : Option Int) : slicePick its.toArray lo hi none = ((its.drop (HT.sIx its.length 0 lo)).take (HT.sIx its.length its.length hi - HT.sIx its.length 0 lo)).toArray := by
  obtain ⟨h1, h2, h3⟩ := slice_bounds lo hi its.toArray.size
  unfold slicePick
  rw [h1, h2, h3]
  simp only [sliceRange_one, pick_run, List.size_toArray] <;> rfl
/-- xs[lo:hi] of a list: a new list -/
def rSlL (K : PySem.W.Frag) : V → Option Int → Option Int → Hp → VK → Prop := fun x lo hi H Q => ∃ a xs, x = .ref a ∧ SqL K H a xs ∧ ∀ p, H p = none → Q (.ref p) (upd H p (.lst (cutV xs lo hi)))
theorem sl_list : SlR X (rSlL X.K) := by
  intro pins s σ H x v vl vu lo hi sl Q I rx hs pl pu h
  obtain ⟨a, xs, rfl, hx, q⟩ := h
  cases rx
  obtain ⟨its, r, ht, hz⟩ := I.list hx
  have hlen := r.length
  refine ⟨"list", _, slot_list_getitem.lookup, ht.isList.typeIs, ?_⟩
  refine wpAny_getItem_list_slice ht.isList hs pl pu .none (by simp) ?_ (by rw [List.size_toArray] <;> omega)
  rw [slicePick_cut, ← hlen]
  refine ⟨.ref s.heap.objs.size, _, I.laid (t' := s.toks) (o := .lst (cutV xs lo hi)) (fun b ob q => Heap.get?_push_of_some _ q) (Nat.le_refl _) ?_, rfl, q _ (I.hok.fresh (Nat.le_refl _))⟩
  exact ⟨Nat.le_trans (cutV_length xs lo hi) hz, _, 0, (r.drop (HT.sIx xs.length 0 lo)).take (HT.sIx xs.length xs.length hi - HT.sIx xs.length 0 lo), Heap.get?_push_size _ rfl⟩

/-! ### in, not in: flat items -/
def flatV : V → Bool
  | .non => true
  | .bl _ => true
  | .int _ => true
  | .str _ => true
  | _ => false
/-- == of flat values -/
def eqV : V → V → Bool
  | .non, .non => true
  | .bl a, .bl b => a == b
  | .bl a, .int b => (if a then 1 else 0) == b
  | .int a, .bl b => a == (if b then 1 else 0)
  | .int a, .int b => a == b
  | .str a, .str b => a == b
  | _, _ => false
theorem eqAt_V {A : Around} {s : Shared} {y x : V} {u v : Value} (ry : RelV y u) (rx : RelV x v) (fy : flatV y = true) (fx : flatV x = true) : SeqAt.EqAt A s u v (eqV y x) := by
  cases y with
  | non =>
    cases ry
    cases x with
    | non => cases rx; exact SeqAt.EqAt.same _
    | bl b => cases rx; exact SeqAt.EqAt.none_bool b
    | int b => obtain ⟨t, rfl⟩ := rx; exact SeqAt.EqAt.none_int b t
    | str b => obtain ⟨t, rfl⟩ := rx; exact SeqAt.EqAt.none_str b t
    | _ => exact absurd (show false = true from fx) Bool.false_ne_true
  | bl a =>
    cases ry
    cases x with
    | non => cases rx; exact SeqAt.EqAt.bool_none a
    | bl b => cases rx; exact SeqAt.EqAt.bool_bool a b
    | int b => obtain ⟨t, rfl⟩ := rx; exact SeqAt.EqAt.bool_int a b t
    | str b => obtain ⟨t, rfl⟩ := rx; exact SeqAt.EqAt.bool_str a b t
    | _ => exact absurd (show false = true from fx) Bool.false_ne_true
  | int a =>
    obtain ⟨t', rfl⟩ := ry
    cases x with
    | non => cases rx; exact SeqAt.EqAt.int_none a t'
    | bl b => cases rx; exact SeqAt.EqAt.int_bool a t' b
    | int b => obtain ⟨t, rfl⟩ := rx; exact SeqAt.EqAt.int_int a t' b t
    | str b => obtain ⟨t, rfl⟩ := rx; exact SeqAt.EqAt.int_str a t' b t
    | _ => exact absurd (show false = true from fx) Bool.false_ne_true
  | str a =>
    obtain ⟨t', rfl⟩ := ry
    cases x with
    | non => cases rx; exact SeqAt.EqAt.str_none a t'
    | bl b => cases rx; exact SeqAt.EqAt.str_bool a t' b
    | int b => obtain ⟨t, rfl⟩ := rx; exact SeqAt.EqAt.str_int a t' b t
    | str b => obtain ⟨t, rfl⟩ := rx; exact SeqAt.EqAt.str_str a t' b t
    | _ => exact absurd (show false = true from fx) Bool.false_ne_true
  | _ => exact absurd (show false = true from fy) Bool.false_ne_true
/-- the items' answers, read off the values (a value's own answer does not lean on its token) -/
def eqU (x : V) (u : Value) : Bool := match u with
  | .none => eqV .non x
  | .bool b => eqV (.bl b) x
  | .int i _ => eqV (.int i) x
  | .str z _ => eqV (.str z) x
  | _ => false
theorem eqU_of {x y : V} {u : Value} (r : RelV y u) (f : flatV y = true) : eqU x u = eqV y x := by
  cases y with
  | non => cases r; rfl
  | bl b => cases r; rfl
  | int i => obtain ⟨t, rfl⟩ := r; rfl
  | str z => obtain ⟨t, rfl⟩ := r; rfl
  | _ => exact absurd (show false = true from f) Bool.false_ne_true
theorem any_eqU {x : V} : ∀ {xs : List V} {us : List Value}, Vals xs us → xs.all flatV = true → us.any (eqU x) = xs.any fun y => eqV y x
  | _, _, .nil, _ => rfl
  | y :: xs, u :: us, .cons r t, f => by
    rw [List.all_cons, Bool.and_eq_true] at f
    rw [List.any_cons, List.any_cons, eqU_of r f.1, any_eqU t f.2]
theorem mem_eqAt {A : Around} {s : Shared} {x : V} {v : Value} (rx : RelV x v) (fx : flatV x = true) : ∀ {xs : List V} {us : List Value}, Vals xs us → xs.all flatV = true → ∀ u ∈ us, SeqAt.EqAt A s u v (eqU x u)
  | _, _, .nil, _ => fun u hu => by cases hu
  | y :: xs, u :: us, .cons r t, f => fun u' hu => by
    rw [List.all_cons, Bool.and_eq_true] at f
    rcases List.mem_cons.mp hu with rfl | hu
    · rw [eqU_of r f.1]; exact eqAt_V r rx f.1 fx
    · exact mem_eqAt rx fx t f.2 u' hu
def inV (x : V) (xs : List V) : Bool := xs.any fun y => eqV y x
/-- x in a list or tuple of flat items -/
def rIn (K : PySem.W.Frag) (neg : Bool) : R2 := fun x y H Q => ∃ p xs, y = .ref p ∧ (SqL K H p xs ∨ SqT K H p xs) ∧ flatV x = true ∧ xs.all flatV = true ∧ Q (.bl (if neg then !inV x xs else inV x xs)) H
theorem op_in_seq : OpR X (compareOp .In) (rIn X.K false) := by
  intro pins s σ H x y v u Q I rx ry h
  obtain ⟨p, xs, rfl, hq, fx, fs, q⟩ := h
  cases ry
  rcases hq with hq | hq
  · obtain ⟨its, r, pl, hz⟩ := I.list hq
    refine SeqAt.in_listAt (eqU x) pl.isList (fun w hw => mem_eqAt rx fx r fs w (by simpa using hw)) ⟨.bl _, H, I, rfl, ?_⟩
    rw [show its.toArray.any (eqU x) = its.any (eqU x) by simp, any_eqU r fs]
    exact q
  · obtain ⟨its, r, pl, hz⟩ := I.tuple hq
    refine SeqAt.in_tupleAt (eqU x) pl (fun w hw => mem_eqAt rx fx r fs w (by simpa using hw)) ⟨.bl _, H, I, rfl, ?_⟩
    rw [show its.toArray.any (eqU x) = its.any (eqU x) by simp, any_eqU r fs]
    exact q

/-! ### len, list(x), tuple(x) of any list or tuple that is read -/
theorem call_len_seq : CallR X (.builtin "len") (fun xs H Q => ∃ p ys, xs = [.ref p] ∧ (SqL X.K H p ys ∨ SqT X.K H p ys) ∧ Q (.int ys.length) H) := by
  intro pins s σ H xs us Q I r h
  obtain ⟨p, ys, rfl, hq, q⟩ := h
  obtain ⟨u, rfl, rx⟩ := vals1 r
  cases rx
  have hn := line63
  rcases hq with hq | hq
  · obtain ⟨its, r', pl, hz⟩ := I.list hq
    have hlen := r'.length
    exact Calls.call_len_list pl.isList (by simp only [List.size_toArray] <;> omega) ⟨.int ys.length, H, I.tok _, ⟨s.toks + 1, by rw [List.size_toArray, hlen]⟩, q⟩
  · obtain ⟨its, r', pl, hz⟩ := I.tuple hq
    have hlen := r'.length
    exact len_tuple pl (by simp only [List.size_toArray] <;> omega) ⟨.int ys.length, H, I.tok _, ⟨s.toks + 1, by rw [List.size_toArray, hlen]⟩, q⟩
theorem call_len_str : CallR X (.builtin "len") (fun xs H Q => ∃ z, xs = [.str z] ∧ z.length ≤ sizeLine ∧ Q (.int z.length) H) := by
  intro pins s σ H xs us Q I r h
  obtain ⟨z, rfl, hz, q⟩ := h
  obtain ⟨u, rfl, t, rfl⟩ := vals1 r
  have hn := line63
  exact len_str (by omega) ⟨.int z.length, H, I.tok _, ⟨_, rfl⟩, q⟩
theorem CallR.or {f : Value} {r r' : List V → Hp → VK → Prop} (h : CallR X f r) (h' : CallR X f r') : CallR X f (fun xs H Q => r xs H Q ∨ r' xs H Q) := by
  intro pins s σ H xs us Q I rs q
  rcases q with q | q
  · exact h pins s σ H xs us Q I rs q
  · exact h' pins s σ H xs us Q I rs q
theorem call_tuple_of : CallR X (.type "tuple") (fun xs H Q => ∃ p ys, xs = [.ref p] ∧ ((SqL X.K H p ys ∧ ∀ l, H l = none → Q (.ref l) (upd H l (.tup ys))) ∨ (SqT X.K H p ys ∧ Q (.ref p) H))) := by
  intro pins s σ H xs us Q I r h
  obtain ⟨p, ys, rfl, h⟩ := h
  obtain ⟨u, rfl, rx⟩ := vals1 r
  cases rx
  rcases h with ⟨hq, q⟩ | ⟨hq, q⟩
  · obtain ⟨its, r', pl, hz⟩ := I.list hq
    have hlen := r'.length
    refine call_tuple_list pl.isList (fun h' kp => ?_) (by simp only [List.size_toArray] <;> omega)
    have I1 : Inv X pins σ H { s with heap := h' } := I.kept (t' := s.toks) kp
    have I2 : Inv X pins σ (upd H h'.objs.size (.tup ys)) { s with heap := h'.push { cls := .type "tuple", data := .seq its.toArray } } :=
      I1.laid (t' := s.toks) (fun b o e => Heap.get?_push_of_some _ e) (Nat.le_refl _) (show ObjOk X.prog X.w _ _ _ (.tup ys) from ⟨tupD_new hz, its, r', IsTup.new _ _⟩)
    exact ⟨.ref h'.objs.size, _, I2, rfl, q _ (I1.hok.fresh (Nat.le_refl _))⟩
  · obtain ⟨its, r', pl, hz⟩ := I.tuple hq
    exact call_tuple_same pl ⟨.ref p, H, I, rfl, q⟩

/-! ### the call of a builtin's method: o.m(..) -/
/-- the value is of that builtin type -/
def tyV (K : PySem.W.Frag) (T : String) (x : V) (H : Hp) : Prop := match x with
  | .str _ => T = "str"
  | .int _ => T = "int"
  | .ref p => (T = "list" ∧ ∃ xs, SqL K H p xs) ∨ (T = "tuple" ∧ ∃ o, K.lookup p = some o ∧ o.cls = .type "tuple" ∧ o.dict = none) ∨
      (T = "dict" ∧ ((∃ kvs, H p = some (.dK kvs)) ∨ ∃ kvs, H p = some (.dT kvs))) ∨ (T = "set" ∧ ∃ S n, H p = some (.set S n))
  | _ => False
theorem tyV_is {pins : List (Addr × Obj)} {σ : St} {H : Hp} {s : Shared} {T : String} {x : V} {v : Value} (I : Inv X pins σ H s) (r : RelV x v) (ty : tyV X.K T x H) :
    s.TypeIs v T ∧ ∀ a, v = .ref a → ∃ ob, s.heap.get? a = some ob ∧ ob.dict = none := by
  cases x with
  | str z =>
    obtain ⟨t, rfl⟩ := r
    cases (show T = "str" from ty)
    exact ⟨typeIs_str s z t, fun _ e => nomatch e⟩
  | int i =>
    obtain ⟨t, rfl⟩ := r
    cases (show T = "int" from ty)
    exact ⟨typeIs_int s i t, fun _ e => nomatch e⟩
  | ref p =>
    cases r
    rcases ty with ⟨rfl, xs, hq⟩ | ⟨rfl, o, hk, hc, hd⟩ | ⟨rfl, hk⟩ | ⟨rfl, S, n, hk⟩
    · obtain ⟨its, _, pl, _⟩ := I.list hq
      refine ⟨pl.isList.typeIs, fun a e => ?_⟩
      cases e
      obtain ⟨o, n, e, c, hd, _⟩ := pl
      exact ⟨o, e, hd⟩
    · refine ⟨⟨o, I.kIn p o hk, hc⟩, fun a e => ?_⟩
      cases e
      exact ⟨o, I.kIn _ o hk, hd⟩
    · have z : ∃ o, s.heap.get? p = some o ∧ o.ExactDict := by
        rcases hk with ⟨kvs, hk⟩ | ⟨kvs, hk⟩
        · obtain ⟨_, _, _, _, o, _, _, e, ex, _⟩ := I.hok p _ hk
          exact ⟨o, e, ex⟩
        · obtain ⟨_, _, _, _, o, _, _, e, ex, _⟩ := I.hok p _ hk
          exact ⟨o, e, ex⟩
      obtain ⟨o, e, ex⟩ := z
      refine ⟨⟨o, e, ex.1⟩, fun a e2 => ?_⟩
      cases e2
      exact ⟨o, e, ex.2.1⟩
    · obtain ⟨o, _, _, _, e, ex, _⟩ := I.hok p _ hk
      refine ⟨⟨o, e, ex.1⟩, fun a e2 => ?_⟩
      cases e2
      exact ⟨o, e, ex.2.1⟩
  | _ => exact False.elim ty
def tBM0 (K : PySem.W.Frag) (T : String) (r : V → List V → Hp → VK → Prop) (to : TE) : TE := fun σ H Q => to σ H fun x H1 => tyV K T x H1 ∧ r x [] H1 Q
def tBM (K : PySem.W.Frag) (T : String) (r : V → List V → Hp → VK → Prop) (to : TE) (t : TA) : TE := fun σ H Q => to σ H fun x H1 => tyV K T x H1 ∧ t σ H1 fun xs H2 => r x xs H2 Q
variable {o e : Expr} {es : List Expr} {to : TE} {t : TA} {name : Str} {apos cpos : Pos} {T id : String} {r : V → List V → Hp → VK → Prop}
theorem pe_bm0 (pa : PlainAttrs T) (slot : Slot T name id) (hty : typeOf (.builtin id) = pure (.type "method_descriptor")) (hm : MtR X id r) (ho : PE X o to)
    (hbase : attributeBase o name X.env (eval o X.env) = eval o X.env := by rfl) (hline : (apos.endLine == cpos.line) = true := by rfl) : PE X (.Call (.Attribute o name apos) [] [] cpos) (tBM0 X.K T r to) := by
  intro pins s σ H Q I h
  refine wpAny_Call_method0_late hbase hline (thn (ho pins s σ H _ I h) fun v s1 ⟨x, H1, I1, r1, ty, q1⟩ => ?_)
  obtain ⟨h1, h2⟩ := tyV_is I1 r1 ty
  exact ⟨T, id, pa, slot, hty, h1, h2, Calls.callWith_builtin rfl (PySem.evalArgs_none (hm pins s1 σ H1 x [] v [] Q I1 r1 .nil q1))⟩
theorem pe_bm (pa : PlainAttrs T) (slot : Slot T name id) (hty : typeOf (.builtin id) = pure (.type "method_descriptor")) (hm : MtR X id r) (ho : PE X o to) (ha : PA X (e :: es) t)
    (hbase : attributeBase o name X.env (eval o X.env) = eval o X.env := by rfl)
    (hfew : ((backTo cpos (starEach (e :: es) X.env)).all (fun x => !x.1) && (backToKw cpos (keywordEach [] X.env)).all (fun x => x.1.isSome)
      && decide ((e :: es).length + ([] : List Keyword).length + (if ([] : List Keyword).isEmpty then 0 else 1) < 30)) = true := by rfl)
    (hline : (apos.endLine == cpos.line) = true := by rfl) (hs : starEach (e :: es) X.env = (false, eval e X.env) :: starEach es X.env := by rfl) (hplain : (backTo cpos (starEach es X.env)).any (·.1) = false := by rfl) :
    PE X (.Call (.Attribute o name apos) (e :: es) [] cpos) (tBM X.K T r to t) := by
  intro pins s σ H Q I h
  refine wpAny_Call_method_late hbase hfew hline rfl (thn (ho pins s σ H _ I h) fun v s1 ⟨x, H1, I1, r1, ty, q1⟩ => ?_)
  obtain ⟨h1, h2⟩ := tyV_is I1 r1 ty
  refine ⟨T, id, pa, slot, hty, h1, h2, ?_⟩
  have hA := ha cpos pins s1 σ H1 _ I1 q1
  rw [hs] at hA ⊢
  refine Calls.callWith_builtin (by show (false || (backTo cpos (starEach es X.env)).any (·.1)) = false; rw [hplain] <;> rfl) (Calls.evalArgs_plain ?_)
  exact thn hA fun us s2 ⟨vs, H2, I2, r2, q2⟩ => hm pins s2 σ H2 x vs v us Q I2 r1 r2 q2
/- xs.append(e), list.index on a module's tuple .. are MtR facts of 06m -/
end
end L2

namespace L2
open PySem PySem.Spec PyProof.Rows

def MtM (X : Cx) (id : String) (r : V → List V → Hp → VK → Prop) : Prop :=
  ∀ (pins : List (Addr × Obj)) (s : Shared) (σ : St) (H : Hp) (x : V) (xs : List V) (v : Value) (us : List Value) (Q : VK), Inv X pins σ H s → RelV x v → Vals xs us → r x xs H Q →
    wpAny (model X.prog X.w) X.A (call (.builtin id) (v :: us)) (EP X pins σ Q) X.xe s

/-! ### lists of values -/
theorem Vals.one : ∀ {x : V} {us : List Value}, Vals [x] us → ∃ u, us = [u] ∧ RelV x u
  | _, _, .cons r .nil => ⟨_, rfl, r⟩
theorem Vals.two : ∀ {x y : V} {us : List Value}, Vals [x, y] us → ∃ u v, us = [u, v] ∧ RelV x u ∧ RelV y v
  | _, _, _, .cons r (.cons q .nil) => ⟨_, _, rfl, r, q⟩
theorem Vals.zero : ∀ {us : List Value}, Vals [] us → us = []
  | _, .nil => rfl
theorem Vals.dropLast {xs : List V} {us : List Value} (h : Vals xs us) : Vals xs.dropLast us.dropLast := by
  induction h with
  | nil => exact .nil
  | cons r t ih =>
    cases t with
    | nil => exact .nil
    | cons q t' => exact .cons r ih
theorem Vals.eraseIdx : ∀ {xs : List V} {us : List Value} (i : Nat), Vals xs us → Vals (xs.eraseIdx i) (us.eraseIdx i)
  | _, _, _, .nil => .nil
  | _, _, 0, .cons _ t => t
  | _, _, i + 1, .cons r t => .cons r (Vals.eraseIdx i t)
theorem Vals.reverse {xs : List V} {us : List Value} (h : Vals xs us) : Vals xs.reverse us.reverse := by
  induction h with
  | nil => exact .nil
  | cons r t ih => rw [List.reverse_cons, List.reverse_cons]; exact Vals.append ih (.cons r .nil)
theorem erase_last {α : Type} (l : List α) : l.eraseIdx (l.length - 1) = l.dropLast := by
  induction l with
  | nil => rfl
  | cons a r ih =>
    cases r with
    | nil => rfl
    | cons b r =>
      have e : (a :: b :: r).length - 1 = ((b :: r).length - 1) + 1 := by
        have h1 : (a :: b :: r).length = r.length + 2 := rfl
        have h2 : (b :: r).length = r.length + 1 := rfl
        omega
      rw [e, List.eraseIdx_cons_succ, ih]
      all_goals rfl

section
variable {X : Cx} {pins : List (Addr × Obj)} {σ : St} {H : Hp} {s : Shared} {l b : Addr} {xs ys zs : List V}

/-! ### the two steps: a tracked list is rewritten, a new list is laid -/
theorem Inv.lset {its its' : List Value} {n : Nat} {f : Array Value → Array Value} {t' : Nat} (I : Inv X pins σ H s) (hH : H l = some (.lst xs))
    (e : s.heap.get? l = some { cls := .type "list", data := .seq its.toArray n }) (hf : f its.toArray = its'.toArray) (hv : Vals ys its') (hz : ys.length ≤ sizeLine) :
    Inv X pins σ (upd H l (.lst ys)) { s with heap := s.heap.update l (Obj.mapSeq f), toks := t' } := by
  have q := PySem.IsL.update e f
  rw [hf] at q
  refine I.write (x := l) (e := l) (by rw [hH]; exact trivial) (.inl rfl) (fun b' u hb hu => (Heap.get?_update_other s.heap (Obj.mapSeq f) (Ne.symm hb)).trans hu) ⟨_, q⟩ ?_
  exact ⟨hz, its', _, hv, q⟩
theorem Inv.lnew {its : List Value} {t' : Nat} (I : Inv X pins σ H s) (hv : Vals ys its) (hz : ys.length ≤ sizeLine) :
    Inv X pins σ (upd H s.heap.objs.size (.lst ys)) { s with heap := s.heap.push { cls := .type "list", data := .seq its.toArray }, toks := t' } :=
  I.laid (fun _ _ q => Heap.get?_push_of_some _ q) (Nat.le_refl _) ⟨hz, its, 0, hv, Heap.get?_push_size _ rfl⟩
theorem Inv.fresh (I : Inv X pins σ H s) : H s.heap.objs.size = none := I.hok.fresh (Nat.le_refl _)
theorem Inv.lstM (I : Inv X pins σ H s) (hH : H l = some (.lst xs)) : xs.length ≤ sizeLine ∧ ∃ (its : List Value) (n : Nat), Vals xs its ∧ xs.length = its.length ∧ s.heap.get? l = some { cls := .type "list", data := .seq its.toArray n } := by
  obtain ⟨z, its, n, r, e⟩ := I.hok l _ hH
  exact ⟨z, its, n, r, r.length, e⟩

theorem notLongL {n : Nat} (h : n ≤ sizeLine) : Builtin.List.listTooLong n = false := by
  unfold Builtin.List.listTooLong
  exact decide_eq_false (by omega)
end

section
variable {X : Cx}

/-! ### methods -/
def rAppend : V → List V → Hp → VK → Prop := fun x vs H Q => ∃ l xs y, x = .ref l ∧ vs = [y] ∧ H l = some (.lst xs) ∧ xs.length < sizeLine ∧ Q .non (upd H l (.lst (xs ++ [y])))
theorem mt_append : MtM X "list.append" rAppend := by
  intro pins s σ H x vs v us Q I rx rv h
  obtain ⟨l, xs, y, rfl, rfl, hH, hz, q⟩ := h
  cases rx
  obtain ⟨u, rfl, ru⟩ := rv.one
  obtain ⟨z, its, n, r, hl, e⟩ := I.lstM hH
  refine call_meets F.slot_list_append ⟨_, e, rfl⟩ F.entry_list_append (F.args_list_append_2 _ _) (PySem.list_append l its.toArray n u (by rw [List.size_toArray]; omega)) ⟨e, ?_⟩
  refine ⟨.non, _, I.lset (its' := its ++ [u]) hH e (by simp) (r.append (.cons ru .nil)) ?_, rfl, q⟩
  rw [List.length_append, List.length_singleton]
  omega

def rExtend : V → List V → Hp → VK → Prop := fun x vs H Q => ∃ l b xs zs, x = .ref l ∧ vs = [.ref b] ∧ H l = some (.lst xs) ∧ H b = some (.lst zs) ∧ xs.length + zs.length ≤ sizeLine ∧ Q .non (upd H l (.lst (xs ++ zs)))
theorem mt_extend : MtM X "list.extend" rExtend := by
  intro pins s σ H x vs v us Q I rx rv h
  obtain ⟨l, b, xs, zs, rfl, rfl, hH, hB, hz, q⟩ := h
  cases rx
  obtain ⟨u, rfl, ru⟩ := rv.one
  cases ru
  obtain ⟨z, its, n, r, hl, e⟩ := I.lstM hH
  obtain ⟨z2, its2, n2, r2, hl2, e2⟩ := I.lstM hB
  have hsz : its.toArray.size + its2.toArray.size ≤ sizeLine := by rw [List.size_toArray, List.size_toArray]; omega
  have hlong : ¬ (!its.toArray.isEmpty && Builtin.List.listTooLong (its.toArray.size + its2.toArray.size)) = true := by
    rw [notLongL hsz, Bool.and_false]
    exact Bool.false_ne_true
  refine call_meets F.slot_list_extend ⟨_, e, rfl⟩ F.entry_list_extend (F.args_list_extend_2 _ _)
    (AutoSeq1.list_extend_list_list_0 l its.toArray n b its2.toArray n2 hlong (by rw [List.size_toArray]; omega) (by omega)) ⟨e, e2, ?_⟩
  refine ⟨.non, _, I.lset (its' := its ++ its2) hH e (by simp) (r.append r2) ?_, rfl, q⟩
  rw [List.length_append]
  omega

def rPop : V → List V → Hp → VK → Prop := fun x vs H Q => ∃ l xs y, x = .ref l ∧ vs = [] ∧ H l = some (.lst xs) ∧ xs[xs.length - 1]? = some y ∧ Q y (upd H l (.lst xs.dropLast))
theorem mt_pop : MtM X "list.pop" rPop := by
  intro pins s σ H x vs v us Q I rx rv h
  obtain ⟨l, xs, y, rfl, rfl, hH, hy, q⟩ := h
  cases rx
  have hus := rv.zero
  subst hus
  obtain ⟨z, its, n, r, hl, e⟩ := I.lstM hH
  obtain ⟨u, hu, ru⟩ := r.get hy
  have hy' : its.toArray[its.toArray.size - 1]? = some u := by
    show its.toArray[its.length - 1]? = some u
    rw [← Array.getElem?_toList, ← hl]
    exact hu
  refine call_meets F.slot_list_pop ⟨_, e, rfl⟩ F.entry_list_pop (F.args_list_pop_1 _) (MeetsSeq.list_pop_last l its.toArray n u hy' (by rw [List.size_toArray]; omega)) ⟨e, ?_⟩
  refine ⟨y, _, I.lset (its' := its.dropLast) hH e ?_ r.dropLast ?_, ru, q⟩
  · show its.toArray.eraseIdxIfInBounds (its.toArray.size - 1) = its.dropLast.toArray
    rw [List.size_toArray, List.eraseIdxIfInBounds_toArray, erase_last]
  · rw [List.length_dropLast]
    omega

def rPopAt : V → List V → Hp → VK → Prop := fun x vs H Q => ∃ l xs i k y, x = .ref l ∧ vs = [.int i] ∧ H l = some (.lst xs) ∧ -(2 ^ 63) ≤ i ∧ i < 2 ^ 63 ∧ seqIndex? i xs.length = some k ∧ xs[k]? = some y ∧ Q y (upd H l (.lst (xs.eraseIdx k)))

def rReverse : V → List V → Hp → VK → Prop := fun x vs H Q => ∃ l xs, x = .ref l ∧ vs = [] ∧ H l = some (.lst xs) ∧ Q .non (upd H l (.lst xs.reverse))

def rClear : V → List V → Hp → VK → Prop := fun x vs H Q => ∃ l xs, x = .ref l ∧ vs = [] ∧ H l = some (.lst xs) ∧ Q .non (upd H l (.lst []))

/-! ### list + list, list += list, list * int -/
def rCat : R2 := fun x y H Q => ∃ l b xs zs, x = .ref l ∧ y = .ref b ∧ H l = some (.lst xs) ∧ H b = some (.lst zs) ∧ xs.length + zs.length ≤ sizeLine ∧ ∀ p, H p = none → Q (.ref p) (upd H p (.lst (xs ++ zs)))
theorem op_cat : OpR X (binaryOp .Add) rCat := by
  intro pins s σ H x y v u Q I rx ry h
  obtain ⟨l, b, xs, zs, rfl, rfl, hH, hB, hz, q⟩ := h
  cases rx
  cases ry
  obtain ⟨z, its, n, r, hl, e⟩ := I.lstM hH
  obtain ⟨z2, its2, n2, r2, hl2, e2⟩ := I.lstM hB
  refine PySem.P.add_list e e2 ?_ (by rw [List.size_toArray, List.size_toArray]; omega)
  have ea : its.toArray ++ its2.toArray = (its ++ its2).toArray := by simp
  rw [ea]
  exact ⟨.ref _, _, I.lnew (t' := s.toks) (r.append r2) (by rw [List.length_append]; omega), rfl, q _ I.fresh⟩
/-- a list times an int (a negative one is nothing) -/
def rRep : R2 := fun x y H Q => ∃ l k xs, x = .ref l ∧ y = .int k ∧ H l = some (.lst xs) ∧ -(2 ^ 63) ≤ k ∧ k < 2 ^ 63 ∧ xs.length * k.toNat ≤ sizeLine ∧
  ∀ p, H p = none → Q (.ref p) (upd H p (.lst (List.replicate k.toNat xs).flatten))

/-! ### del xs[i] -/
end

/-! ### xs[a:b] = ys -/
section
variable {prog : Program} {w : World} {A : Around} {E : Value → Shared → Prop} {s : Shared}
set_option maxRecDepth 100000 in
end

section
variable {X : Cx}
end
end L2

namespace Att
open PySem PySem.W PySem.Calls PyProof.Rows

/-! ### the script -/
theorem ints_of_wellAll {P : Params} {h : Heap} : ∀ (ns : List Int) (vs : List Value), WellAll P h vs (ns.map WData.int) → IntsAre vs ns := by
  intro ns
  induction ns with
  | nil =>
    intro vs w
    rw [List.map_nil] at w
    cases w
    exact .nil
  | cons n ns ih =>
    intro vs w
    rw [List.map_cons] at w
    cases w with
    | cons a b =>
      cases a
      exact .cons _ _ (ih _ b)

theorem script_of {l : OpenLaw} {n : Nat} (hn : l.most = some n) {P : Params} {h : Heap} {args : List WData} {vals : List Value}
    (hpre : l.row.toRowW.claim.pre args = true) (hwl : WellAll P h vals args) :
    ∃ a vs ns, vals = [Value.ref a] ∧ args = [WData.list (ns.map WData.int)] ∧ h.get? a = some { cls := .type "list", data := .seq vs.toArray } ∧ IntsAre vs ns ∧ ns.length ≤ n := by
  have hsh : WShape.hasAll [] args [.list .int] = true := (pre_splitW hpre).1
  have hc : l.pre.holds [] { args := args } = true := (pre_splitW hpre).2
  obtain ⟨d, r, rfl, h1, h2⟩ := hasAllW_cons hsh
  obtain rfl := hasAllW_nil h2
  obtain ⟨xs, rfl, h3⟩ := hasW_list h1
  obtain ⟨ns, rfl⟩ := items_int h3
  have hlen : ns.length ≤ n := by
    unfold OpenLaw.pre at hc
    have h4 : (WTm.not (.lt (.lit (.int (n : Int))) (.len (.arg 0)))).holds [] { args := [.list (ns.map .int)] } = true := by
      have h4 := (holds_andW hc).1
      rw [hn] at h4
      exact h4
    have h5 := condW_of h4 (w_not (w_lt w_lit (w_len_list (w_arg rfl))))
    rw [List.length_map] at h5
    refine Nat.le_of_not_lt fun q => ?_
    have q' : (n : Int) < ((ns.length : Nat) : Int) := by omega
    first
      | (rw [decide_eq_true q'] at h5; exact absurd h5 (by decide))
      | (simp at h5; omega)
  cases hwl with
  | cons w1 w2 =>
    cases w2
    cases w1 with
    | list ho hall => exact ⟨_, _, ns, rfl, rfl, ho, ints_of_wellAll ns _ hall, hlen⟩

theorem post_true (l : OpenLaw) (args : List WData) : l.row.toRowW.claim.post args (.bool true) args = true :=
  postW_of (r := l.row.toRowW) (X := (true == true))
    (show WShape.has [] (.bool true) .bool = true by first | rfl | decide | simp [WShape.has, WShape.arms, WShape.armsAll])
    (show (WTm.eq .res (.lit (.bool true))).value [] { args := args, res := some (.bool true), after := args } = some (.bool (true == true)) from w_eq_bool (w_res rfl) w_lit) rfl

/-! ### the attachment: holds_open's last premise (the goal 'hc' behind k_head) from a wpAny of the law's body -/

/-- the same from a codeAny of the CALL (for a layer whose function contracts speak of calls) -/
theorem attach_call {l : OpenLaw} {n : Nat} {q : Program} {loose : List Str} {XP : (Str → Option Value) → Heap → Prop} {YP : World → Heap → Prop} {d : DefRec}
    (hn : l.most = some n) (hdf : d.params.defaults = [])
    (call : ∀ (w : World) (s₀ s₁ : Shared) (mg mb : Str → Option Value) (fa : Addr) (o : Obj) (pm cd doc : Value) (a : Addr) (vs : List Value) (ns : List Int),
      Ground q loose [] XP w s₀ mg mb s₁.heap → YP w s₁.heap →
      s₁.heap.get? fa = some o → o.data = .func (docDef d.name d.params d.body d.scope pm cd doc) → s₁.heap.CodeRec cd d.name → mg d.name = some (.ref fa) →
      s₁.heap.get? a = some { cls := .type "list", data := .seq vs.toArray } → IntsAre vs ns → ns.length ≤ n → s₁.gens = #[] →
      codeAny (model l.prog w) callerA (.call (.ref fa) ⟨[.ref a], []⟩) (fun r s' => r = .ok (.ret (.bool true)) ∧ OldK s₁.heap s'.heap ∧ s'.os = s₁.os ∧ AllBare s'.gens) s₁) :
    WalkO q loose XP YP l.row.toRowW d [] (fun f vs => PySem.call f vs) := by
  intro w s₀ s₁ mg mb G Y fa o pm cd doc dV kV ho hd hcd hD hmg hg args vals as hpre hlay hrd hwl hlo
  obtain rfl : dV = .none := Dflts.none hD hdf
  obtain rfl : kV = .none := Dflts.noKw hD
  obtain ⟨a, vs, ns, rfl, rfl, hobj, hints, hlen⟩ := script_of hn hpre hwl
  refine enter_call (codeAny_mono (call w s₀ s₁ mg mb fa o pm cd doc a vs ns G Y ho (fd_plain hd) hcd hmg hobj hints hlen hg) fun r s' hq => ?_)
  obtain ⟨rfl, h2, h3, h4⟩ := hq
  exact ⟨.inl ⟨.bool true, .bool true, [], rfl, fun _ => rfl, .bool true, post_true l _, fun _ => ⟨List.Pairwise.nil, fun _ hm => (nomatch hm)⟩⟩, h2, h3, h4⟩


/-! ### rules over ANY heap (no ledger) from facts about the written part K: the library's own take a ledger (News) for what they write -/
section
variable {prog : Program} {w : World} {A : Around} {E : Value → Shared → Prop} {s : Shared} {K : Frag}





/-! the whole heap as the ledger: makes every rule that writes through a ledger a rule over any heap -/
def noObjs (h : Heap) : Heap := { h with objs := #[] }
def ledger (h : Heap) (L d : Addr) : List (Addr × Obj) := (List.range h.objs.size).filterMap fun a => if a = L ∨ a = d then none else (h.get? a).map fun o => (a, o)

end
end Att

namespace L2
open PySem PySem.Spec PyProof.Rows

theorem vals_ints : ∀ {vs : List Value} {ns : List Int}, IntsAre vs ns → Vals (ns.map V.int) vs
  | _, _, .nil => .nil
  | _, _, .cons n t h => .cons ⟨t, rfl⟩ (vals_ints h)

/-- nothing is tracked but the script, known to the object (or it is an object of the module) -/
def Only (H : Hp) : Prop := ∀ b, H b = none ∨ ∃ o xs, H b = some (.frz o (.lst xs))

/-- THE HEAD: the law's promise, at the heap behind the top. F, the promise of the law's def, may use that base is part of the heap (so K.In base, base.Ns mainGlobals mg stand in Mod) -/
theorem law_call {P : Program} {w : World} {K : PySem.W.Frag} {mg mb : Str → Option Value} {CX : CXT} {k : Nat} {fa a : Addr} {fd : FuncData} {x : Str} {sp : Sp} {s₁ : Shared} {vs : List Value} {ns : List Int}
    (KX : K.In s₁.heap) (hns : s₁.heap.Ns mainGlobals mg) (hb : s₁.heap.Ns builtinsNs mb) (hbb : ∀ x : Str, x ≠ "__name__" → mb x = bootBuiltins x) (hlim : s₁.heap.NoLimit) (hg : s₁.gens = #[])
    (ha : s₁.heap.get? a = some { cls := .type "list", data := .seq vs.toArray }) (hi : IntsAre vs ns) (hl : ns.length ≤ sizeLine) (hr : Room k callerA)
    (F : ∀ base : Heap, K.In base → base.Ns mainGlobals mg → FnOk P w K mg base CX k fa fd [x] sp) (hbind : ∀ (s : Shared) (u : Value), BindsTo s fd ⟨[u], []⟩ [(x, u)])
    (hsp : ∀ H : Hp, Only H → SqL K H a (ns.map V.int) → sp [.ref a] H (fun v _ => v = .bl true) fun _ _ _ => False)
    (hCX : ∀ H e s', CX [] H s₁ (fun _ _ _ => False) e s' → False) :
    codeAny (model P w) callerA (.call (.ref fa) ⟨[.ref a], []⟩) (fun r s' => r = .ok (.ret (.bool true)) ∧ OldK s₁.heap s'.heap ∧ s'.os = s₁.os ∧ AllBare s'.gens) s₁ := by
  have rv := vals_ints hi
  have lenV := hi.length
  -- from an abstract heap in which nothing but the script may be tracked
  have core : ∀ H : Hp, Only H → SqL K H a (ns.map V.int) → HOk P w H s₁.heap → (∀ b, H b ≠ none → b = a) → (H a ≠ none → K.lookup a = none) →
      codeAny (model P w) callerA (.call (.ref fa) ⟨[.ref a], []⟩) (fun r s' => r = .ok (.ret (.bool true)) ∧ OldK s₁.heap s'.heap ∧ s'.os = s₁.os ∧ AllBare s'.gens) s₁ := by
    intro H hO hS hok hA hK
    have base_of : ∀ {b : Addr} {o : Obj}, s₁.heap.get? b = some o → H b = none → (hidT s₁.heap H).get? b = some o := fun e n => hidT_get e n
    have noA : ∀ {b : Addr} {o : Obj} {es : Array DictEntry} {ep : Nat}, s₁.heap.get? b = some o → o.data = .dict es ep → H b = none := fun {b o es ep} e d => by
      cases q : H b with
      | none => rfl
      | some u =>
        have e' : b = a := hA b (by rw [q]; simp)
        subst e'
        rw [ha] at e; cases e
        have d' : Data.seq vs.toArray _ = Data.dict es ep := d
        cases d'
    have nsK : ∀ {b : Addr} {m : Str → Option Value}, s₁.heap.Ns b m → (hidT s₁.heap H).Ns b m := fun {b m} ⟨o, es, ep, e, d, r⟩ => ⟨o, es, ep, base_of e (noA e d), d, r⟩
    have hKb : K.In (hidT s₁.heap H) := fun b o e => base_of (KX b o e) (by
      cases q : H b with
      | none => rfl
      | some u =>
        have e' : b = a := hA b (by rw [q]; simp)
        subst e'
        rw [hK (by rw [q]; simp)] at e; cases e)
    have hM : Mod K mg (hidT s₁.heap H) := ⟨hKb, nsK hns, ⟨mb, nsK hb, hbb⟩, let ⟨mc, h1, h2⟩ := hlim; ⟨mc, nsK h1, h2⟩⟩
    have e0 : Env0 P w K mg (hidT s₁.heap H) callerA [] s₁ H := ⟨rfl, hM, fun b o e => of_hidT e, Nat.le_of_eq (hidT_size _ _), trivial, fun b hb => absurd (show b ∈ ([] : List Addr) from hb) (by simp), hok, .of_eq hg⟩
    refine codeAny_mono ((F _ hKb (nsK hns)).run callerA [] s₁ H ⟨[.ref a], []⟩ [.ref a] [.ref a] _ _ hr e0 (hbind s₁ (.ref a)) (.cons rfl .nil) (hsp H hO hS)) fun r s' h => ?_
    cases r with
    | error e => exact (hCX H e s' h).elim
    | ok fl =>
      cases fl with
      | next => exact False.elim h
      | brk => exact False.elim h
      | cont => exact False.elim h
      | ret u =>
        obtain ⟨v, H', os, bare, un, hok', r', q⟩ := h
        have q' : v = .bl true := q
        subst q'
        obtain rfl : u = Value.bool true := r'
        refine ⟨rfl, OldK.of_keep fun b o e => ?_, os, bare⟩
        cases q : H b with
        | none => exact un.keep b o e q (by intro z; exact absurd (show b ∈ ([] : List Addr) from z) (by simp)) (by simp)
        | some u =>
          rcases hO b with z | ⟨ob, xs, z⟩
          · rw [q] at z; cases z
          · have z2 := un.frzs b ob _ z
            obtain ⟨e1, _⟩ := hok b _ z
            obtain ⟨e2, _⟩ := hok' b _ z2
            rw [e] at e1; cases e1
            exact e2
  cases hk : K.lookup a with
  | some o =>
    -- the script is one of the module's own objects
    have e := KX a o hk
    rw [ha] at e
    cases e
    refine core (fun _ => none) (fun _ => .inl rfl) (.inr ⟨_, vs.toArray, _, hk, rfl, rfl, rfl, by rw [List.size_toArray, lenV]; exact hl, by simpa using rv⟩) (fun b u z => by have z' : (none : Option HO) = some u := z; cases z') (fun b z => absurd rfl z) fun z => absurd rfl z
  | none =>
    refine core (fun b => if b = a then some (.frz { cls := .type "list", data := .seq vs.toArray } (.lst (ns.map V.int))) else none) (fun b => ?_) (.inl (.inr ⟨{ cls := .type "list", data := .seq vs.toArray }, if_pos rfl⟩)) (fun b u z => ?_) (fun b z => ?_) fun _ => hk
    · by_cases hb : b = a
      · exact .inr ⟨_, _, if_pos hb⟩
      · exact .inl (if_neg hb)
    · by_cases hb : b = a
      · have z' := (if_pos hb).symm.trans z
        cases z'
        subst hb
        exact ⟨ha, by rw [List.length_map]; exact hl, vs, _, rv, ha⟩
      · have z' := (if_neg hb).symm.trans z
        cases z'
    · by_cases hb : b = a
      · exact hb
      · exact absurd (if_neg hb) z
end L2

namespace L2
open PySem PySem.Spec PyProof.Rows

abbrev KOf {K : PySem.W.Frag} {h : Heap} (_ : K.In h) : PySem.W.Frag := K

/-- the goal that k_head leaves (case hc), from the law's promise. F gives the function object fd (K's own) once, then the promise over every base -/
theorem walk_of {l : PySem.W.OpenLaw} {n k : Nat} {q : Program} {loose : List Str} {XP : (Str → Option Value) → Heap → Prop} {YP : World → Heap → Prop} {d : DefRec} {K : Params → PySem.W.Frag} {CX : World → CXT} {sp : World → Sp} {x : Str}
    (hn : l.most = some n) (hn2 : n ≤ sizeLine) (hdf : d.params.defaults = []) (hr : Room k callerA)
    (hY : ∀ (w : World) (h : Heap), YP w h → (K w.params).In h)
    (F : ∀ (w : World) (mg : Str → Option Value) (fa : Addr) (h : Heap), (K w.params).In h → h.Ns mainGlobals mg → mg d.name = some (.ref fa) →
      ∃ fd : FuncData, (∀ (s : Shared) (u : Value), BindsTo s fd ⟨[u], []⟩ [(x, u)]) ∧
        ∀ base : Heap, (K w.params).In base → base.Ns mainGlobals mg → FnOk l.prog w (K w.params) mg base (CX w) k fa fd [x] (sp w))
    (hsp : ∀ (w : World) (H : Hp) (a : Addr) (ns : List Int), ns.length ≤ n → Only H → SqL (K w.params) H a (ns.map V.int) → sp w [.ref a] H (fun v _ => v = .bl true) fun _ _ _ => False)
    (hCX : ∀ (w : World) (H : Hp) (s : Shared) (e : Value) (s' : Shared), CX w [] H s (fun _ _ _ => False) e s' → False) :
    PySem.W.WalkO q loose XP YP l.row.toRowW d [] (fun f vs => PySem.call f vs) := by
  refine Att.attach_call hn hdf fun w s₀ s₁ mg mb fa o pm cd doc a vs ns G Y ho hd hcd hmg hobj hints hlen hg => ?_
  have KX := hY w _ Y
  obtain ⟨fd, hb, hF⟩ := F w mg fa _ KX G.T.g hmg
  exact law_call KX G.T.g G.T.b G.T.builtins G.T.nolimit hg hobj hints (Nat.le_trans hlen hn2) hr hF hb (fun H hO hS => hsp w H a ns hlen hO hS) fun H e s' => hCX w H s₁ e s'
end L2

/- THE LAST THEOREM (shape; LID, My.* are yours):
   My.Adr: a structure of the addresses that your layer names (classes, functions); My.Txt K t: a structure (Prop) of the equations over K;
   My.txt_mk : {K} {implicit addresses ..} (e1 : nsIn K mainGlobals "law" = some (some (.ref f))) (e2 : K.lookup f = some ⟨oc, od, .func (fnOf "law" "law" params body scope dV kV doc pm an cdv ct), sl⟩) (e3 : codeIn K cdv "law" = true) .. : ∃ t, My.Txt K t

set_option maxRecDepth 100000 in
set_option maxHeartbeats 0 in
theorem PySem.Challenge.cw_LID_holds : PySem.Challenge.rw_LID.Holds := by
  w_on; o_law; k_head; (case hw => w_witness2)
  k_fill
  refine L2.walk_of (l := PySem.Challenge.rw_LID) (n := 63) (k := 40) (x := "script") (CX := fun w => ..) (sp := fun _ => My.sp_law) rfl (by decide) rfl ⟨rfl, by decide, by decide⟩ (fun w h Y => PySem.W.kIn_of Y) ?F ?S ?C
  case F =>
    intro w mg fa h KX G hmg
    have T : ∃ t, My.Txt (L2.KOf KX) t := by
      dsimp only [L2.KOf]                          -- K must stand as «<heap const> w.params» for k_is
      refine' My.txt_mk ?e1 ?e2 ?e3 ..
      (case e1 => PySem.W.k_is)                    -- in the order: a name -> its address -> its object -> its parts
      (case e2 => PySem.W.k_is)
      ..
    obtain ⟨t, T⟩ := T
    have e0 := hmg.symm.trans (PySem.W.mg_of KX G T.law)
    cases e0                                       -- fa is the law's own address
    exact ⟨_, fun s u => .of_eq rfl, fun base kb nb => My.law_fn T kb nb⟩     -- if «.of_eq rfl» comes too early: refine' ⟨_, ?b, fun base kb nb => My.law_fn T kb nb⟩; exact fun s u => .of_eq rfl
  case S => exact fun w H a ns hl hO hS => ..
  case C => exact ..
(the tactic k_is has no namespace: write k_is) -/

/-! SHORT WORDS over the layer: a def of the text, its body, what a loop and a test want. -/
namespace L2
open PySem PySem.Spec PyProof.Rows

/-! ### the text by places -/
/-- the j-th statement of a class's body -/
def inClass (s : Stmt) (j : Nat) : Stmt := match s with
  | .ClassDef _ _ _ body _ _ _ _ _ _ _ => body.getD j (.Pass ⟨0, 0, 0, 0⟩)
  | _ => .Pass ⟨0, 0, 0, 0⟩
def defArgs (s : Stmt) : Arguments := match s with
  | .FunctionDef _ a _ _ _ _ _ _ _ _ => a
  | _ => { posonlyargs := [], args := [], vararg := none, kwonlyargs := [], kw_defaults := [], kwarg := none, defaults := [] }
def defBody (s : Stmt) : List Stmt := match s with
  | .FunctionDef _ _ b _ _ _ _ _ _ _ => b
  | _ => []
def defScope (s : Stmt) : Scope := match s with
  | .FunctionDef _ _ _ _ _ _ sc _ _ _ => sc
  | _ => { kind := .function, names := [], isGenerator := false, isCoroutine := false }

/-! ### no exception leaves a def -/
abbrev CX0 : CXT := fun _ _ _ _ _ _ => False
abbrev E0 : XK := fun _ _ _ => False
theorem pass0 {X : Cx} : Passes CX0 X E0 := fun _ _ _ _ _ _ _ h => h.elim

/-! ### a def (or method) of the text as it stands behind the top -/
structure Fun (K : PySem.W.Frag) (x qual : Str) (st : Stmt) (f : Addr) (fd : FuncData) : Prop where
  ex : ∃ (oc : Value) (od : Option Addr) (kV doc pm : Value) (an : Option Addr) (cdv ct : Value) (osl : Array (Option Value)),
    fd = PySem.W.fnOf x qual (defArgs st) (defBody st) (defScope st) .none kV doc pm an cdv ct ∧ K.lookup f = some ⟨oc, od, .func fd, osl⟩ ∧ PySem.W.codeIn K cdv qual = true
  kp : PySem.W.keepIn K (.ref f) = true
section
variable {P : Program} {w : World} {K : PySem.W.Frag} {mg : Str → Option Value} {base : Heap}
/-- THE RULE for a def: its body as a term of rules, and the reading of that term -/
theorem Fun.ok {x qual : Str} {st : Stmt} {f : Addr} {fd : FuncData} {N ps : List Str} {k : Nat} {sp : Sp} (F : Fun K x qual st f fd) (S : FnScope N ps (defScope st)) (len : ∀ vs H Q E, sp vs H Q E → vs.length = ps.length)
    (hbody : ∀ (cdv : Value) (A : Around) (outer : List Env) (s : Shared) (H : Hp) (vs : List V) (Q : VK) (E : XK), Room k (A.deeper (envOfC qual (defScope st) s.heap.objs.size f cdv)) → sp vs H Q E →
      ∃ t, PSs (cxOf CX0 P w K mg base N qual (defScope st) f cdv A outer s H E).nox (defBody st) t ∧ t { nx := fun _ H' => Q .non H', rt := Q } (start N vs) H) : FnOk P w K mg base CX0 (k + 1) f fd ps sp := by
  obtain ⟨oc, od, kV, doc, pm, an, cdv, ct, osl, rfl, lk, hcd⟩ := F.ex
  refine fn_of lk hcd S len fun A outer s H vs Q E hr hsp => ?_
  obtain ⟨t, h, q⟩ := hbody cdv A outer s H vs Q E hr hsp
  exact ⟨t, h.nox, q⟩
/-- how its arguments bind (no defaults): h is «fun _ _ _ _ _ _ us hl => match us, hl with | [_, _], _ => rfl», one _ a parameter -/
theorem Fun.binds {x qual : Str} {st : Stmt} {f : Addr} {fd : FuncData} {ps : List Str} (F : Fun K x qual st f fd)
    (h : ∀ (kV doc pm : Value) (an : Option Addr) (cdv ct : Value) (us : List Value), us.length = ps.length → bindArgs (PySem.W.fnOf x qual (defArgs st) (defBody st) (defScope st) .none kV doc pm an cdv ct) ⟨us, []⟩ = pure (ps.zip us)) : Binds K fd ps [] := by
  obtain ⟨oc, od, kV, doc, pm, an, cdv, ct, osl, rfl, lk, hcd⟩ := F.ex
  exact .all (h kV doc pm an cdv ct)
theorem fun_mk {x qual : Str} {st : Stmt} {f : Addr} {oc : Value} {od an : Option Addr} {osl : Array (Option Value)} {kV doc pm cdv ct : Value} (l : K.lookup f = some ⟨oc, od, .func (PySem.W.fnOf x qual (defArgs st) (defBody st) (defScope st) .none kV doc pm an cdv ct), osl⟩)
    (c : PySem.W.codeIn K cdv qual = true) (k : PySem.W.keepIn K (.ref f) = true) : Fun K x qual st f (PySem.W.fnOf x qual (defArgs st) (defBody st) (defScope st) .none kV doc pm an cdv ct) := ⟨⟨oc, od, kV, doc, pm, an, cdv, ct, osl, rfl, l, c⟩, k⟩
end
theorem hu_of {A : Around} {k : Nat} (hr : Room k A) : A.units + 1 < cLine := Nat.lt_of_le_of_lt (Nat.add_le_add_left (by decide : 1 ≤ 64) _) hr.units

/-! ### expressions in short: the name that stands in the i-th slot -/
section
variable {X : Cx}
end

/-! ### tests -/
theorem iteF {A B : Prop} (h : B) : if false = true then A else B := by
  rw [if_neg Bool.false_ne_true]
  exact h
theorem iteT {A B : Prop} (h : A) : if true = true then A else B := by
  rw [if_pos rfl]
  exact h
theorem ite2 {c A B : Prop} [Decidable c] (h1 : c → A) (h2 : ¬ c → B) : if c then A else B := by
  by_cases h : c
  · rw [if_pos h]
    exact h1 h
  · rw [if_neg h]
    exact h2 h

/-! ### heaps -/
/-- all that was tracked is as it was -/
def Same (H H' : Hp) : Prop := ∀ b o, H b = some o → H' b = some o
theorem Same.refl (H : Hp) : Same H H := fun _ _ h => h
theorem Same.trans {H H1 H2 : Hp} (a : Same H H1) (b : Same H1 H2) : Same H H2 := fun c o h => b c o (a c o h)
theorem Same.free {H H' : Hp} (e : Same H H') {l : Addr} (h : H' l = Option.none) : H l = Option.none := by
  cases q : H l with
  | none => rfl
  | some o =>
    rw [e l o q] at h
    cases h
theorem Same.seq {K : PySem.W.Frag} {H H' : Hp} {a : Addr} {xs : List V} (e : Same H H') (h : SqL K H a xs) : SqL K H' a xs := by
  rcases h with (h | ⟨o, h⟩) | h
  · exact .inl (.inl (e _ _ h))
  · exact .inl (.inr ⟨o, e _ _ h⟩)
  · exact .inr h

end L2

namespace L2
open PySem PySem.Spec PyProof.Rows
section
variable {X : Cx}
end
end L2
namespace L2
open PySem PySem.Spec PyProof.Rows
/-! ### a dict's pairs: keys that differ -/
section
variable {κ : Type} [DecidableEq κ]
theorem valV_in {kvs : List (κ × V)} {k : κ} {v : V} (h : valV kvs k = some v) : k ∈ kvs.map (·.1) := by
  have q : (kvs.any fun kv => decide (kv.1 = k)) = true := by
    rw [valV_any, h]
    all_goals rfl
  obtain ⟨p, hp, e⟩ := List.any_eq_true.mp q
  exact List.mem_map.mpr ⟨p, hp, of_decide_eq_true e⟩
end
end L2
end
section
set_option Elab.async false
set_option linter.all false
set_option maxRecDepth 100000
set_option maxHeartbeats 4000000
namespace L2
open PySem
/-! ### a dict walked by its entries, whatever its keys -/
def DRaw (h : Heap) (d : Addr) (es : Array DictEntry) (ep : Nat) : Prop := ∃ ob, h.get? d = some ob ∧ ob.ExactDict ∧ ob.data = .dict es ep
theorem DRaw.type {s : Shared} {d : Addr} {es : Array DictEntry} {ep : Nat} (m : DRaw s.heap d es ep) : s.TypeIs (.ref d) "dict" := let ⟨ob, a, b, _⟩ := m; ⟨ob, a, b.1⟩
theorem DRaw.lt {h : Heap} {d : Addr} {es : Array DictEntry} {ep : Nat} (m : DRaw h d es ep) : d < h.objs.size := let ⟨_, a, _⟩ := m; Heap.lt_size a
theorem DRaw.at {h h' : Heap} {d : Addr} {es : Array DictEntry} {ep : Nat} (m : DRaw h d es ep) (k : ∀ o, h.get? d = some o → h'.get? d = some o) : DRaw h' d es ep := let ⟨ob, a, r⟩ := m; ⟨ob, k _ a, r⟩
section
variable {prog : Program} {w : World} {A : Around} {E : Value → Shared → Prop} {s : Shared}
theorem draw_iter {d : Addr} {es : Array DictEntry} {ep : Nat} {Q : Value → Shared → Prop} (lo : (d == sysModules) = false) (m : DRaw s.heap d es ep)
    (q : Q (.ref s.heap.objs.size) { s with heap := s.heap.push { cls := .type "dict_keyiterator", data := .fields #[.ref d, .int 0 0, .int es.size 0, .int ep 0] } }) : wpAny (model prog w) A (pyIter (.ref d)) Q E s := by
  obtain ⟨ob, g1, g2, g3⟩ := id m
  refine wpAny_pyIter_slot m.type F.slot_dict_iter (wpAny_call_entry F.slot_dict_iter m.type F.entry_dict_iter ?_ (F.args_dict_iter_1 _))
  (unfold Builtin.«dict.__iter__»; refine wpAny_bind ?_; unfold Builtin.Dict.dictSlotNone; refine wpAny_bind (wpAny_notOrdered_dict m.type ?_))
  (show wpAny _ _ (pure (Value.ref d)) _ _ s; refine wpAny_pure ?_)
  (show wpAny _ _ (Builtin.Dict.showsAll d >>= _) _ _ s; unfold Builtin.Dict.showsAll; rw [if_neg (by rw [lo]; exact Bool.false_ne_true)])
  refine wpAny_bind (wpAny_pure (wpAny_bind (wpAny_dictEntries g1 g3 (wpAny_bind (wpAny_dictEpoch g1 g3 ?_)))))
  refine wpAny_bind (wpAny_newObj_type (wpAny_pure ⟨_, rfl, "dict_keyiterator", _, ⟨_, Heap.get?_push_size _ rfl, rfl⟩, F.slot_dict_keyiterator_next.lookup, ?_⟩))
  simpa [rawInt] using q
theorem draw_item {it d : Addr} {i ep : Nat} {es : Array DictEntry} {Q : Option Value → Shared → Prop} (k : s.heap.IsKeyIter it d i es.size ep) (m : DRaw s.heap d es ep) (lt : i < es.size)
    (q : ∀ h', h'.IsKeyIter it d (i + 1) es.size ep → Heap.SameBut it s.heap h' → Q (some es[i].key) { s with heap := h' }) : wpAny (model prog w) A (pyNext (.ref it)) Q E s := by
  obtain ⟨oi, a1, a2, a3⟩ := id k
  obtain ⟨ob, g1, g2, g3⟩ := id m
  unfold pyNext
  refine wpAny_bind (wpAny_attempt (wpAny_callSpecial?_slot (name := Str.ofString "__next__") k.typeIs F.slot_dict_keyiterator_next (wpAny_call_entry F.slot_dict_keyiterator_next k.typeIs F.entry_dict_keyiterator_next ?_ (F.args_dict_keyiterator_next_1 _))))
  (refine wpAny_bind (wpAny_pure ?_); refine wpAny_bind ?_; refine wpAny_bind ?_)
  first | refine wpAny_bind (wpAny_typeNameOfWhole_keyiter k.typeIs (wpAny_pure ?_)) | refine wpAny_bind (wpAny_typeNameOf_keyiter k.typeIs (wpAny_pure ?_))
  refine wpAny_bind (wpAny_fieldsOf a1 a3 ?_)
  simp only [show Builtin.Dict_items.ownsTuple "dict_keyiterator" = false by decide, Bool.false_eq_true, if_false]
  (show wpAny _ _ (if (Value.ref d == Value.none) = true then _ else _) _ _ s; rw [if_neg (show ¬ ((Value.ref d == Value.none) = true) from fun z => Bool.false_ne_true z)])
  refine wpAny_bind (wpAny_pure (wpAny_bind (wpAny_dictEntries g1 g3 ?_)))
  (rw [if_neg (by simp)]; refine wpAny_bind (wpAny_pure (wpAny_bind (wpAny_dictEpoch g1 g3 ?_))))
  (rw [if_neg (by simp)]; refine wpAny_pure ?_)
  simp only [show ¬ ((i : Int) < 0) from by omega, if_false, Int.toNat_natCast, Array.getElem?_eq_getElem lt]
  refine wpAny_bind ?_
  first | refine wpAny_bind (wpAny_typeNameOfWhole_keyiter k.typeIs (wpAny_pure ?_)) | refine wpAny_bind (wpAny_typeNameOf_keyiter k.typeIs (wpAny_pure ?_))
  refine wpAny_bind (wpAny_isOneOf_keyiter k.typeIs ?_)
  (show wpAny _ _ (setField (.ref it) 1 (rawInt ((i : Int) + 1)) >>= _) _ _ s; refine wpAny_bind (wpAny_setField a1 a3 (by simp) ?_))
  have k' : (s.heap.update it (Obj.mapFields (·.setIfInBounds 1 (rawInt ((i : Int) + 1))))).IsKeyIter it d (i + 1) es.size ep := ⟨_, Heap.get?_update_self _ a1 (Obj.isFreed_of_fields (Obj.data_mapFields a3 _)), Eq.trans (Obj.cls_mapFields ..) a2, by rw [Obj.data_mapFields a3]; simp [rawInt]⟩
  refine wpAny_bind (wpAny_holding (wpAny_bind (wpAny_isOneOf_keyiter (s := { s with heap := s.heap.update it (Obj.mapFields (·.setIfInBounds 1 (rawInt ((i : Int) + 1)))) }) k'.typeIs ?_)))
  show wpAny _ _ (pure es[i].key) _ _ _
  exact wpAny_pure (wpAny_pure ⟨_, rfl, wpAny_pure (q _ k' (Heap.SameBut.update ..))⟩)
theorem draw_end {it d : Addr} {i ep : Nat} {es : Array DictEntry} {Q : Option Value → Shared → Prop} (hh : A.handled = none) (k : s.heap.IsKeyIter it d i es.size ep) (m : DRaw s.heap d es ep) (ge : es.size ≤ i)
    (q : ∀ h', Heap.ExtBut it s.heap h' → Q none { s with heap := h' }) : wpAny (model prog w) A (pyNext (.ref it)) Q E s := by
  obtain ⟨oi, a1, a2, a3⟩ := id k
  obtain ⟨ob, g1, g2, g3⟩ := id m
  unfold pyNext
  refine wpAny_bind (wpAny_attempt (wpAny_callSpecial?_slot (name := Str.ofString "__next__") k.typeIs F.slot_dict_keyiterator_next (wpAny_call_entry F.slot_dict_keyiterator_next k.typeIs F.entry_dict_keyiterator_next ?_ (F.args_dict_keyiterator_next_1 _))))
  (refine wpAny_bind (wpAny_pure ?_); refine wpAny_bind ?_; refine wpAny_bind ?_)
  first | refine wpAny_bind (wpAny_typeNameOfWhole_keyiter k.typeIs (wpAny_pure ?_)) | refine wpAny_bind (wpAny_typeNameOf_keyiter k.typeIs (wpAny_pure ?_))
  refine wpAny_bind (wpAny_fieldsOf a1 a3 ?_)
  simp only [show Builtin.Dict_items.ownsTuple "dict_keyiterator" = false by decide, Bool.false_eq_true, if_false]
  (show wpAny _ _ (if (Value.ref d == Value.none) = true then _ else _) _ _ s; rw [if_neg (show ¬ ((Value.ref d == Value.none) = true) from fun z => Bool.false_ne_true z)])
  refine wpAny_bind (wpAny_pure (wpAny_bind (wpAny_dictEntries g1 g3 ?_)))
  (rw [if_neg (by simp)]; refine wpAny_bind (wpAny_pure (wpAny_bind (wpAny_dictEpoch g1 g3 ?_))))
  (rw [if_neg (by simp)]; refine wpAny_pure ?_)
  simp only [show ¬ ((i : Int) < 0) from by omega, if_false, Int.toNat_natCast, Array.getElem?_eq_none ge]
  refine wpAny_bind ?_
  first | refine wpAny_bind (wpAny_typeNameOfWhole_keyiter k.typeIs (wpAny_pure ?_)) | refine wpAny_bind (wpAny_typeNameOf_keyiter k.typeIs (wpAny_pure ?_))
  (show wpAny _ _ (setField (.ref it) 0 .none >>= _) _ _ s; refine wpAny_bind (wpAny_setField a1 a3 (by simp) ?_))
  (show wpAny _ _ (newExc (.type "StopIteration") [] >>= _) _ _ _; refine wpAny_bind ?_; simp only [newExc, newTuple])
  refine wpAny_bind (wpAny_newObj_type (wpAny_bind (m := firstArgMember _ _) (wpAny_of_eq (a := Value.none) (by first | rfl | (simp only [firstArgMember] <;> rfl)) (wpAny_newObj_type ?_ (by size_fits)))) (by size_fits))
  (simp only [raiseNew]; refine wpAny_bind (wpAny_handled ?_); rw [show A.in1.handled = none from hh])
  refine wpAny_bind (wpAny_pure (wpAny_throw ?_))
  refine wpAny_bind (wpAny_isInstance (T := "StopIteration") (b := true) ⟨_, Heap.get?_push_size _ rfl, rfl⟩ isSubtype_stop (wpAny_pure ?_))
  exact q _ (((Heap.SameBut.update ..).extBut.push _).push _)
end
theorem walks_raw {prog : Program} {w : World} {A : Around} (hh : A.handled = none) (J d : Addr) (ne : d ≠ J) (es : Array DictEntry) (ep : Nat) :
    Walks prog w A J [J, d] [J] es.size (fun i v => ∃ e, es[i]? = some e ∧ v = e.key) (fun i h => h.IsKeyIter J d i es.size ep ∧ DRaw h d es ep) where
  sub := fun b hb => by simp at hb; simp [hb]
  frame := fun _ _ _ st hk => ⟨let ⟨o, a, r⟩ := st.1; ⟨o, hk J (by simp) o a, r⟩, st.2.at fun o e => hk d (by simp) o e⟩
  item := fun i s Q E lt st q => draw_item st.1 st.2 lt fun h' k' sb => q _ h' s.toks ⟨es[i], Array.getElem?_eq_getElem lt, rfl⟩ ⟨k', st.2.at fun o e => sb.extBut _ _ ne e⟩ fun b o hb e => sb.extBut b o (fun z => hb (by simp [z])) e
  done := fun s Q E st q => draw_end hh st.1 st.2 (Nat.le_refl _) fun h' eb => q h' s.toks fun b o hb e => eb b o (fun z => hb (by simp [z])) e
  self := fun _ _ _ _ st q => wpAny_pyIter_keyiter st.1 q
end L2
end
section
set_option linter.all false
namespace Kn
open PySem
/-- a value of the document, as a tree -/
inductive Val where
  | num (i : Int)
  | word (s : Str)
  | row (ps : List (Str × Val))
  | bag (ps : List (Val × Int))
/-- an item of an order key -/
inductive KE where
  | i (n : Int)
  | s (x : Str)
noncomputable instance : DecidableEq Val := fun a b => Classical.propDecidable (a = b)
noncomputable instance : DecidableEq KE := fun a b => Classical.propDecidable (a = b)
def sLt (a b : Str) : Bool := decide (a.cps.toList < b.cps.toList)
def rank : Val → Int
  | .num _ => 0
  | .word _ => 1
  | .row _ => 2
  | .bag _ => 3
mutual
def key : Val → List KE
  | .num i => [.i 0, .i i]
  | .word s => [.i 1, .s s]
  | .row ps => .i 2 :: keyR ps
  | .bag ps => .i 3 :: keyB ps
def keyR : List (Str × Val) → List KE
  | [] => [.i 0]
  | p :: ps => .i 1 :: .s p.1 :: (key p.2 ++ keyR ps)
def keyB : List (Val × Int) → List KE
  | [] => [.i 0]
  | p :: ps => .i 1 :: (key p.1 ++ .i p.2 :: keyB ps)
end
mutual
noncomputable def ltV : Val → Val → Bool
  | .num i, .num j => decide (i < j)
  | .word s, .word t => sLt s t
  | .row ps, .row qs => ltR ps qs
  | .bag ps, .bag qs => ltB ps qs
  | x, y => decide (rank x < rank y)
noncomputable def ltR : List (Str × Val) → List (Str × Val) → Bool
  | [], [] => false
  | [], _ :: _ => true
  | _ :: _, [] => false
  | p :: ps, q :: qs => if p = q then ltR ps qs else if p.1 = q.1 then ltV p.2 q.2 else sLt p.1 q.1
noncomputable def ltB : List (Val × Int) → List (Val × Int) → Bool
  | [], [] => false
  | [], _ :: _ => true
  | _ :: _, [] => false
  | p :: ps, q :: qs => if p = q then ltB ps qs else if p.1 = q.1 then decide (p.2 < q.2) else ltV p.1 q.1
end
/-- tuples of ints and texts by < : none where an int meets a text -/
def kEl : KE → KE → Option Bool
  | .i m, .i n => some (decide (m < n))
  | .s x, .s y => some (sLt x y)
  | _, _ => none
noncomputable def cmpK : List KE → List KE → Option Bool
  | [], [] => some false
  | [], _ :: _ => some true
  | _ :: _, [] => some false
  | a :: as, b :: bs => if a = b then cmpK as bs else kEl a b
theorem cmpK_same {a : KE} {as bs : List KE} : cmpK (a :: as) (a :: bs) = cmpK as bs := by rw [cmpK, if_pos rfl]
theorem cmpK_int {m n : Int} {as bs : List KE} (h : m ≠ n) : cmpK (.i m :: as) (.i n :: bs) = some (decide (m < n)) := by
  rw [cmpK, if_neg (by intro e; injection e with e; exact h e)]; rfl
theorem cmpK_str {m n : Str} {as bs : List KE} (h : m ≠ n) : cmpK (.s m :: as) (.s n :: bs) = some (sLt m n) := by
  rw [cmpK, if_neg (by intro e; injection e with e; exact h e)]; rfl
mutual
theorem cmp_key : ∀ (x y : Val) (r r' : List KE), cmpK (key x ++ r) (key y ++ r') = if x = y then cmpK r r' else some (ltV x y)
  | .num i, .num j, r, r' => by
    simp only [key, List.cons_append, List.nil_append, cmpK_same]
    by_cases h : i = j
    · subst h; rw [if_pos rfl, cmpK_same]
    · rw [if_neg (by intro e; injection e with e; exact h e), cmpK_int h, ltV]
  | .word i, .word j, r, r' => by
    simp only [key, List.cons_append, List.nil_append, cmpK_same]
    by_cases h : i = j
    · subst h; rw [if_pos rfl, cmpK_same]
    · rw [if_neg (by intro e; injection e with e; exact h e), cmpK_str h, ltV]
  | .row ps, .row qs, r, r' => by
    simp only [key, List.cons_append, cmpK_same]
    rw [cmp_keyR ps qs r r']
    by_cases h : ps = qs
    · subst h; rw [if_pos rfl, if_pos rfl]
    · rw [if_neg h, if_neg (by intro e; injection e with e; exact h e), ltV]
  | .bag ps, .bag qs, r, r' => by
    simp only [key, List.cons_append, cmpK_same]
    rw [cmp_keyB ps qs r r']
    by_cases h : ps = qs
    · subst h; rw [if_pos rfl, if_pos rfl]
    · rw [if_neg h, if_neg (by intro e; injection e with e; exact h e), ltV]
  | .num _, .word _, r, r' => by simp [key, cmpK, kEl, ltV, rank]
  | .num _, .row _, r, r' => by simp [key, cmpK, kEl, ltV, rank]
  | .num _, .bag _, r, r' => by simp [key, cmpK, kEl, ltV, rank]
  | .word _, .num _, r, r' => by simp [key, cmpK, kEl, ltV, rank]
  | .word _, .row _, r, r' => by simp [key, cmpK, kEl, ltV, rank]
  | .word _, .bag _, r, r' => by simp [key, cmpK, kEl, ltV, rank]
  | .row _, .num _, r, r' => by simp [key, cmpK, kEl, ltV, rank]
  | .row _, .word _, r, r' => by simp [key, cmpK, kEl, ltV, rank]
  | .row _, .bag _, r, r' => by simp [key, cmpK, kEl, ltV, rank]
  | .bag _, .num _, r, r' => by simp [key, cmpK, kEl, ltV, rank]
  | .bag _, .word _, r, r' => by simp [key, cmpK, kEl, ltV, rank]
  | .bag _, .row _, r, r' => by simp [key, cmpK, kEl, ltV, rank]
theorem cmp_keyR : ∀ (ps qs : List (Str × Val)) (r r' : List KE), cmpK (keyR ps ++ r) (keyR qs ++ r') = if ps = qs then cmpK r r' else some (ltR ps qs)
  | [], [], r, r' => by simp [keyR, cmpK_same, cmpK]
  | [], q :: qs, r, r' => by
    simp only [keyR, List.cons_append, List.nil_append]
    rw [cmpK_int (by decide), if_neg (by intro e; cases e), ltR]; rfl
  | p :: ps, [], r, r' => by
    simp only [keyR, List.cons_append, List.nil_append]
    rw [cmpK_int (by decide), if_neg (by intro e; cases e), ltR]; rfl
  | p :: ps, q :: qs, r, r' => by
    simp only [keyR, List.cons_append, List.append_assoc, cmpK_same]
    by_cases hf : p.1 = q.1
    · rw [hf, cmpK_same, cmp_key p.2 q.2 _ _]
      by_cases hx : p.2 = q.2
      · have e : p = q := Prod.ext hf hx
        subst e
        rw [if_pos rfl, cmp_keyR ps qs r r', ltR, if_pos rfl]
        by_cases h : ps = qs
        · subst h; rw [if_pos rfl, if_pos rfl]
        · rw [if_neg h, if_neg (by intro e; injection e with _ e; exact h e)]
      · have e : ¬ p = q := fun z => hx (by rw [z])
        rw [if_neg hx, if_neg (by intro z; injection z with z _; exact e z), ltR, if_neg e, if_pos hf]
    · have e : ¬ p = q := fun z => hf (by rw [z])
      rw [cmpK_str hf, if_neg (by intro z; injection z with z _; exact e z), ltR, if_neg e, if_neg hf]
theorem cmp_keyB : ∀ (ps qs : List (Val × Int)) (r r' : List KE), cmpK (keyB ps ++ r) (keyB qs ++ r') = if ps = qs then cmpK r r' else some (ltB ps qs)
  | [], [], r, r' => by simp [keyB, cmpK_same, cmpK]
  | [], q :: qs, r, r' => by
    simp only [keyB, List.cons_append, List.nil_append]
    rw [cmpK_int (by decide), if_neg (by intro e; cases e), ltB]; rfl
  | p :: ps, [], r, r' => by
    simp only [keyB, List.cons_append, List.nil_append]
    rw [cmpK_int (by decide), if_neg (by intro e; cases e), ltB]; rfl
  | p :: ps, q :: qs, r, r' => by
    simp only [keyB, List.cons_append, List.append_assoc, cmpK_same]
    rw [cmp_key p.1 q.1 _ _]
    by_cases hx : p.1 = q.1
    · rw [if_pos hx]
      by_cases hf : p.2 = q.2
      · have e : p = q := Prod.ext hx hf
        subst e
        rw [cmpK_same, cmp_keyB ps qs r r', ltB, if_pos rfl]
        by_cases h : ps = qs
        · subst h; rw [if_pos rfl, if_pos rfl]
        · rw [if_neg h, if_neg (by intro e; injection e with _ e; exact h e)]
      · have e : ¬ p = q := fun z => hf (by rw [z])
        rw [cmpK_int hf, if_neg (by intro z; injection z with z _; exact e z), ltB, if_neg e, if_pos hx]
    · have e : ¬ p = q := fun z => hx (by rw [z])
      rw [if_neg hx, if_neg (by intro z; injection z with z _; exact e z), ltB, if_neg e, if_neg hx]
end
/-- what ahead tells -/
noncomputable def aheadB (x y : Val) : Bool := if x = y then false else ltV x y
theorem cmp_keys (x y : Val) : cmpK (key x) (key y) = some (aheadB x y) := by
  have h := cmp_key x y [] []
  simp only [List.append_nil] at h
  rw [h]
  unfold aheadB
  by_cases e : x = y
  · rw [if_pos e, if_pos e]; rfl
  · rw [if_neg e, if_neg e]
theorem sLt_irrefl (x : Str) : sLt x x = false := by
  unfold sLt
  exact decide_eq_false (List.lt_irrefl _)
theorem sLt_trans {x y z : Str} (h1 : sLt x y = true) (h2 : sLt y z = true) : sLt x z = true := by
  unfold sLt at *
  exact decide_eq_true (List.lt_trans (of_decide_eq_true h1) (of_decide_eq_true h2))
theorem cmpK_trans : ∀ (a b c : List KE), cmpK a b = some true → cmpK b c = some true → cmpK a c = some true
  | [], [], _, h, _ => by cases h
  | [], _ :: _, [], _, h => by cases h
  | [], _ :: _, _ :: _, _, _ => rfl
  | _ :: _, [], _, h, _ => by cases h
  | _ :: _, _ :: _, [], _, h => by cases h
  | a :: as, b :: bs, c :: cs, h1, h2 => by
    by_cases e1 : a = b
    · subst e1
      rw [cmpK_same] at h1
      by_cases e2 : a = c
      · subst e2
        rw [cmpK_same] at h2 ⊢
        exact cmpK_trans as bs cs h1 h2
      · rw [cmpK, if_neg e2] at h2 ⊢
        exact h2
    · by_cases e2 : b = c
      · subst e2
        rw [cmpK, if_neg e1] at h1 ⊢
        exact h1
      · rw [cmpK, if_neg e1] at h1
        rw [cmpK, if_neg e2] at h2
        cases a with
        | i m =>
          cases b with
          | i n =>
            cases c with
            | i k =>
              have g1 : m < n := of_decide_eq_true (Option.some.inj h1)
              have g2 : n < k := of_decide_eq_true (Option.some.inj h2)
              have g : m < k := by omega
              rw [cmpK_int (by omega), decide_eq_true g]
            | s z => cases h2
          | s y => cases h1
        | s x =>
          cases b with
          | i n => cases h1
          | s y =>
            cases c with
            | i k => cases h2
            | s z =>
              have g1 : sLt x y = true := Option.some.inj h1
              have g2 : sLt y z = true := Option.some.inj h2
              have g := sLt_trans g1 g2
              rw [cmpK_str (by intro e; subst e; rw [sLt_irrefl] at g; cases g), g]
theorem ahead_trans {x y z : Val} (h1 : aheadB x y = true) (h2 : aheadB y z = true) : aheadB x z = true := by
  have e1 := cmp_keys x y
  have e2 := cmp_keys y z
  rw [h1] at e1
  rw [h2] at e2
  have e := cmpK_trans _ _ _ e1 e2
  rw [cmp_keys x z] at e
  exact Option.some.inj e
end Kn
end
section
set_option Elab.async false
set_option linter.all false
set_option maxRecDepth 100000
set_option maxHeartbeats 4000000
namespace L2
open PySem PySem.Spec PyProof.Rows

/-! ### data: ints, texts, tuples of data -/
inductive Dt where
  | int (i : Int)
  | str (x : Str)
  | tup (ds : List Dt)
noncomputable instance : DecidableEq Dt := fun a b => Classical.propDecidable (a = b)
mutual
def Dt.dep : Dt → Nat
  | .int _ => 0
  | .str _ => 0
  | .tup ds => depL ds + 1
def depL : List Dt → Nat
  | [] => 0
  | d :: ds => max d.dep (depL ds)
end
theorem dep_mem : ∀ {ds : List Dt} {d : Dt}, d ∈ ds → d.dep ≤ depL ds
  | d :: ds, e, h => by
    rw [depL]
    rcases List.mem_cons.mp h with rfl | h
    · exact Nat.le_max_left _ _
    · exact Nat.le_trans (dep_mem h) (Nat.le_max_right _ _)
mutual
def IsDt (H : Hp) : Dt → V → Prop
  | .int i, v => v = .int i
  | .str x, v => v = .str x
  | .tup ds, v => ∃ a xs, v = .ref a ∧ H a = some (.tup xs) ∧ IsDts H ds xs
def IsDts (H : Hp) : List Dt → List V → Prop
  | [], xs => xs = []
  | d :: ds, xs => ∃ y ys, xs = y :: ys ∧ IsDt H d y ∧ IsDts H ds ys
end
/-- tuples stay -/
def Tups (H H' : Hp) : Prop := ∀ b xs, H b = some (.tup xs) → H' b = some (.tup xs)
theorem Tups.refl (H : Hp) : Tups H H := fun _ _ h => h
theorem Tups.trans {H H1 H2 : Hp} (a : Tups H H1) (b : Tups H1 H2) : Tups H H2 := fun c xs h => b c xs (a c xs h)
theorem Same.tups {H H' : Hp} (h : Same H H') : Tups H H' := fun b xs e => h b _ e
theorem Tups.new {H : Hp} {p : Addr} (h : H p = none) (o : HO) : Tups H (upd H p o) := fun b xs e => by rw [upd_ne (ne_of_none e h)]; exact e
theorem Tups.lst {H : Hp} {p : Addr} {xs ys : List V} (h : H p = some (.lst xs)) : Tups H (upd H p (.lst ys)) := fun b zs e => by
  rw [upd_ne (ne_of e h (by intro z; cases z))]; exact e
mutual
theorem IsDt.mono {H H' : Hp} (t : Tups H H') : ∀ {d : Dt} {v : V}, IsDt H d v → IsDt H' d v
  | .int i, v, h => by rw [IsDt] at h ⊢; exact h
  | .str x, v, h => by rw [IsDt] at h ⊢; exact h
  | .tup ds, v, h => by
    rw [IsDt] at h ⊢
    obtain ⟨a, xs, e, h1, h2⟩ := h
    exact ⟨a, xs, e, t a xs h1, IsDts.mono t h2⟩
theorem IsDts.mono {H H' : Hp} (t : Tups H H') : ∀ {ds : List Dt} {xs : List V}, IsDts H ds xs → IsDts H' ds xs
  | [], xs, h => by rw [IsDts] at h ⊢; exact h
  | d :: ds, xs, h => by
    rw [IsDts] at h ⊢
    obtain ⟨y, ys, e, h1, h2⟩ := h
    exact ⟨y, ys, e, IsDt.mono t h1, IsDts.mono t h2⟩
end
mutual
theorem IsDt.inj {H : Hp} : ∀ {d e : Dt} {v : V}, IsDt H d v → IsDt H e v → d = e
  | .int i, e, v, h, h' => by
    rw [IsDt] at h; subst h
    cases e with
    | int j => rw [IsDt] at h'; cases h'; rfl
    | str y => rw [IsDt] at h'; cases h'
    | tup es => rw [IsDt] at h'; obtain ⟨_, _, z, _⟩ := h'; cases z
  | .str i, e, v, h, h' => by
    rw [IsDt] at h; subst h
    cases e with
    | int j => rw [IsDt] at h'; cases h'
    | str y => rw [IsDt] at h'; cases h'; rfl
    | tup es => rw [IsDt] at h'; obtain ⟨_, _, z, _⟩ := h'; cases z
  | .tup ds, e, v, h, h' => by
    rw [IsDt] at h
    obtain ⟨a, xs, rfl, h1, h2⟩ := h
    cases e with
    | int j => rw [IsDt] at h'; cases h'
    | str y => rw [IsDt] at h'; cases h'
    | tup es =>
      rw [IsDt] at h'
      obtain ⟨b, ys, z, g1, g2⟩ := h'
      cases z
      rw [h1] at g1
      cases g1
      rw [IsDts.inj h2 g2]
theorem IsDts.inj {H : Hp} : ∀ {ds es : List Dt} {xs : List V}, IsDts H ds xs → IsDts H es xs → ds = es
  | [], es, xs, h, h' => by
    rw [IsDts] at h; subst h
    cases es with
    | nil => rfl
    | cons e es => rw [IsDts] at h'; obtain ⟨_, _, z, _⟩ := h'; cases z
  | d :: ds, es, xs, h, h' => by
    rw [IsDts] at h
    obtain ⟨y, ys, rfl, h1, h2⟩ := h
    cases es with
    | nil => rw [IsDts] at h'; cases h'
    | cons e es =>
      rw [IsDts] at h'
      obtain ⟨y', ys', z, g1, g2⟩ := h'
      cases z
      rw [IsDt.inj h1 g1, IsDts.inj h2 g2]
end
theorem IsDts.length {H : Hp} : ∀ {ds : List Dt} {xs : List V}, IsDts H ds xs → xs.length = ds.length
  | [], xs, h => by rw [IsDts] at h; subst h; rfl
  | d :: ds, xs, h => by
    rw [IsDts] at h
    obtain ⟨y, ys, rfl, h1, h2⟩ := h
    simp [IsDts.length h2]
theorem IsDts.get {H : Hp} : ∀ {ds : List Dt} {xs : List V} {i : Nat} {d : Dt}, IsDts H ds xs → ds[i]? = some d → ∃ y, xs[i]? = some y ∧ IsDt H d y
  | [], xs, i, d, h, e => by simp at e
  | c :: ds, xs, 0, d, h, e => by
    rw [IsDts] at h
    obtain ⟨y, ys, rfl, h1, h2⟩ := h
    simp at e; subst e
    exact ⟨y, rfl, h1⟩
  | c :: ds, xs, i + 1, d, h, e => by
    rw [IsDts] at h
    obtain ⟨y, ys, rfl, h1, h2⟩ := h
    obtain ⟨z, q, r⟩ := IsDts.get (i := i) h2 (by simpa using e)
    exact ⟨z, by simpa using q, r⟩
theorem IsDts.append {H : Hp} : ∀ {ds es : List Dt} {xs ys : List V}, IsDts H ds xs → IsDts H es ys → IsDts H (ds ++ es) (xs ++ ys)
  | [], es, xs, ys, h, h' => by rw [IsDts] at h; subst h; exact h'
  | d :: ds, es, xs, ys, h, h' => by
    rw [IsDts] at h
    obtain ⟨z, zs, rfl, h1, h2⟩ := h
    rw [List.cons_append, List.cons_append, IsDts]
    exact ⟨z, zs ++ ys, rfl, h1, IsDts.append h2 h'⟩
theorem IsDts.take {H : Hp} : ∀ {ds : List Dt} {xs : List V} (n : Nat), IsDts H ds xs → IsDts H (ds.take n) (xs.take n)
  | _, _, 0, _ => by rw [List.take_zero, List.take_zero, IsDts]
  | [], xs, n + 1, h => by rw [IsDts] at h; subst h; rw [List.take_nil, List.take_nil, IsDts]
  | d :: ds, xs, n + 1, h => by
    rw [IsDts] at h
    obtain ⟨z, zs, rfl, h1, h2⟩ := h
    rw [List.take_succ_cons, List.take_succ_cons, IsDts]
    exact ⟨z, _, rfl, h1, IsDts.take n h2⟩
theorem IsDts.drop {H : Hp} : ∀ {ds : List Dt} {xs : List V} (n : Nat), IsDts H ds xs → IsDts H (ds.drop n) (xs.drop n)
  | _, _, 0, h => by rw [List.drop_zero, List.drop_zero]; exact h
  | [], xs, n + 1, h => by rw [IsDts] at h; subst h; rw [List.drop_nil, List.drop_nil, IsDts]
  | d :: ds, xs, n + 1, h => by
    rw [IsDts] at h
    obtain ⟨z, zs, rfl, h1, h2⟩ := h
    rw [List.drop_succ_cons, List.drop_succ_cons]
    exact IsDts.drop n h2
theorem IsDts.one {H : Hp} {d : Dt} {v : V} (h : IsDt H d v) : IsDts H [d] [v] := by
  rw [IsDts]; exact ⟨v, [], rfl, h, by rw [IsDts]⟩
theorem IsDts.cons {H : Hp} {d : Dt} {v : V} {ds : List Dt} {vs : List V} (h : IsDt H d v) (h' : IsDts H ds vs) : IsDts H (d :: ds) (v :: vs) := by
  rw [IsDts]; exact ⟨v, vs, rfl, h, h'⟩
theorem IsDts.nil {H : Hp} : IsDts H [] [] := by rw [IsDts]
theorem isDt_int {H : Hp} (i : Int) : IsDt H (.int i) (.int i) := by rw [IsDt]
theorem isDt_str {H : Hp} (x : Str) : IsDt H (.str x) (.str x) := by rw [IsDt]
theorem isDt_tup {H : Hp} {a : Addr} {xs : List V} {ds : List Dt} (h : H a = some (.tup xs)) (h' : IsDts H ds xs) : IsDt H (.tup ds) (.ref a) := by rw [IsDt]; exact ⟨a, xs, rfl, h, h'⟩
/-- a tuple of data just made -/
theorem isDt_new {H : Hp} {p : Addr} {xs : List V} {ds : List Dt} (hp : H p = none) (h' : IsDts H ds xs) : IsDt (upd H p (.tup xs)) (.tup ds) (.ref p) :=
  isDt_tup upd_same (h'.mono (.new hp _))

/-! ### == of data -/
section
variable {P : Program} {w : World} {H : Hp}
theorem all_eq (ds es : List Dt) : ((List.range (min ds.length es.length)).all (fun j => decide (ds[j]? = es[j]?)) && ds.length == es.length) = decide (ds = es) := by
  rw [Bool.eq_iff_iff]
  simp only [Bool.and_eq_true, List.all_eq_true, List.mem_range, decide_eq_true_eq, beq_iff_eq]
  constructor
  · rintro ⟨h1, h2⟩
    refine List.ext_getElem? fun i => ?_
    by_cases hi : i < min ds.length es.length
    · exact h1 i hi
    · rw [List.getElem?_eq_none (by omega), List.getElem?_eq_none (by omega)]
  · rintro rfl
    exact ⟨fun _ _ => rfl, rfl⟩
theorem eqAt_D : ∀ (n : Nat) (A : Around) (s : Shared) (d e : Dt) (v u : V) (x y : Value), HOk P w H s.heap → d.dep ≤ n → A.units + n < cLine → IsDt H d v → IsDt H e u → RelV v x → RelV u y → SeqAt.EqAt A s x y (decide (d = e)) := by
  intro n
  induction n with
  | zero =>
    intro A s d e v u x y ok hd hu iv iu rv ru
    cases d with
    | int i =>
      rw [IsDt] at iv; subst iv
      obtain ⟨t, rfl⟩ := rv
      cases e with
      | int j =>
        rw [IsDt] at iu; subst iu
        obtain ⟨t', rfl⟩ := ru
        have z : decide (Dt.int i = Dt.int j) = (i == j) := by rw [Bool.eq_iff_iff]; simp
        rw [z]; exact SeqAt.EqAt.int_int i t j t'
      | str z =>
        rw [IsDt] at iu; subst iu
        obtain ⟨t', rfl⟩ := ru
        rw [decide_eq_false (by intro q; cases q)]; exact SeqAt.EqAt.int_str i t z t'
      | tup es =>
        rw [IsDt] at iu
        obtain ⟨a, xs, rfl, h1, h2⟩ := iu
        cases ru
        obtain ⟨hz, its, r, p⟩ := ok a _ h1
        rw [decide_eq_false (by intro q; cases q)]; exact SeqAt.EqAt.int_tuple i t p (by omega)
    | str i =>
      rw [IsDt] at iv; subst iv
      obtain ⟨t, rfl⟩ := rv
      cases e with
      | int j =>
        rw [IsDt] at iu; subst iu
        obtain ⟨t', rfl⟩ := ru
        rw [decide_eq_false (by intro q; cases q)]; exact SeqAt.EqAt.str_int i t j t'
      | str z =>
        rw [IsDt] at iu; subst iu
        obtain ⟨t', rfl⟩ := ru
        have q : decide (Dt.str i = Dt.str z) = (i == z) := by rw [Bool.eq_iff_iff]; simp
        rw [q]; exact SeqAt.EqAt.str_str i t z t'
      | tup es =>
        rw [IsDt] at iu
        obtain ⟨a, xs, rfl, h1, h2⟩ := iu
        cases ru
        obtain ⟨hz, its, r, p⟩ := ok a _ h1
        rw [decide_eq_false (by intro q; cases q)]; exact SeqAt.EqAt.str_tuple i t p (by omega)
    | tup ds => rw [Dt.dep] at hd; omega
  | succ n ih =>
    intro A s d e v u x y ok hd hu iv iu rv ru
    cases d with
    | int i => exact ih A s _ e v u x y ok (by rw [Dt.dep]; omega) (by omega) iv iu rv ru
    | str i => exact ih A s _ e v u x y ok (by rw [Dt.dep]; omega) (by omega) iv iu rv ru
    | tup ds =>
      rw [IsDt] at iv
      obtain ⟨a, xs, rfl, h1, h2⟩ := iv
      cases rv
      obtain ⟨hz, its, r, p⟩ := ok a _ h1
      cases e with
      | int j =>
        rw [IsDt] at iu; subst iu
        obtain ⟨t', rfl⟩ := ru
        rw [decide_eq_false (by intro q; cases q)]; exact SeqAt.EqAt.tuple_int j t' p (by omega)
      | str z =>
        rw [IsDt] at iu; subst iu
        obtain ⟨t', rfl⟩ := ru
        rw [decide_eq_false (by intro q; cases q)]; exact SeqAt.EqAt.tuple_str z t' p (by omega)
      | tup es =>
        have iu' := iu
        rw [IsDt] at iu
        obtain ⟨b, ys, rfl, g1, g2⟩ := iu
        cases ru
        obtain ⟨hz2, its2, r2, p2⟩ := ok b _ g1
        by_cases hab : a = b
        · subst hab
          rw [h1] at g1
          cases g1
          rw [IsDts.inj h2 g2, decide_eq_true rfl]
          exact SeqAt.EqAt.same _
        · have l1 : its.toArray.size = ds.length := by rw [List.size_toArray, ← r.length, h2.length]
          have l2 : its2.toArray.size = es.length := by rw [List.size_toArray, ← r2.length, g2.length]
          have q := SeqAt.RcAt.tuples (s := s) (A := A) (e := fun j => decide (ds[j]? = es[j]?)) p p2 (by omega) fun j hj1 hj2 => by
            have k1 : j < ds.length := by rw [← l1]; exact hj1
            have k2 : j < es.length := by rw [← l2]; exact hj2
            obtain ⟨y1, e1, i1⟩ := h2.get (i := j) (List.getElem?_eq_getElem k1)
            obtain ⟨y2, e2, i2⟩ := g2.get (i := j) (List.getElem?_eq_getElem k2)
            obtain ⟨u1, f1, q1⟩ := r.get e1
            obtain ⟨u2, f2, q2⟩ := r2.get e2
            have w1 : its.toArray[j] = u1 := by
              have := (List.getElem?_eq_some_iff.mp f1).2
              simpa using this
            have w2 : its2.toArray[j] = u2 := by
              have := (List.getElem?_eq_some_iff.mp f2).2
              simpa using this
            rw [w1, w2, List.getElem?_eq_getElem k1, List.getElem?_eq_getElem k2]
            have z : decide (some ds[j] = some es[j]) = decide (ds[j] = es[j]) := by rw [Bool.eq_iff_iff]; simp
            rw [z]
            have hdep : ds[j].dep ≤ n := by
              have := dep_mem (List.getElem_mem k1)
              rw [Dt.dep] at hd
              omega
            exact ih A.in1 s _ _ y1 y2 u1 u2 ok hdep (by show A.units + 1 + n < cLine; omega) i1 i2 q1 q2
          rw [l1, l2, all_eq] at q
          have z : decide (Dt.tup ds = Dt.tup es) = decide (ds = es) := by rw [Bool.eq_iff_iff]; simp
          rw [z]
          exact SeqAt.EqAt.of_refs hab q
end
section
variable {X : Cx}
/-- how deep data may be for == -/
def depMax : Nat := 100
def rEqD : R2 := fun x y H Q => ∃ d e, IsDt H d x ∧ IsDt H e y ∧ d.dep ≤ depMax ∧ Q (.bl (decide (d = e))) H
def rNeD : R2 := fun x y H Q => ∃ d e, IsDt H d x ∧ IsDt H e y ∧ d.dep ≤ depMax ∧ Q (.bl (!decide (d = e))) H
theorem items_eq {P : Program} {w : World} {H : Hp} {s : Shared} {A : Around} {ds es : List Dt} {xs ys : List V} {its its2 : List Value} {n : Nat} (ok : HOk P w H s.heap) (hd : depL ds ≤ n) (hu : A.units + n < cLine) (h2 : IsDts H ds xs) (g2 : IsDts H es ys) (r : Vals xs its) (r2 : Vals ys its2) :
    ∀ j (h1 : j < its.toArray.size) (h2 : j < its2.toArray.size), SeqAt.EqAt A s its.toArray[j] its2.toArray[j] (decide (ds[j]? = es[j]?)) := fun j hj1 hj2 => by
  have l1 : its.toArray.size = ds.length := by rw [List.size_toArray, ← r.length, h2.length]
  have l2 : its2.toArray.size = es.length := by rw [List.size_toArray, ← r2.length, g2.length]
  have k1 : j < ds.length := by rw [← l1]; exact hj1
  have k2 : j < es.length := by rw [← l2]; exact hj2
  obtain ⟨y1, e1, i1⟩ := h2.get (i := j) (List.getElem?_eq_getElem k1)
  obtain ⟨y2, e2, i2⟩ := g2.get (i := j) (List.getElem?_eq_getElem k2)
  obtain ⟨u1, f1, q1⟩ := r.get e1
  obtain ⟨u2, f2, q2⟩ := r2.get e2
  have w1 : its.toArray[j] = u1 := by
    have := (List.getElem?_eq_some_iff.mp f1).2
    simpa using this
  have w2 : its2.toArray[j] = u2 := by
    have := (List.getElem?_eq_some_iff.mp f2).2
    simpa using this
  rw [w1, w2, List.getElem?_eq_getElem k1, List.getElem?_eq_getElem k2]
  have z : decide (some ds[j] = some es[j]) = decide (ds[j] = es[j]) := by rw [Bool.eq_iff_iff]; simp
  rw [z]
  exact eqAt_D n A s _ _ y1 y2 u1 u2 ok (Nat.le_trans (dep_mem (List.getElem_mem k1)) hd) hu i1 i2 q1 q2
theorem op_eqD (hu : X.A.units + 110 < cLine) : OpR X (compareOp .Eq) rEqD := by
  intro pins s σ H x y v u Q I rx ry h
  obtain ⟨d, e, ix, iy, hd, q⟩ := h
  cases d with
  | int i =>
    rw [IsDt] at ix; subst ix
    cases e with
    | int j =>
      rw [IsDt] at iy; subst iy
      refine op_eq pins s σ H _ _ v u Q I rx ry ⟨rfl, ?_⟩
      have z : decide (V.int i = V.int j) = decide (Dt.int i = Dt.int j) := by rw [Bool.eq_iff_iff]; simp
      rw [z]; exact q
    | str j =>
      rw [IsDt] at iy; subst iy
      refine op_eq pins s σ H _ _ v u Q I rx ry ⟨rfl, ?_⟩
      have z : decide (V.int i = V.str j) = decide (Dt.int i = Dt.str j) := by rw [Bool.eq_iff_iff]; simp
      rw [z]; exact q
    | tup es =>
      rw [IsDt] at iy
      obtain ⟨a, xs, rfl, h1, h2⟩ := iy
      cases ry
      obtain ⟨t, rfl⟩ := rx
      obtain ⟨hz, its, r, p⟩ := I.hok a _ h1
      rw [decide_eq_false (by intro q; cases q)] at q
      exact SeqAt.RcAt.int_tuple i t p (by omega) _ _ _ _ ⟨.bl false, H, I, rfl, q⟩
  | str i =>
    rw [IsDt] at ix; subst ix
    cases e with
    | int j =>
      rw [IsDt] at iy; subst iy
      refine op_eq pins s σ H _ _ v u Q I rx ry ⟨rfl, ?_⟩
      have z : decide (V.str i = V.int j) = decide (Dt.str i = Dt.int j) := by rw [Bool.eq_iff_iff]; simp
      rw [z]; exact q
    | str j =>
      rw [IsDt] at iy; subst iy
      refine op_eq pins s σ H _ _ v u Q I rx ry ⟨rfl, ?_⟩
      have z : decide (V.str i = V.str j) = decide (Dt.str i = Dt.str j) := by rw [Bool.eq_iff_iff]; simp
      rw [z]; exact q
    | tup es =>
      rw [IsDt] at iy
      obtain ⟨a, xs, rfl, h1, h2⟩ := iy
      cases ry
      obtain ⟨t, rfl⟩ := rx
      obtain ⟨hz, its, r, p⟩ := I.hok a _ h1
      rw [decide_eq_false (by intro q; cases q)] at q
      exact SeqAt.RcAt.str_tuple i t p (by omega) _ _ _ _ ⟨.bl false, H, I, rfl, q⟩
  | tup ds =>
    rw [IsDt] at ix
    obtain ⟨a, xs, rfl, h1, h2⟩ := ix
    cases rx
    obtain ⟨hz, its, r, p⟩ := I.hok a _ h1
    cases e with
    | int j =>
      rw [IsDt] at iy; subst iy
      obtain ⟨t, rfl⟩ := ry
      rw [decide_eq_false (by intro q; cases q)] at q
      exact SeqAt.RcAt.tuple_int j t p (by omega) _ _ _ _ ⟨.bl false, H, I, rfl, q⟩
    | str j =>
      rw [IsDt] at iy; subst iy
      obtain ⟨t, rfl⟩ := ry
      rw [decide_eq_false (by intro q; cases q)] at q
      exact SeqAt.RcAt.tuple_str j t p (by omega) _ _ _ _ ⟨.bl false, H, I, rfl, q⟩
    | tup es =>
      rw [IsDt] at iy
      obtain ⟨b, ys, rfl, g1, g2⟩ := iy
      cases ry
      obtain ⟨hz2, its2, r2, p2⟩ := I.hok b _ g1
      have l1 : its.toArray.size = ds.length := by rw [List.size_toArray, ← r.length, h2.length]
      have l2 : its2.toArray.size = es.length := by rw [List.size_toArray, ← r2.length, g2.length]
      rw [Dt.dep] at hd
      have z : decide (Dt.tup ds = Dt.tup es) = decide (ds = es) := by rw [Bool.eq_iff_iff]; simp
      rw [z] at q
      refine SeqAt.RcAt.tuples (s := s) (A := X.A) (e := fun j => decide (ds[j]? = es[j]?)) p p2 (by omega) (items_eq (n := depMax) (A := X.A.in1) I.hok (by omega) (by show X.A.units + 1 + depMax < cLine; unfold depMax; omega) h2 g2 r r2) _ _ _ _ ?_
      rw [l1, l2, all_eq]
      exact ⟨.bl _, H, I, rfl, q⟩
/-- != where the one is a tuple -/
theorem op_neD (hu : X.A.units + 110 < cLine) : OpR X (compareOp .NotEq) (fun x y H Q => ∃ ds es, IsDt H (.tup ds) x ∧ IsDt H (.tup es) y ∧ depL ds ≤ depMax ∧ Q (.bl (!decide (ds = es))) H) := by
  intro pins s σ H x y v u Q I rx ry h
  obtain ⟨ds, es, ix, iy, hd, q⟩ := h
  rw [IsDt] at ix iy
  obtain ⟨a, xs, rfl, h1, h2⟩ := ix
  obtain ⟨b, ys, rfl, g1, g2⟩ := iy
  cases rx
  cases ry
  obtain ⟨hz, its, r, p⟩ := I.hok a _ h1
  obtain ⟨hz2, its2, r2, p2⟩ := I.hok b _ g1
  have l1 : its.toArray.size = ds.length := by rw [List.size_toArray, ← r.length, h2.length]
  have l2 : its2.toArray.size = es.length := by rw [List.size_toArray, ← r2.length, g2.length]
  refine SeqAt.RcNeAt.tuples (s := s) (A := X.A) (e := fun j => decide (ds[j]? = es[j]?)) p p2 (by omega) (items_eq (n := depMax) (A := X.A.in1) I.hok (by omega) (by show X.A.units + 1 + depMax < cLine; unfold depMax; omega) h2 g2 r r2) _ _ _ _ ?_
  rw [l1, l2, all_eq]
  exact ⟨.bl _, H, I, rfl, q⟩

/-! ### in, index, over lists of data -/
noncomputable def eqDv (H : Hp) (d : Dt) (u : Value) : Bool := @decide (∃ v, RelV v u ∧ IsDt H d v) (Classical.propDecidable _)
theorem relV_inj {v v' : V} {u : Value} (h : RelV v u) (h' : RelV v' u) : v = v' := by
  cases v <;> cases v' <;> simp only [RelV] at h h' <;> first
    | rfl
    | (obtain ⟨t, rfl⟩ := h; obtain ⟨t', h'⟩ := h'; injection h' with h' _; subst h'; rfl)
    | (obtain ⟨t, rfl⟩ := h; obtain ⟨t', h'⟩ := h'; cases h'; done)
    | (subst h; cases h'; rfl)
    | (subst h; obtain ⟨t', h'⟩ := h'; cases h')
    | (obtain ⟨t, rfl⟩ := h; cases h')
theorem eqDv_of {H : Hp} {d e : Dt} {v : V} {u : Value} (r : RelV v u) (i : IsDt H e v) : eqDv H d u = decide (e = d) := by
  unfold eqDv
  rw [Bool.eq_iff_iff]
  simp only [decide_eq_true_eq]
  constructor
  · rintro ⟨v', r', i'⟩
    rw [relV_inj r' r] at i'
    exact i.inj i'
  · rintro rfl
    exact ⟨v, r, i⟩
theorem mem_eqD {P : Program} {w : World} {H : Hp} {s : Shared} {A : Around} {d : Dt} {x : V} {v : Value} {n : Nat} (ok : HOk P w H s.heap) (hu : A.units + n < cLine) (rx : RelV x v) (ix : IsDt H d x) :
    ∀ {ds : List Dt} {xs : List V} {us : List Value}, depL ds ≤ n → IsDts H ds xs → Vals xs us → (∀ u ∈ us, SeqAt.EqAt A s u v (eqDv H d u)) ∧ us.map (eqDv H d) = ds.map fun e => decide (e = d)
  | [], xs, us, hd, hi, r => by
    rw [IsDts] at hi; subst hi; cases r
    exact ⟨fun u hu => (nomatch hu), rfl⟩
  | e :: ds, xs, us, hd, hi, r => by
    rw [IsDts] at hi
    obtain ⟨y, ys, rfl, h1, h2⟩ := hi
    cases r with
    | cons r1 r2 =>
      rw [depL] at hd
      obtain ⟨m1, m2⟩ := mem_eqD ok hu rx ix (by omega) h2 r2
      have e1 := eqDv_of (d := d) r1 h1
      refine ⟨fun u hu' => ?_, by rw [List.map_cons, List.map_cons, e1, m2]⟩
      rcases List.mem_cons.mp hu' with rfl | hu'
      · rw [e1]; exact eqAt_D n A s e d y x _ v ok (by omega) hu h1 ix r1 rx
      · exact m1 u hu'
theorem any_map_of {α : Type} {us : List α} {f : α → Bool} {ds : List Dt} {d : Dt} (h : us.map f = ds.map fun e => decide (e = d)) : us.any f = decide (d ∈ ds) := by
  have e1 : us.any f = (us.map f).any id := by simp
  have e2 : (ds.map fun e => decide (e = d)).any id = decide (d ∈ ds) := by
    rw [Bool.eq_iff_iff]
    simp
  rw [e1, h, e2]
def rInD (K : PySem.W.Frag) (neg : Bool) : R2 := fun x y H Q => ∃ p xs d ds, y = .ref p ∧ SqL K H p xs ∧ IsDt H d x ∧ IsDts H ds xs ∧ depL ds ≤ depMax ∧ Q (.bl (if neg then !decide (d ∈ ds) else decide (d ∈ ds))) H
theorem op_inD (hu : X.A.units + 110 < cLine) : OpR X (compareOp .In) (rInD X.K false) := by
  intro pins s σ H x y v u Q I rx ry h
  obtain ⟨p, xs, d, ds, rfl, hq, ix, is, hd, q⟩ := h
  cases ry
  obtain ⟨its, r, pl, hz⟩ := I.list hq
  obtain ⟨m1, m2⟩ := mem_eqD (A := X.A.in1) I.hok (by show X.A.units + 1 + depMax < cLine; unfold depMax; omega) rx ix hd is r
  refine SeqAt.in_listAt (eqDv H d) pl.isList (fun w hw => m1 w (by simpa using hw)) ⟨.bl _, H, I, rfl, ?_⟩
  rw [show its.toArray.any (eqDv H d) = its.any (eqDv H d) by simp, any_map_of m2]
  exact q
/-- xs.index(x), where it is -/
def rIndexD : V → List V → Hp → VK → Prop := fun o vs H Q => ∃ l xs x d ds, o = .ref l ∧ vs = [x] ∧ H l = some (.lst xs) ∧ IsDt H d x ∧ IsDts H ds xs ∧ depL ds ≤ depMax ∧ d ∈ ds ∧ ∀ j : Nat, ds[j]? = some d → Q (.int j) H
end
end L2
end
section
set_option Elab.async false
set_option linter.all false
set_option maxRecDepth 100000
set_option maxHeartbeats 4000000
namespace L2
open PySem PySem.Spec PyProof.Rows
open Kn (KE cmpK kEl sLt)

/-! ### t < u of tuples of ints and texts -/
def kv : KE → V
  | .i n => .int n
  | .s x => .str x
theorem eqAt_K {A : Around} {s : Shared} {a c : KE} {y x : Value} (ra : RelV (kv a) y) (rc : RelV (kv c) x) : ∃ e, SeqAt.EqAt A s y x e ∧ (e = true ↔ a = c) := by
  cases a with
  | i m =>
    obtain ⟨t, rfl⟩ := ra
    cases c with
    | i n => obtain ⟨u, rfl⟩ := rc; exact ⟨(m == n), SeqAt.EqAt.int_int m t n u, by simp⟩
    | s z => obtain ⟨u, rfl⟩ := rc; exact ⟨false, SeqAt.EqAt.int_str m t z u, by simp⟩
  | s w =>
    obtain ⟨t, rfl⟩ := ra
    cases c with
    | i n => obtain ⟨u, rfl⟩ := rc; exact ⟨false, SeqAt.EqAt.str_int w t n u, by simp⟩
    | s z => obtain ⟨u, rfl⟩ := rc; exact ⟨(w == z), SeqAt.EqAt.str_str w t z u, by simp⟩
theorem rcLt_K {A : Around} {s : Shared} {a c : KE} {y x : Value} {r : Bool} (ra : RelV (kv a) y) (rc : RelV (kv c) x) (h : kEl a c = some r) (prog : Program) (w : World) (E : Value → Shared → Prop) (Q : Value → Shared → Prop) (q : Q (.bool r) s) :
    wpAny (model prog w) A (richCompare .Lt y x) Q E s := by
  cases a with
  | i m =>
    obtain ⟨t, rfl⟩ := ra
    cases c with
    | i n =>
      obtain ⟨u, rfl⟩ := rc
      cases h
      exact HT.rcLt_int A s m t n u prog w E Q q
    | s z => cases h
  | s v =>
    obtain ⟨t, rfl⟩ := ra
    cases c with
    | i n => cases h
    | s z =>
      obtain ⟨u, rfl⟩ := rc
      cases h
      exact (PyProof.Rows.lt_str q : wpAny (model prog w) A (compareOp .Lt (.str v t) (.str z u)) Q E s)
section
open PySem.SeqAt
open PySem.AutoSeq1 (wpAny_loadPart')
open PySem.MeetsSeq PySem.MeetsSeq2 PySem.MeetsSeq3
theorem tuple_ltK (l b : Addr) (items items2 : Array Value) (n n2 : Nat) (dd dd2 : Option Addr) (sl sl2 : Array (Option Value)) (ks js : List KE) (hi : Vals (ks.map kv) items.toList) (hj : Vals (js.map kv) items2.toList) (r : Bool) (hr : cmpK ks js = some r) :
    Meets (Builtin.«tuple.__lt__» ⟨[.ref l, .ref b], []⟩)
      (fun _ R s => s.heap.get? l = some { cls := .type "tuple", dict := dd, data := .seq items n, slots := sl } ∧ s.heap.get? b = some { cls := .type "tuple", dict := dd2, data := .seq items2 n2, slots := sl2 } ∧
        R (.ok (.ret (.bool r))) s) :=
  .of_wp fun prog w A R s h => by
    obtain ⟨hp, g, d, tk, os⟩ := s; obtain ⟨hl, hb, h⟩ := h
    have f2 := AutoSeq1.sub_tuple_tuple
    have z1 : items.size = ks.length := by have := hi.length; simpa using this.symm
    have z2 : items2.size = js.length := by have := hj.length; simpa using this.symm
    wp_walk using wpAny_loadPart' hl, wpAny_loadPart' hb, wpAny_forIn_list _ (fun rest b s' => b.1 = none ∧ s' = ⟨hp, g, d, tk, os⟩ ∧ ∃ (vs ws : List Value) (ks' js' : List KE), rest = vs.zip ws ∧
      Vals (ks'.map kv) vs ∧ Vals (js'.map kv) ws ∧ ks'.length + items2.size = js'.length + items.size ∧ cmpK ks' js' = some r) _
    case turn =>
      rintro ⟨y, x⟩ rest b s' ⟨hb', rfl, vs, ws, ks', js', hz, hvi, hwi, hlen, hR⟩
      cases ks' with
      | nil => cases hvi; rw [List.zip_nil_left] at hz; cases hz
      | cons a ks' =>
        cases js' with
        | nil => cases hwi; rw [List.zip_nil_right] at hz; cases hz
        | cons c js' =>
          rw [List.map_cons] at hvi hwi
          cases hvi with
          | cons ra hvi' =>
            cases hwi with
            | cons rc hwi' =>
              rw [List.zip_cons_cons] at hz
              injection hz with hyx hrest
              injection hyx with hy hx
              subst hy hx
              rw [Kn.cmpK] at hR
              simp only [List.length_cons] at hlen
              obtain ⟨e, he, hiff⟩ := eqAt_K (A := A.in1) (s := ⟨hp, g, d, tk, os⟩) ra rc
              refine wpAny_bind (he prog w _ _ ?_)
              cases e with
              | true =>
                rw [if_pos (hiff.mp rfl)] at hR
                wp_walk
                exact ⟨rfl, rfl, _, _, _, _, hrest, hvi', hwi', by omega, hR⟩
              | false =>
                rw [if_neg (fun q => absurd (hiff.mpr q) Bool.false_ne_true)] at hR
                have hri := rcLt_K (A := A.in1) (s := ⟨hp, g, d, tk, os⟩) ra rc hR prog w
                wp_walk using hri
                exact ⟨_, rfl, by simpa using h⟩
    case fin =>
      rintro ⟨b1, b2⟩ s' ⟨hb', rfl, vs, ws, ks', js', hz, hvi, hwi, hlen, hR⟩
      simp only at hb'
      subst hb'
      have hv : r = decide (items.size < items2.size) := by
        cases ks' with
        | nil =>
          cases js' with
          | nil =>
            simp only [List.length_nil] at hlen
            cases hR
            exact (decide_eq_false (by omega)).symm
          | cons c js' =>
            simp only [List.length_nil, List.length_cons] at hlen
            cases hR
            exact (decide_eq_true (by omega)).symm
        | cons a ks' =>
          cases js' with
          | nil =>
            simp only [List.length_nil, List.length_cons] at hlen
            cases hR
            exact (decide_eq_false (by omega)).symm
          | cons c js' =>
            rw [List.map_cons] at hvi hwi
            cases hvi
            cases hwi
            rw [List.zip_cons_cons] at hz
            cases hz
      rw [hv] at h
      wp_walk
      exact ⟨_, rfl, by simpa [Builtin.Tuple.tupleCompareSizes] using h⟩
    case h =>
      exact ⟨rfl, rfl, items.toList, items2.toList, ks, js, rfl, hi, hj, by omega, hr⟩
end
section
variable {X : Cx}
def rLtK (K : PySem.W.Frag) : R2 := fun x y H Q => ∃ a b ks js r, x = .ref a ∧ y = .ref b ∧ SqT K H a (ks.map kv) ∧ SqT K H b (js.map kv) ∧ cmpK ks js = some r ∧ Q (.bl r) H
theorem op_ltK (hu : X.A.units < cLine) : OpR X (compareOp .Lt) (rLtK X.K) := by
  intro pins s σ H x y v u Q I rx ry h
  obtain ⟨a, b, ks, js, r, rfl, rfl, ha, hb, hr, q⟩ := h
  cases rx
  cases ry
  obtain ⟨its, r1, p1, _⟩ := I.tuple ha
  obtain ⟨its2, r2, p2, _⟩ := I.tuple hb
  obtain ⟨⟨cls, dd, data, sl⟩, ho, hc, n, hd⟩ := id p1
  obtain ⟨⟨cls2, dd2, data2, sl2⟩, ho2, hc2, n2, hd2⟩ := id p2
  simp only at hc hd hc2 hd2
  subst hc hd hc2 hd2
  exact richCompare_meets_room (op := .Lt) ⟨_, ho, rfl⟩ ⟨_, ho2, rfl⟩ PySem.F.slot_tuple_lt PySem.F.entry_tuple_lt (PySem.F.args_tuple_lt_2 _ _) (tuple_ltK a b its.toArray its2.toArray n n2 dd dd2 sl sl2 ks js (by simpa using r1) (by simpa using r2) r hr)
    ⟨ho, ho2, show Value.bool r ≠ Value.notImplemented ∧ EP X pins σ Q (.bool r) s from ⟨(fun x => nomatch x), ⟨.bl r, H, I, rfl, q⟩⟩⟩ hu
/-- int < int or text < text -/
def rLtE : R2 := fun x y H Q => ∃ a c r, x = kv a ∧ y = kv c ∧ kEl a c = some r ∧ Q (.bl r) H
theorem op_ltE : OpR X (compareOp .Lt) rLtE := by
  intro pins s σ H x y v u Q I rx ry h
  obtain ⟨a, c, r, rfl, rfl, hr, q⟩ := h
  show wpAny (model X.prog X.w) X.A (richCompare .Lt v u) (EP X pins σ Q) X.xe s
  exact rcLt_K rx ry hr X.prog X.w _ _ ⟨.bl r, H, I, rfl, q⟩

/-! ### xs[::-1] -/
def tRev (K : PySem.W.Frag) (te : TE) : TE := fun σ H Q => te σ H fun x H1 => ∃ a xs, x = .ref a ∧ SqL K H1 a xs ∧ ∀ p, H1 p = none → Q (.ref p) (upd H1 p (.lst xs.reverse))
theorem pe_rev {e : Expr} {te : TE} {k : Nat} {p2 p3 p4 pos : Pos} (he : PE X e te) : PE X (.Subscript e (.Slice none none (some (.UnaryOp .USub (.Constant (.int 1) k p3) p4)) p2) pos) (tRev X.K te) := by
  intro pins s σ H Q I h
  refine Subscript_ (thn (he pins s σ H _ I h) fun v s1 ⟨x, H1, I1, r1, q1⟩ => ?_)
  obtain ⟨a, xs, rfl, hx, q⟩ := q1
  cases r1
  refine wpAny_Slice ?_
  rw [evalPart_none]
  refine wpAny_pure (wpAny_pure ?_)
  rw [evalPart_some]
  refine thn (pe_un un_neg pe_int pins s1 σ H1 (fun y H2 => y = .int (-1) ∧ H2 = H1) I1 ⟨1, rfl, rfl, rfl⟩) fun u s2 ⟨y, H2, I2, r2, e1, e2⟩ => ?_
  subst e1 e2
  obtain ⟨t, rfl⟩ := r2
  have I4 : Inv X pins σ H2 { s2 with heap := s2.heap.push { cls := .type "slice", data := .fields #[.none, .none, .int (-1) t] } } := I2.kept (t' := s2.toks) fun b ob q => Heap.get?_push_of_some _ q
  obtain ⟨its, r, ht, hz⟩ := I4.list hx
  have hlen := r.length
  refine tail_any (ops := [.ref a, .ref s2.heap.objs.size]) (T := "list") ht.isList.typeIs slot_list_getitem.lookup ?_ (by with_unfolding_all rfl)
  refine wpAny_getItem_list_slice ht.isList (Heap.IsSliceOf.new ..) .none .none (.int (-1) t) (by simp) ?_ (by rw [List.size_toArray] <;> omega)
  rw [PySem.W.krv_pick]
  refine ⟨.ref _, _, I4.laid (t' := s2.toks) (o := .lst xs.reverse) (fun b ob q => Heap.get?_push_of_some _ q) (Nat.le_refl _) ?_, rfl, q _ (I4.hok.fresh (Nat.le_refl _))⟩
  exact ⟨by rw [List.length_reverse]; exact hz, _, 0, r.reverse, Heap.get?_push_size _ rfl⟩

/-! ### isinstance(x, tuple), isinstance(x, bool) -/
def isiV (H : Hp) (x : V) (T : String) (b : Bool) : Prop :=
  (T = "tuple" ∧ ((∃ i, x = .int i) ∧ b = false ∨ (∃ z, x = .str z) ∧ b = false ∨ (∃ a xs, x = .ref a ∧ H a = some (.tup xs)) ∧ b = true)) ∨ (T = "bool" ∧ (∃ c, x = .bl c) ∧ b = true)
theorem call_isi : CallR X (.builtin "isinstance") (fun xs H Q => ∃ x T b, xs = [x, .ty T] ∧ isiV H x T b ∧ Q (.bl b) H) := by
  intro pins s σ H xs us Q I r h
  obtain ⟨x, T, b, rfl, hi, q⟩ := h
  obtain ⟨u, v, rfl, ru, rv⟩ := r.two
  cases rv
  rcases hi with ⟨rfl, ⟨⟨i, rfl⟩, rfl⟩ | ⟨⟨z, rfl⟩, rfl⟩ | ⟨⟨a, ys, rfl, ha⟩, rfl⟩⟩ | ⟨rfl, ⟨c, rfl⟩, rfl⟩
  · obtain ⟨t, rfl⟩ := ru
    exact IsiPair.int_tuple ⟨.bl false, H, I.tok _, rfl, q⟩
  · obtain ⟨t, rfl⟩ := ru
    exact IsiPair.str_tuple ⟨.bl false, H, I.tok _, rfl, q⟩
  · cases ru
    obtain ⟨hz, its, r', o, ho, hc, _⟩ := I.hok a _ ha
    exact IsiPair.tuple_tuple ho hc ⟨.bl true, H, I, rfl, q⟩
  · cases ru
    exact IsiPair.bool_bool ⟨.bl true, H, I, rfl, q⟩

/-! ### a def held by a name -/
theorem pe_callV {CX : CXT} {k i : Nat} {f : Addr} {fd : FuncData} {ps : List Str} {sp : Sp} {dvs : List V} {ds : List Value} {E : XK} {x : Str} {p pos : Pos} {e : Expr} {es : List Expr} {t : TA}
    (F : FnOk X.prog X.w X.K X.mg X.base CX k f fd ps sp) (hr : Room k X.A) (hN : X.N[i]? = some x) (hv : Vis X.env.scope x) (hk : PySem.W.keepIn X.K (.ref f) = true) (hb : Binds X.K fd ps ds) (hd : Vals dvs ds) (hx : Passes CX X E)
    (ha : PA X (e :: es) t) (hdb : (x == ("__debug__" : Str)) = false := by decide) (hcd : (x == ("__classdict__" : Str)) = false := by decide) (he : starEach (e :: es) X.env = (false, eval e X.env) :: starEach es X.env := by rfl) (hpl : (backTo pos (starEach es X.env)).any (·.1) = false := by rfl) :
    PE X (.Call (.Name x p) (e :: es) [] pos) (fun σ H Q => σ[i]? = some (some (.ref f)) ∧ tCall sp dvs E t σ H Q) := by
  intro pins s σ H Q I h
  refine wpAny_Call_Name_kw (thn (pe_var hN hv hdb hcd pins s σ H (fun y H1 => y = .ref f ∧ H1 = H) I ⟨_, h.1, rfl, rfl⟩) fun v s1 ⟨y, H1, I1, r1, e1, e2⟩ => ?_)
  subst e1 e2
  cases r1
  refine PySem.W.callWith_K (h₀ := X.base) I1.ok.mod.kin hk (thn (ha pos pins s1 σ H1 _ I1 h.2) fun us s2 ⟨vs, H2, I2, r, q⟩ => ⟨I2.kIn, ?_⟩) he hpl
  exact run_fn F hr hb hd hx I2 r q

/-! ### sep.join of a list of texts -/
def rJoin (K : PySem.W.Frag) : V → List V → Hp → VK → Prop := fun o vs H Q => ∃ sep p ys, o = .str sep ∧ vs = [.ref p] ∧ SqL K H p (ys.map V.str) ∧ (ys.map (·.length)).sum + ys.length * sep.length ≤ 16777216 ∧ Q (.str (Txt.join sep ys)) H

/-! ### xs.insert(i, x) -/
def rInsert : V → List V → Hp → VK → Prop := fun o vs H Q => ∃ l xs i y, o = .ref l ∧ vs = [.int i, y] ∧ H l = some (.lst xs) ∧ 0 ≤ i ∧ i ≤ xs.length ∧ xs.length < sizeLine ∧ Q .non (upd H l (.lst (xs.take i.toNat ++ y :: xs.drop i.toNat)))

/-! ### t + u, any tuples of the heap -/
def rCatT' (K : PySem.W.Frag) : R2 := fun x y H Q => ∃ a b xs ys, x = .ref a ∧ y = .ref b ∧ H a = some (.tup xs) ∧ H b = some (.tup ys) ∧ xs.length + ys.length ≤ sizeLine ∧
  ∀ p H', (∀ c o, H c = some o → H' c = some o) → H' p = some (.tup (xs ++ ys)) → Q (.ref p) H'
theorem op_catT' : OpR X (binaryOp .Add) (rCatT' X.K) := by
  intro pins s σ H x y v u Q I rx ry h
  obtain ⟨a, b, xs, ys, rfl, rfl, ha0, hb0, hz, q⟩ := h
  have ha : SqT X.K H a xs := SqT.of ha0
  have hb : SqT X.K H b ys := SqT.of hb0
  by_cases hx : xs = []
  · subst hx
    cases rx
    cases ry
    obtain ⟨its, r1, p1, _⟩ := I.tuple ha
    obtain ⟨its2, r2, p2, _⟩ := I.tuple hb
    cases r1
    obtain ⟨⟨cls, dd, data, sl⟩, ho, hc, n, hd⟩ := id p1
    obtain ⟨⟨cls2, dd2, data2, sl2⟩, ho2, hc2, n2, hd2⟩ := id p2
    simp only at hc hd hc2 hd2
    subst hc hd hc2 hd2
    exact concat_meets ⟨_, ho, rfl⟩ ⟨_, ho2, rfl⟩ noFill_tuple_add seq_tuple_add PySem.F.slot_tuple_add PySem.F.entry_tuple_add (PySem.F.args_tuple_add_2 _ _)
      (tuple_addW0 a b _ its2.toArray n n2 dd dd2 sl sl2 (by simp)) ⟨ho, ho2, ⟨.ref b, H, I, rfl, q b H (fun _ _ z => z) hb0⟩⟩
  · exact op_catT pins s σ H _ _ v u Q I rx ry ⟨a, b, xs, ys, rfl, rfl, ha, hb, hx, hz, fun e => q a H (fun _ _ z => z) (by subst e; rw [List.append_nil]; exact ha0), fun e p hp => q p _ (fun c o z => by rw [upd_ne (ne_of_none z hp)]; exact z) upd_same⟩
end
end L2
end
section
set_option Elab.async false
set_option linter.all false
set_option maxRecDepth 100000
set_option maxHeartbeats 4000000
namespace L2
open PySem PySem.Spec PyProof.Rows
open PySem.W (kdu_collect kdl_dict)

/-! ### sorted of a dict whose keys are texts -/
section
variable {X : Cx}
def rSortD : List V → Hp → VK → Prop := fun xs H Q => ∃ a kvs, xs = [.ref a] ∧ H a = some (.dK kvs) ∧ (∀ kv ∈ kvs, ∃ s, kv.1 = Sum.inr s) ∧ kvs.length < 64 ∧
  ∀ (p : Addr) (ys : List Str), H p = none → (ys.map (Sum.inr : Str → Key)).Perm (kvs.map (·.1)) → sortedS ys = true → Q (.ref p) (upd H p (.lst (ys.map V.str)))
end

/-! ### one rule a construct: whatever of its kinds -/
section
variable {X : Cx}
theorem op_plus : OpR X (binaryOp .Add) (fun x y H Q => rI0 (fun i j => .int (i + j)) x y H Q ∨ ((∃ i j, x = .str i ∧ y = .str j ∧ i.length + j.length ≤ sizeLine ∧ Q (.str (i ++ j)) H) ∨ (rCat x y H Q ∨ rCatT' X.K x y H Q))) := op_add.or (op_add_str.or (op_cat.or op_catT'))
theorem op_ltU (hu : X.A.units < cLine) : OpR X (compareOp .Lt) (fun x y H Q => rI0 (fun i j => .bl (decide (i < j))) x y H Q ∨ (rLtE x y H Q ∨ rLtK X.K x y H Q)) := op_lt.or (op_ltE.or (op_ltK hu))
theorem op_eqU (hu : X.A.units + 110 < cLine) : OpR X (compareOp .Eq) (fun x y H Q => rEq x y H Q ∨ rEqD x y H Q) := op_eq.or (op_eqD hu)
def rNeL : R2 := fun x y H Q => ∃ a b xs, x = .ref a ∧ y = .ref b ∧ H a = some (.lst xs) ∧ H b = some (.lst []) ∧ Q (.bl (decide (xs ≠ []))) H
theorem op_neL (hu : X.A.units < cLine) : OpR X (compareOp .NotEq) rNeL := by
  intro pins s σ H x y v u Q I rx ry h
  obtain ⟨a, b, xs, rfl, rfl, ha, hb, q⟩ := h
  cases rx
  cases ry
  obtain ⟨its, r, p, _⟩ := I.list (SqL.of ha)
  obtain ⟨its2, r2, p2, _⟩ := I.list (SqL.of hb)
  cases r2
  by_cases hx : xs = []
  · subst hx
    cases r
    refine SeqAt.RcNeAt.lists (A := X.A) (e := fun _ => true) p.isList p2.isList rfl hu (fun j h1 => by simp at h1) _ _ _ _ ⟨.bl false, H, I, rfl, ?_⟩
    simpa using q
  · refine SeqAt.RcNeAt.lists_lengths (A := X.A) p.isList p2.isList ?_ hu _ _ _ _ ⟨.bl true, H, I, rfl, ?_⟩
    · have := r.length
      have h0 : its ≠ [] := fun z => hx (by subst z; cases xs with | nil => rfl | cons _ _ => simp at this)
      cases its with
      | nil => exact absurd rfl h0
      | cons _ _ => simp
    · rw [decide_eq_true hx] at q
      exact q
theorem op_neU (hu : X.A.units + 110 < cLine) : OpR X (compareOp .NotEq) (fun x y H Q => rNe x y H Q ∨ ((∃ ds es, IsDt H (.tup ds) x ∧ IsDt H (.tup es) y ∧ depL ds ≤ depMax ∧ Q (.bl (!decide (ds = es))) H) ∨ rNeL x y H Q)) := op_ne.or ((op_neD hu).or (op_neL (by omega)))
theorem op_inU (hu : X.A.units + 110 < cLine) : OpR X (compareOp .In) (fun x y H Q => rIn X.K false x y H Q ∨ rInD X.K false x y H Q) := op_in_seq.or (op_inD hu)
theorem call_lenU : CallR X (.builtin "len") (fun xs H Q => (∃ p ys, xs = [.ref p] ∧ (SqL X.K H p ys ∨ SqT X.K H p ys) ∧ Q (.int ys.length) H) ∨ ∃ z, xs = [.str z] ∧ z.length ≤ sizeLine ∧ Q (.int z.length) H) := call_len_seq.or call_len_str
/-- d[y] -/
def rIxD : R2 := fun x y H Q => ∃ a v, x = .ref a ∧ DGet H a y (some v) ∧ Q v H
theorem ix_dict (hu : X.A.units + 1 < cLine) : IxR X rIxD := by
  intro value slice pins s σ H x y v u Q I rx ry h hs
  obtain ⟨a, w, rfl, g, q⟩ := h
  cases rx
  exact tail_any (ops := [.ref a, u]) (dict_typeIs I g) PySem.F.slot_dict_getitem.lookup (d_getItem hu I g ry fun w' s3 I3 rw' => ⟨w, H, I3, rw', q⟩) hs
theorem ix_U (hu : X.A.units + 1 < cLine) : IxR X (fun x y H Q => rIxL X.K x y H Q ∨ (rIxT X.K x y H Q ∨ (rIxS x y H Q ∨ rIxD x y H Q))) := ix_list.or (ix_tup.or (ix_str.or (ix_dict hu)))
def rSetD : TSet := fun o i v H Q => ∃ a H', o = .ref a ∧ DPut H a i v H' ∧ Q H'
theorem set_dict (hu : X.A.units + 1 < cLine) : PSet X rSetD := by
  intro pins s σ H o i v ov iv u Q I ro ri rv h
  obtain ⟨a, H', rfl, g, q⟩ := h
  cases ro
  exact d_setItem hu I g ri rv fun s4 I4 => ⟨H', I4, q⟩
theorem PSet.or {r r' : TSet} (h : PSet X r) (h' : PSet X r') : PSet X (fun o i v H Q => r o i v H Q ∨ r' o i v H Q) := by
  intro pins s σ H o i v ov iv u Q I ro ri rv q
  rcases q with q | q
  · exact h pins s σ H o i v ov iv u Q I ro ri rv q
  · exact h' pins s σ H o i v ov iv u Q I ro ri rv q
theorem set_U (hu : X.A.units + 1 < cLine) : PSet X (fun o i v H Q => rSetL o i v H Q ∨ rSetD o i v H Q) := set_list.or (set_dict hu)
/-- over a list or a tuple -/
theorem pi_U {tg l : Expr} {tl : TE} (hl : PE X l tl) : PI X tg l (fun σ H R => iList X.K tl σ H R ∨ iTup X.K tl σ H R) := by
  intro pins s σ H R I h
  rcases h with h | h
  · exact pi_list hl pins s σ H R I h
  · exact pi_tup hl pins s σ H R I h
end
end L2
end
section
set_option Elab.async false
set_option linter.all false
set_option maxRecDepth 100000
set_option maxHeartbeats 4000000
namespace L2
open PySem PySem.Spec PyProof.Rows

/-! ### a list comprehension -/
/-- the block's own: its cells, its dict, the iterator's records, the state and heap at its entry -/
structure ZC where
  cl : List (Str × Addr)
  C : Addr
  fp : List Addr
  s : Shared
  H : Hp
def cxC (X : Cx) (scope : Scope) (N' : List Str) (z : ZC) : Cx where
  prog := X.prog
  w := X.w
  K := X.K
  mg := X.mg
  base := X.base
  A := X.A
  N := N'
  s₀ := z.s
  H₀ := z.H
  env := compEnvC scope z.cl z.C X.env
  outer := X.stack
  stack := X.stack
  ex := z.fp
  fn := fun _ => false
  calm := X.calm
  pn := []
  xe := fun _ _ => False

theorem clos_loop {env : Env} : ∀ (names : List (Str × NameKind)) (acc : List (Str × Addr)), (∀ y ∈ names, y.2 = .free → ∃ c, env.cells.lookup y.1 = some c) →
    (∀ x c, acc.lookup x = some c → env.cells.lookup x = some c) →
    ∃ cl, (forIn names acc (fun y cs => if (y.2 == NameKind.free) = true then (cellOf env y.1 >>= fun c => pure (ForInStep.yield ((y.1, c) :: cs))) else pure (ForInStep.yield cs)) : Sem (List (Str × Addr))) = pure cl ∧
      (∀ x c, cl.lookup x = some c → env.cells.lookup x = some c) ∧ (∀ y ∈ names, y.2 = .free → ∃ c, cl.lookup y.1 = some c) ∧ ∀ x c, acc.lookup x = some c → ∃ c', cl.lookup x = some c'
  | [], acc, _, ha => ⟨acc, rfl, ha, fun y hy => (nomatch hy), fun x c h => ⟨c, h⟩⟩
  | (n, k) :: r, acc, h, ha => by
    by_cases hk : k = .free
    · subst hk
      obtain ⟨c, hc⟩ := h (n, .free) List.mem_cons_self rfl
      have hac : ∀ x c', ((n, c) :: acc).lookup x = some c' → env.cells.lookup x = some c' := fun x c' q => by
        rw [List.lookup_cons] at q
        cases e : x == n with
        | true =>
          rw [e] at q
          cases q
          rw [eq_of_beq e]
          exact hc
        | false =>
          rw [e] at q
          exact ha x c' q
      obtain ⟨cl, e1, e2, e3, e4⟩ := clos_loop r ((n, c) :: acc) (fun y hy => h y (List.mem_cons_of_mem _ hy)) hac
      refine ⟨cl, ?_, e2, fun y hy hf => ?_, fun x c' q => ?_⟩
      · rw [List.forIn_cons]
        have ec : cellOf env n = pure c := by unfold cellOf; rw [hc]
        simp only [beq_self_eq_true, if_true, ec, pure_bind]
        exact e1
      · rcases List.mem_cons.mp hy with rfl | hy
        · exact e4 n c (by simp)
        · exact e3 y hy hf
      · cases e : x == n with
        | true => exact e4 x c (by rw [List.lookup_cons, e])
        | false => exact e4 x c' (by rw [List.lookup_cons, e]; exact q)
    · obtain ⟨cl, e1, e2, e3, e4⟩ := clos_loop r acc (fun y hy => h y (List.mem_cons_of_mem _ hy)) ha
      refine ⟨cl, ?_, e2, fun y hy hf => ?_, e4⟩
      · rw [List.forIn_cons]
        have hb : (k == NameKind.free) = false := by simpa using hk
        simp only [hb, Bool.false_eq_true, if_false, pure_bind]
        exact e1
      · rcases List.mem_cons.mp hy with rfl | hy
        · exact absurd hf hk
        · exact e3 y hy hf
theorem clos_of {scope : Scope} {env : Env} (h : ∀ y ∈ scope.names, y.2 = .free → ∃ c, env.cells.lookup y.1 = some c) :
    ∃ cl, closureFor scope env = pure cl ∧ (∀ x c, cl.lookup x = some c → env.cells.lookup x = some c) ∧ ∀ y ∈ scope.names, y.2 = .free → ∃ c, cl.lookup y.1 = some c := by
  obtain ⟨cl, e1, e2, e3, _⟩ := clos_loop (env := env) scope.names [] h (fun x c q => by simp at q)
  refine ⟨cl, ?_, e2, e3⟩
  unfold closureFor
  first
    | exact e1
    | (simp only [bind_pure_comp, map_pure, bind_pure] at e1 ⊢; exact e1)
    | (rw [show (forIn scope.names [] _ : Sem (List (Str × Addr))) = pure cl from e1]; rfl)

theorem rel_free {env : Env} : ∀ {names : List (Str × NameKind)} {x : Str}, names.lookup x = some .free →
    let l := (names.map fun (n, k) => if (k == NameKind.free && env.scope.kind == .function && env.kindOf n == some .cell) then (n, NameKind.cell) else (n, k)).lookup x
    l = some .cell ∨ l = some .free
  | [], _, h => by simp at h
  | (n, k) :: r, x, h => by
    have ih := @rel_free env r x
    simp only at ih ⊢
    rw [List.map_cons]
    cases hx : x == n with
    | true =>
      rw [List.lookup_cons, hx] at h
      cases h
      by_cases hc : (NameKind.free == NameKind.free && env.scope.kind == .function && env.kindOf n == some .cell) = true
      · left
        simp only [hc, if_true, List.lookup_cons, hx]
      · right
        simp only [if_neg hc, List.lookup_cons, hx]
    | false =>
      rw [List.lookup_cons, hx] at h
      by_cases hc : (k == NameKind.free && env.scope.kind == .function && env.kindOf n == some .cell) = true
      · simp only [if_pos hc, List.lookup_cons, hx]; exact ih h
      · simp only [if_neg hc, List.lookup_cons, hx]; exact ih h
theorem rel_back {env : Env} : ∀ {names : List (Str × NameKind)} {x : Str} {k' : NameKind}, (∀ y ∈ names, y.2 ≠ .cell) → (k' = .cell ∨ k' = .free) →
    (names.map fun (n, k) => if (k == NameKind.free && env.scope.kind == .function && env.kindOf n == some .cell) then (n, NameKind.cell) else (n, k)).lookup x = some k' → (x, NameKind.free) ∈ names
  | [], _, _, _, _, h => by simp at h
  | (n, k) :: r, x, k', hn, hk, h => by
    rw [List.map_cons] at h
    cases hx : x == n with
    | true =>
      have e : x = n := eq_of_beq hx
      subst e
      by_cases hc : (k == NameKind.free && env.scope.kind == .function && env.kindOf x == some .cell) = true
      · have hf : k = .free := by
          simp only [Bool.and_eq_true, beq_iff_eq] at hc
          exact hc.1.1
        subst hf
        exact List.mem_cons_self
      · simp only [if_neg hc, List.lookup_cons, hx] at h
        have e2 : k = k' := Option.some.inj h
        subst e2
        rcases hk with rfl | rfl
        · exact absurd rfl (hn _ List.mem_cons_self)
        · exact List.mem_cons_self
    | false =>
      have ih := @rel_back env r x k' (fun y hy => hn y (List.mem_cons_of_mem _ hy)) hk
      by_cases hc : (k == NameKind.free && env.scope.kind == .function && env.kindOf n == some .cell) = true
      · simp only [if_pos hc, List.lookup_cons, hx] at h
        exact List.mem_cons_of_mem _ (ih h)
      · simp only [if_neg hc, List.lookup_cons, hx] at h
        exact List.mem_cons_of_mem _ (ih h)

/-- the loop of a comprehension, whatever its target -/
theorem comp_loop {prog : Program} {w : World} {A : Around} {s : Shared} {elt tg iter : Expr} {ifs : List Expr} {scope : Scope} {pos : Pos} {it acc : Value} {env : Env} {P : Shared → Prop} {R : Result → Shared → Prop}
    (hR : ∀ s', P s' → R (.ok .next) s') (J : Nat → Shared → Prop)
    (turn : ∀ n s, J n s → wpAny (model prog w) A (pyNext it) (fun r s1 => match r with
      | none => P s1
      | some v => wpAny (model prog w) A (letOwnedTupleGo tg it v) (fun _ s2 => wpAny (model prog w) A (assign tg env v) (fun _ s3 =>
          wpAny (model prog w) A (forIn ifs true fun c r => if r = true then do let ok ← isTrue c env (eval c env); pure (ForInStep.yield ok) else pure (ForInStep.yield r)) (fun ok s4 =>
            if ok = true then wpAny (model prog w) A (eval elt env) (fun x s5 =>
              wpAny (model prog w) A (call (.builtin "list.append") [acc, x]) (fun _ s6 => ∃ m, m < n ∧ J m s6) (fun _ _ => False) s5) (fun _ _ => False) s4
            else ∃ m, m < n ∧ J m s4) (fun _ _ => False) s3) (fun _ _ => False) s2) (fun _ _ => False) s1) (fun _ _ => False) s)
    (n : Nat) (h : J n s) : codeAny (model prog w) A (.compLoop (.ListComp elt [⟨tg, iter, ifs, 0⟩] scope pos) 0 it acc env) R s := by
  refine codeAny_loop rfl J (fun n s hJ => ?_) n h
  show wpAny _ A ((compTurn (.ListComp elt [⟨tg, iter, ifs, 0⟩] scope pos) 0 it acc env).onRaise (fun x => do noteFrame x env; theTreesLotGoes x)) _ _ s
  refine wpAny_noted (wpAny_mono (E := fun _ _ => False) ?_ (fun _ _ q => q) fun _ _ q => q.elim)
  rw [compTurn_list]
  refine wpAny_bind (wpAny_standAt (wpAny_bind (thn (turn n s hJ) fun r s1 h1 => ?_)))
  cases r with
  | none => exact wpAny_pure (hR _ h1)
  | some v =>
    refine wpAny_bind (thn h1 fun _ s2 h2 => wpAny_bind (thn h2 fun _ s3 h3 => wpAny_bind (thn h3 fun ok s4 h4 => ?_)))
    cases ok with
    | false => exact wpAny_pure ⟨rfl, h4⟩
    | true => exact wpAny_bind (wpAny_bind (thn h4 fun x s5 h5 => wpAny_bind (thn h5 fun _ s6 h6 => wpAny_pure (wpAny_pure ⟨rfl, h6⟩))))

def PIfs (X : Cx) (ifs : List Expr) (t : TT) : Prop :=
  ∀ (pins : List (Addr × Obj)) (s : Shared) (σ : St) (H : Hp) (Q : Bool → Hp → Prop), Inv X pins σ H s → t σ H Q →
    wpAny (model X.prog X.w) X.A (forIn ifs true fun c r => if r = true then do let ok ← isTrue c X.env (eval c X.env); pure (ForInStep.yield ok) else pure (ForInStep.yield r)) (TP X pins σ Q) X.xe s
def tAll : TT := fun _ H Q => Q true H
theorem pif_nil {X : Cx} : PIfs X [] tAll := fun pins s σ H Q I h => wpAny_tests_nil ⟨H, I, h⟩
theorem pif_one {X : Cx} {c : Expr} {t : TT} (h : PT X c t) : PIfs X [c] t := fun pins s σ H Q I q => wpAny_tests_one (h pins s σ H Q I q)

/-- the block's names at a turn's start: the targets not stored, the free names' values as they stand outside -/
def sigC (k : Nat) (fr : List (Str × Nat)) (σ : St) : St := List.replicate k none ++ fr.map fun p => (σ[p.2]?).join
/-- targets of a comprehension store the first k slots alone -/
def Tgt (k : Nat) (g : TG) : Prop := ∀ x σ H Q, g x σ H Q → g x σ H fun σ2 H2 => Q σ2 H2 ∧ σ2.length = σ.length ∧ σ2.drop k = σ.drop k
theorem tgt_name {i k : Nat} (h : i < k) : Tgt k (gName i) := fun x σ H Q q => ⟨q, by simp, by rw [List.drop_set_of_lt h]⟩
theorem tgt_two {K : PySem.W.Frag} {i j k : Nat} (hi : i < k) (hj : j < k) : Tgt k (gTup K 2 (gCons (gName i) (gCons (gName j) gNil))) := fun x σ H Q q => by
  obtain ⟨a, xs, e1, e2, e3, v, r, e4, v2, r2, e5, e6, q⟩ := q
  exact ⟨a, xs, e1, e2, e3, v, r, e4, v2, r2, e5, e6, q, by simp, by rw [List.drop_set_of_lt hj, List.drop_set_of_lt hi]⟩

/-- W: what holds at turn i, with a measure, of the items made and the heap -/
def lcStep (J : It) (k : Nat) (fr : List (Str × Nat)) (g : ZC → TG) (tc : ZC → TT) (te : ZC → TE) (σ : St) (W : Nat → Nat → List V → Hp → Prop) (fin : List V → Hp → Prop) : Prop :=
  ∀ i m ys H, W i m ys H → ys.length < sizeLine ∧ ((J.stop i H ∧ fin ys H) ∨ (J.go i H ∧ ∀ (z : ZC) x H1, J.yld i H x H1 → g z x (sigC k fr σ) H1 fun σ2 H2 => tc z σ2 H2 fun b H3 =>
    if b = true then te z σ2 H3 fun y H4 => ∃ m', m' < m ∧ W (i + 1) m' (ys ++ [y]) H4 else ∃ m', m' < m ∧ W (i + 1) m' ys H3))
def tLC (wi : TI) (k : Nat) (fr : List (Str × Nat)) (g : ZC → TG) (tc : ZC → TT) (te : ZC → TE) : TE := fun σ H Q => wi σ H fun J H1 =>
  ∃ W : Nat → Nat → List V → Hp → Prop, (∃ m, W 0 m [] H1) ∧ lcStep J k fr g tc te σ W fun ys H2 => ∀ p, H2 p = none → Q (.ref p) (upd H2 p (.lst ys))

section
variable {X : Cx} {tg elt iter : Expr} {ifs : List Expr} {scope : Scope} {pos : Pos} {k : Nat} {Nt : List Str} {fr : List (Str × Nat)} {g : ZC → TG} {tc : ZC → TT} {te : ZC → TE}

structure LcOk (X : Cx) (scope : Scope) (Nt : List Str) (fr : List (Str × Nat)) : Prop where
  kind : scope.kind = .function
  cell : ∀ y ∈ scope.names, y.2 ≠ .cell
  names : ∀ y ∈ scope.names, y.2 = .local → scope.names.lookup y.1 = some .local
  free : ∀ y ∈ scope.names, y.2 = .free → X.env.kindOf y.1 = some .cell
  fr : ∀ p ∈ fr, X.N[p.2]? = some p.1 ∧ scope.names.lookup p.1 = some .free

/-- the block at its entry -/
theorem lc_start {pins : List (Addr × Obj)} {σ : St} {H : Hp} {s2 : Shared} {cl : List (Str × Addr)} {fp : List Addr} {h1 : Heap} {t1 : Nat} {C D : Addr} {m : Str → Option Value} (L : LcOk X scope Nt fr) (I : Inv X pins σ H s2)
    (hcl : ∀ x c, cl.lookup x = some c → X.env.cells.lookup x = some c) (hcl2 : ∀ y ∈ scope.names, y.2 = .free → ∃ c, cl.lookup y.1 = some c) (hf : ∀ b ∈ fp, FpOk X pins H b) (hlt : ∀ b ∈ fp, b < s2.heap.objs.size)
    (hC : s2.heap.objs.size ≤ C) (hD : s2.heap.objs.size ≤ D) (hCD : D ≠ C) (old : ∀ b o, s2.heap.get? b = some o → h1.get? b = some o) (hn : h1.Ns C m) (ho : h1.get? D = some { cls := .type "list", data := .seq #[] 0 }) :
    Inv (cxC X scope (Nt ++ fr.map (·.1)) ⟨cl, C, fp, s2, H⟩) [(D, { cls := .type "list", data := .seq #[] 0 })] (sigC Nt.length fr σ) H { s2 with heap := h1, toks := t1 } := by
  have hstk : ∀ b ∈ frs X.stack, b < s2.heap.objs.size := fun b hb => by
    rcases List.mem_cons.mp (I.stkSub b hb) with e | e
    · rw [e]; exact I.lt
    · exact Nat.lt_of_not_le fun z => I.nofs z e
  have cdn : ∀ x c, cl.lookup x = some c → c < s2.heap.objs.size := fun x c e => by
    obtain ⟨v, q⟩ := I.cell x c (hcl x c e)
    exact q.lt
  refine ⟨⟨I.mod, L.kind, I.ok.glob, I.ok.blt, hC, fun x y c e1 e2 => I.ok.inj x y c (hcl _ _ e1) (hcl _ _ e2), fun x hx => ?_, fun x c hf' _ => (nomatch hf'), I.ok.hd, I.ok.frames, .inl rfl, fun b hb => ⟨Nat.ne_of_lt (Nat.lt_of_lt_of_le (hlt b hb) hC), fun x c e => (hf b hb).2.2.2.2.1 x c (hcl x c e)⟩,
      I.bs, Nat.le_trans I.ok.bsz I.sz, fun b o e hb => ?_, fun b hb z => ?_, I.stack, I.stkFree⟩,
    rfl, I.bare, Un.kept old, ⟨m, hn, fun i x v h1' h2 h3 => ?_⟩, fun x c e => ?_, I.hok.fresh hC, fun x c e => I.freeC x c (hcl x c e), fun p hp => ?_, I.hok.kept old, ?_⟩
  · have hx' : ((relabel scope X.env).names.lookup x = some .cell ∨ (relabel scope X.env).names.lookup x = some .free) := hx
    rcases hx' with q | q
    · exact hcl2 _ (rel_back L.cell (.inl rfl) q) rfl
    · exact hcl2 _ (rel_back L.cell (.inr rfl) q) rfl
  · rcases (hf b hb).2.2.2.1 with q | q
    · exact I.ok.noex b o e q
    · exact absurd (Nat.lt_of_lt_of_le (Heap.lt_size e) (Nat.le_trans I.ok.bsz q)) (Nat.lt_irrefl _)
  · rcases List.mem_cons.mp (I.stkSub b z) with e | e
    · exact (hf b hb).2.1 e
    · exact (hf b hb).2.2.1 e
  · have h1'' : (Nt ++ fr.map (·.1))[i]? = some x := h1'
    have hi : ¬ i < Nt.length := fun hi => by
      unfold sigC at h2
      rw [List.getElem?_append_left (by simpa using hi), List.getElem?_replicate] at h2
      split at h2 <;> cases h2
    unfold sigC at h2
    rw [List.getElem?_append_right (by simpa using hi), List.length_replicate, List.getElem?_map] at h2
    rw [List.getElem?_append_right (by omega), List.getElem?_map] at h1''
    cases e : fr[i - Nt.length]? with
    | none => rw [e] at h2; cases h2
    | some p =>
      rw [e] at h2 h1''
      have ex : p.1 = x := Option.some.inj h1''
      have ev : (σ[p.2]?).join = some v := Option.some.inj h2
      obtain ⟨hN, hfr⟩ := L.fr p (List.mem_of_getElem? e)
      have es : σ[p.2]? = some (some v) := by
        cases q : σ[p.2]? with
        | none => rw [q] at ev; cases ev
        | some o => rw [q] at ev; exact congrArg some ev
      have hkc := L.free (p.1, .free) (PySem.mem_of_lookup hfr) rfl
      obtain ⟨mo, hmo, hloc⟩ := I.loc
      obtain ⟨u, ru, lk⟩ := hloc p.2 p.1 v hN es (.inr (.inl hkc))
      refine ⟨u, ru, ?_⟩
      rcases lk with ⟨kk, _⟩ | ⟨_, c, hc, hcell⟩
      · rw [hkc] at kk; cases kk
      · obtain ⟨c', hc'⟩ := hcl2 _ (PySem.mem_of_lookup hfr) rfl
        have hcc := hcl _ _ hc'
        rw [hc] at hcc
        cases hcc
        subst ex
        refine .inr ⟨?_, c, hc', ?_⟩
        · exact rel_free hfr
        · obtain ⟨o, q1, q2⟩ := hcell
          exact ⟨o, old _ _ q1, q2⟩
  · obtain ⟨v, q⟩ := I.cell x c (hcl x c e)
    obtain ⟨o, q1, q2⟩ := q
    exact ⟨v, o, old _ _ q1, q2⟩
  · have hp' : p ∈ ([(D, ({ cls := .type "list", data := .seq #[] 0 } : Obj))] : List (Addr × Obj)) := hp
    rw [List.mem_singleton] at hp'
    subst hp'
    exact ⟨ho, I.hok.fresh hD, hCD, fun z => absurd (Nat.lt_of_lt_of_le (hstk _ z) hD) (Nat.lt_irrefl _), fun v z => by cases z⟩
  · unfold sigC
    show _ = (Nt ++ fr.map (·.1)).length
    simp

/-- what has come at the block's end -/
structure LcEnd (X : Cx) (fp : List Addr) (H1 : Hp) (s2 : Shared) (fin : List V → Hp → Prop) (D C : Addr) (s' : Shared) (ys : List V) (its : List Value) (n : Nat) (H' : Hp) (m' : Str → Option Value) : Prop where
  ns : s'.heap.Ns C m'
  fc : H' C = none
  fd : H' D = none
  gc : s2.heap.objs.size ≤ C
  gd : s2.heap.objs.size ≤ D
  cd : D ≠ C
  un : Un (frs X.stack) fp H1 H' s2.heap s'.heap
  ok : HOk X.prog X.w H' s'.heap
  os : s'.os = s2.os
  bare : AllBare s'.gens
  obj : s'.heap.get? D = some { cls := .type "list", data := .seq its.toArray n }
  vals : Vals ys its
  size : ys.length ≤ sizeLine
  fin : fin ys H'

theorem lc_close {pins : List (Addr × Obj)} {σ : St} {fp : List Addr} {H1 H' : Hp} {s2 s' : Shared} {fin : List V → Hp → Prop} {D C : Addr} {ys : List V} {its : List Value} {n : Nat} {m' : Str → Option Value} {h' : Heap}
    (I : Inv X pins σ H1 s2) (hf : ∀ b ∈ fp, FpOk X pins H1 b) (e : LcEnd X fp H1 s2 fin D C s' ys its n H' m') (sb : Heap.SameBut C s'.heap h') : Inv X pins σ (upd H' D (.lst ys)) { s' with heap := h' } := by
  have old : ∀ b o, s2.heap.get? b = some o → b ≠ C ∧ b ≠ D := fun b o q => ⟨Nat.ne_of_lt (Nat.lt_of_lt_of_le (Heap.lt_size q) e.gc), Nat.ne_of_lt (Nat.lt_of_lt_of_le (Heap.lt_size q) e.gd)⟩
  have at' : ∀ b, b ≠ C → h'.get? b = s'.heap.get? b := fun b hb => sb.2 b hb
  refine I.call' (s' := { s' with heap := h' }) (ch := fp) e.os ?_ ?_ e.bare fun b hb => ⟨(hf b hb).2.2.2.1, (hf b hb).2.1, (hf b hb).2.2.2.2.1, (hf b hb).2.2.2.2.2⟩
  · have u := e.un
    refine ⟨fun b o q n hb hx => ?_, fun b o q n hb hx => ?_, fun b o q n hx => ?_, fun b o q hx => ?_, fun b xs q => ?_, fun b o v q => ?_, fun b ps q => ?_⟩
    · exact (at' b (old b o q).1).trans (u.keep b o q n hb hx)
    · obtain ⟨sl, z⟩ := u.slot b o q n hb hx
      exact ⟨sl, (at' b (old b o q).1).trans z⟩
    · rw [upd_ne (old b o q).2]
      exact u.free b o q n hx
    · obtain ⟨o', z⟩ := u.there b o q hx
      exact ⟨o', (at' b (old b o q).1).trans z⟩
    · have z := u.tups b xs q
      rw [upd_ne (ne_of_none z e.fd)]
      exact z
    · have z := u.frzs b o v q
      rw [upd_ne (ne_of_none z e.fd)]
      exact z
    · obtain ⟨more, z⟩ := u.tbls b ps q
      refine ⟨more, ?_⟩
      rw [upd_ne (ne_of_none z e.fd)]
      exact z
  · intro b o q
    by_cases hb : b = D
    · subst hb
      rw [upd_same] at q
      cases q
      exact ⟨e.size, its, n, e.vals, (at' _ e.cd).trans e.obj⟩
    · rw [upd_ne hb] at q
      refine (e.ok b o q).stay (fun c v hc z => ?_) (fun c z => ?_) fun c xs z => ?_
      · have hcC : c ≠ C := by
          rcases hc with rfl | hc
          · exact ne_of_none q e.fc
          · exact ne_of_none hc e.fc
        exact (at' c hcC).trans z
      · rw [upd_ne (ne_of_none z e.fd)]
        exact z
      · rw [upd_ne (ne_of_none z e.fd)]
        exact z

theorem lc_block {pins : List (Addr × Obj)} {σ : St} {H1 : Hp} {s2 : Shared} {cl : List (Str × Addr)} {fp : List Addr} {it : Addr} {tn : Nat → Heap → Prop} {J : It} {W : Nat → Nat → List V → Hp → Prop} {fin : List V → Hp → Prop} {E : Value → Shared → Prop} {RR : Value → Addr → Result → Shared → Prop} {m0 : Nat}
    (L : LcOk X scope Nt fr) (hcalm : X.calm = true) (I : Inv X pins σ H1 s2) (hcl : ∀ x c, cl.lookup x = some c → X.env.cells.lookup x = some c) (hcl2 : ∀ y ∈ scope.names, y.2 = .free → ∃ c, cl.lookup y.1 = some c)
    (T : Turn X.prog X.w X.K tg J fp it tn) (st0 : tn 0 s2.heap) (hf : ∀ b ∈ fp, FpOk X pins H1 b)
    (hg : ∀ z, PG (cxC X scope (Nt ++ fr.map (·.1)) z) tg (g z)) (hgt : ∀ z, Tgt Nt.length (g z)) (hc : ∀ z, PIfs (cxC X scope (Nt ++ fr.map (·.1)) z) ifs (tc z)) (he : ∀ z, PE (cxC X scope (Nt ++ fr.map (·.1)) z) elt (te z))
    (w0 : W 0 m0 [] H1) (step : lcStep J Nt.length fr g tc te σ W fin)
    (hRR : ∀ D C s' ys its n H' m', LcEnd X fp H1 s2 fin D C s' ys its n H' m' → RR (.ref D) C (.ok .next) s') :
    wpAny (model X.prog X.w) X.A (newList []) (fun acc s3 => wpAny (model X.prog X.w) X.A (newFunctionEnv scope X.env.globals cl [] X.env.qual none .none (some X.env)) (fun cenv s4 =>
      codeAny (model X.prog X.w) X.A (.compStart (.ListComp elt [⟨tg, iter, ifs, 0⟩] scope pos) 0 (.ref it) acc { cenv with scope := relabel scope X.env }) (RR acc cenv.locals) s4) E s3) E s2 := by
  refine wpAny_newObj_type (wpAny_newFunctionEnv L.cell (by intro y hy; simp at hy) (fun h1 hns hsb => ?_) L.kind)
  dsimp only at hns hsb ⊢
  generalize hH2 : s2.heap.push { cls := .type "list", dict := none, data := .seq ([] : List Value).toArray } = G at hns hsb ⊢
  have hC : G.objs.size = s2.heap.objs.size + 1 := by rw [← hH2, Heap.size_push]
  have hlt : ∀ b ∈ fp, b < s2.heap.objs.size := fun b hb => by
    obtain ⟨o, q, _⟩ := T.obj 0 _ st0 b hb
    exact Heap.lt_size q
  have old : ∀ b o, s2.heap.get? b = some o → h1.get? b = some o := fun b o q =>
    hsb.extBut b o (by rw [hC]; exact Nat.ne_of_lt (Nat.lt_succ_of_lt (Heap.lt_size q))) (Heap.get?_push_of_some _ (hH2 ▸ Heap.get?_push_of_some _ q))
  have hDC : s2.heap.objs.size ≠ G.objs.size := by rw [hC]; exact Nat.ne_of_lt (Nat.lt_succ_self _)
  have hacc : h1.get? s2.heap.objs.size = some { cls := .type "list", data := .seq #[] 0 } := hsb.extBut _ _ hDC (Heap.get?_push_of_some _ (hH2 ▸ Heap.get?_push_size _ rfl))
  have hgC : s2.heap.objs.size ≤ G.objs.size := by rw [hC]; exact Nat.le_succ _
  have I0 := lc_start (t1 := s2.toks + ([] : List (Str × Value)).length) (C := G.objs.size) (D := s2.heap.objs.size) L I hcl hcl2 hf hlt hgC (Nat.le_refl _) hDC old hns hacc
  have st1 : tn 0 h1 := T.keep 0 _ _ st0 fun b _ o q => old b o q
  generalize hX : cxC X scope (Nt ++ fr.map (·.1)) ⟨cl, G.objs.size, fp, s2, H1⟩ = X' at I0
  have hcd : ∀ x c, cl.lookup x = some c → c < s2.heap.objs.size := fun x c e => by
    obtain ⟨v, q⟩ := I.cell x c (hcl x c e)
    exact q.lt
  have hfr : ∀ b ∈ fp, b ∉ frs X.stack := fun b hb z => by
    rcases List.mem_cons.mp (I.stkSub b z) with e | e
    · exact (hf b hb).2.1 e
    · exact (hf b hb).2.2.1 e
  have stat : ∀ {H' : Hp} {ob : Obj}, (∀ b ∈ fp, H' b = none) → ∀ b ∈ fp, FpOk X' [(s2.heap.objs.size, ob)] H' b := fun {H' ob} hn b hb => by
    subst hX
    refine ⟨hn b hb, Nat.ne_of_lt (Nat.lt_of_lt_of_le (hlt b hb) hgC), hfr b hb, .inl hb, fun x c e => (hf b hb).2.2.2.2.1 x c (hcl x c e), fun p hp => ?_⟩
    have hp' : p ∈ ([(s2.heap.objs.size, ob)] : List (Addr × Obj)) := hp
    rw [List.mem_singleton] at hp'
    subst hp'
    exact Nat.ne_of_gt (hlt b hb)
  have eP : X'.prog = X.prog := by subst hX; rfl
  have eW : X'.w = X.w := by subst hX; rfl
  have eK : X'.K = X.K := by subst hX; rfl
  have eC : X'.calm = true := by subst hX; exact hcalm
  have hg' : PG X' tg (g ⟨cl, G.objs.size, fp, s2, H1⟩) := by subst hX; exact hg _
  have hc' : PIfs X' ifs (tc ⟨cl, G.objs.size, fp, s2, H1⟩) := by subst hX; exact hc _
  have he' : PE X' elt (te ⟨cl, G.objs.size, fp, s2, H1⟩) := by subst hX; exact he _
  -- what is known of the list that grows
  have grow : ∀ {pl : List (Addr × Obj)} {σ' : St} {H' : Hp} {s' : Shared} {ob ob' : Obj} {h' : Heap}, Inv X' pl σ' H' s' → H' s2.heap.objs.size = none → (sigC Nt.length fr σ).length = σ'.length → σ'.drop Nt.length = (sigC Nt.length fr σ).drop Nt.length →
      Heap.SameBut s2.heap.objs.size s'.heap h' → h'.get? s2.heap.objs.size = some ob' → (∀ v, ob'.data ≠ .cell v) → Inv X' [(s2.heap.objs.size, ob')] (sigC Nt.length fr σ) H' { s' with heap := h' } := fun {pl σ' H' s' ob ob' h'} I' hn hl hd sb ho' hv => by
    have I1 : Inv X' [] σ' H' s' := I'.pins_of fun p hp => (nomatch hp)
    have g1 : s2.heap.objs.size ≠ X'.env.locals := by subst hX; exact hDC
    have g2 : X'.s₀.heap.objs.size ≤ s2.heap.objs.size := by subst hX; exact Nat.le_refl _
    have g3 : ∀ x c, X'.env.cells.lookup x = some c → c ≠ s2.heap.objs.size := by subst hX; exact fun x c e => Nat.ne_of_lt (hcd x c e)
    have g4 : ∀ p ∈ X'.pn ++ ([] : List (Addr × Obj)), p.1 ≠ s2.heap.objs.size := by subst hX; exact fun p hp => (nomatch (show p ∈ ([] : List (Addr × Obj)) from hp))
    have g5 : s2.heap.objs.size ∉ X'.fs := by
      subst hX
      intro z
      rcases List.mem_cons.mp (I.stkSub _ z) with e | e
      · exact absurd (e ▸ I.lt) (Nat.lt_irrefl _)
      · exact I.nofs (Nat.le_refl _) e
    have I2 : Inv X' [] σ' H' { s' with heap := h' } := I1.turned (t' := s'.toks) (it := s2.heap.objs.size) (fun b o hb q => (sb.2 b hb).trans q) hn g1 (.inr g2) g3 g4
    have I3 : Inv X' [(s2.heap.objs.size, ob')] σ' H' { s' with heap := h' } := I2.pins_of fun p hp => by
      rw [List.mem_singleton] at hp
      subst hp
      exact ⟨ho', hn, g1, g5, hv⟩
    refine I3.weak hl fun i v q => ?_
    have hi : ¬ i < Nt.length := fun hi => by
      unfold sigC at q
      rw [List.getElem?_append_left (by simpa using hi), List.getElem?_replicate] at q
      split at q <;> cases q
    have z : ∀ l : St, l[i]? = (l.drop Nt.length)[i - Nt.length]? := fun l => by
      rw [List.getElem?_drop]
      congr 1
      omega
    rw [z, hd, ← z]
    exact q
  have loop : ∀ s3 : Shared, s3 = { s2 with heap := h1, toks := s2.toks + ([] : List (Str × Value)).length } →
      codeAny (model X.prog X.w) X.A (.compLoop (.ListComp elt [⟨tg, iter, ifs, 0⟩] scope pos) 0 (.ref it) (.ref s2.heap.objs.size) (compEnvC scope cl G.objs.size X.env)) (RR (.ref s2.heap.objs.size) G.objs.size) s3 := by
    rintro s3 rfl
    refine comp_loop (P := fun s' => ∃ ys its n H' m', LcEnd X fp H1 s2 fin s2.heap.objs.size G.objs.size s' ys its n H' m') (fun s' ⟨ys, its, n, H', m', q⟩ => hRR _ _ s' ys its n H' m' q)
      (fun n s' => ∃ i ys its c H', Inv X' [(s2.heap.objs.size, { cls := .type "list", data := .seq (its : List Value).toArray c })] (sigC Nt.length fr σ) H' s' ∧ Vals ys its ∧ tn i s'.heap ∧ (∀ b ∈ fp, H' b = none) ∧ W i n ys H')
      ?_ m0 ⟨0, [], [], 0, H1, I0, .nil, st1, fun b hb => (hf b hb).1, w0⟩
    rintro n s' ⟨i, ys, its, c, H', I', rv, st, fr0, w⟩
    obtain ⟨hz, hstep⟩ := step i n ys H' w
    have nD : ∀ {pl : List (Addr × Obj)} {σ' : St} {H'' : Hp} {s'' : Shared} {ob : Obj}, Inv X' ((s2.heap.objs.size, ob) :: pl) σ' H'' s'' → s''.heap.get? s2.heap.objs.size = some ob ∧ H'' s2.heap.objs.size = none := fun {pl σ' H'' s'' ob} I'' => by
      have q := I''.pin (s2.heap.objs.size, ob) (List.mem_append_right _ List.mem_cons_self)
      exact ⟨q.1, q.2.1⟩
    rcases hstep with ⟨stop, fn⟩ | ⟨go, hgo⟩
    · have A1 := T.done X' eP eW eK eC i _ s' _ H' (fun _ _ => False) I' (stat fr0) st stop
      have hA : X'.A = X.A := by subst hX; rfl
      rw [hA] at A1
      refine thn A1 fun r s1 ⟨hr, I1⟩ => ?_
      subst hr
      obtain ⟨q1, q2⟩ := nD I1
      have hL : X'.env.locals = G.objs.size := by subst hX; rfl
      obtain ⟨m', hm', _⟩ := I1.loc
      have un : Un (frs X.stack) fp H1 H' s2.heap s1.heap := by subst hX; exact I1.base
      have os : s1.os = s2.os := by subst hX; exact I1.os
      exact ⟨ys, its, c, H', m', ⟨hL ▸ hm', hL ▸ I1.free, q2, hgC, Nat.le_refl _, hDC, un, eP ▸ eW ▸ I1.hok, os, I1.bare, q1, rv, Nat.le_of_lt hz, fn⟩⟩
    · have hA : X'.A = X.A := by subst hX; rfl
      have hE : X'.env = compEnvC scope cl G.objs.size X.env := by subst hX; rfl
      have hxe : X'.xe = fun _ _ => False := by subst hX; rfl
      have A1 := T.item X' eP eW eK eC i _ s' _ H' (fun _ _ => False) I' (stat fr0) st go
      rw [hA] at A1
      refine thn A1 fun r s1 ⟨u, hr, h4⟩ => ?_
      subst hr
      refine thn h4 fun _ s5 ⟨x, H5, I5, r5, y5, st5, fr5⟩ => ?_
      have I5' := I5.pinned (stat fr5) (T.obj _ _ st5)
      have q5 := hgt _ x _ H5 _ (hgo ⟨cl, G.objs.size, fp, s2, H1⟩ x H5 y5)
      have A2 := hg' _ s5 _ H5 x u _ I5' r5 q5
      rw [eP, eW, hA, hE, hxe] at A2
      refine thn A2 fun _ s6 ⟨σ6, H6, I6, q6, l6, d6⟩ => ?_
      have A3 := hc' _ s6 σ6 H6 _ I6 q6
      rw [eP, eW, hA, hE, hxe] at A3
      refine thn A3 fun ok s7 ⟨H7, I7, q7⟩ => ?_
      have back : ∀ {σ8 : St} {H8 : Hp} {s8 s9 : Shared}, Inv X' ([(s2.heap.objs.size, { cls := .type "list", data := .seq its.toArray c })] ++ pinsAt fp s5.heap) σ8 H8 s8 → (∀ b, b ≠ s2.heap.objs.size → s9.heap.get? b = s8.heap.get? b) → tn (i + 1) s9.heap ∧ ∀ b ∈ fp, H8 b = none := fun {σ8 H8 s8 s9} I8 h9 => by
        refine ⟨T.keep _ _ _ st5 fun b hb o q => ?_, fun b hb => ?_⟩
        · rw [h9 b (Nat.ne_of_lt (hlt b hb))]
          exact (I8.pin (b, o) (List.mem_append_right _ (List.mem_append_right _ (mem_pinsAt hb q)))).1
        · obtain ⟨o, q, _⟩ := T.obj _ _ st5 b hb
          exact (I8.pin (b, o) (List.mem_append_right _ (List.mem_append_right _ (mem_pinsAt hb q)))).2.1
      cases ok with
      | false =>
        rw [if_neg Bool.false_ne_true] at q7 ⊢
        obtain ⟨m', hm', w'⟩ := q7
        obtain ⟨e1, e2⟩ := nD I7
        obtain ⟨b1, b2⟩ := back (s9 := s7) I7 fun _ _ => rfl
        refine ⟨m', hm', i + 1, ys, its, c, H7, ?_, rv, b1, b2, w'⟩
        exact grow (ob := { cls := .type "list", data := .seq its.toArray c }) (h' := s7.heap) I7 e2 l6.symm d6 (.refl ..) e1 (fun v z => by cases z)
      | true =>
        rw [if_pos rfl] at q7 ⊢
        have A4 := he' _ s7 σ6 H7 _ I7 q7
        rw [eP, eW, hA, hE, hxe] at A4
        refine thn A4 fun v s8 ⟨y, H8, I8, r8, m', hm', w'⟩ => ?_
        obtain ⟨e1, e2⟩ := nD I8
        refine append_at (hsz := by rw [List.size_toArray, ← rv.length]; exact Nat.le_of_lt hz) e1 fun h9 sb o9 => ?_
        obtain ⟨b1, b2⟩ := back (s9 := { s8 with heap := h9 }) I8 fun b hb => sb.2 b hb
        have ea : its.toArray.push v = (its ++ [v]).toArray := by simp
        rw [ea] at o9
        refine ⟨m', hm', i + 1, ys ++ [y], its ++ [v], c + 1, H8, ?_, rv.append (.cons r8 .nil), b1, b2, w'⟩
        exact grow (ob := { cls := .type "list", data := .seq its.toArray c }) I8 e2 l6.symm d6 sb o9 (fun v z => by cases z)
  exact codeAny_compStart_list (loop _ rfl) (T.self X.A 0 _ _ _ st1 (loop _ rfl))

/-- [elt for tg in iter if ..] -/
theorem pe_lc {wi : TI} (L : LcOk X scope Nt fr) (hcalm : X.calm = true) (hi : PI X tg iter wi) (hg : ∀ z, PG (cxC X scope (Nt ++ fr.map (·.1)) z) tg (g z)) (hgt : ∀ z, Tgt Nt.length (g z))
    (hc : ∀ z, PIfs (cxC X scope (Nt ++ fr.map (·.1)) z) ifs (tc z)) (he : ∀ z, PE (cxC X scope (Nt ++ fr.map (·.1)) z) elt (te z)) (hs : ∀ x, foldedSetIterable iter X.env x = pure x := by intro _; rfl) :
    PE X (.ListComp elt [⟨tg, iter, ifs, 0⟩] scope pos) (tLC wi Nt.length fr g tc te) := by
  intro pins s σ H Q I h
  obtain ⟨cl, e1, e2, e3⟩ := clos_of (scope := scope) (env := X.env) fun y hy hf => I.ok.has _ (.inl (L.free y hy hf))
  rw [eval_ListComp]
  refine wpAny_comprehension_free (use := none) rfl hs e1 L.kind L.names (thn (hi pins s σ H _ I h) fun v s1 h1 => thn h1 fun itv s2 h2 => ?_)
  obtain ⟨it, fp, tn, J, H2, e, I2, T, st2, f2, W, ⟨m0, w0⟩, step⟩ := h2
  subst e
  refine lc_block (RR := fun acc C r s' => compPost (model X.prog X.w) X.A X.xe none (EP X pins σ Q) acc C r s') L hcalm I2 e2 e3 T st2 f2 hg hgt hc he w0 step fun D C s' ys its n H' m' q => ?_
  exact ⟨m', q.ns, fun h' sb => ⟨.ref D, _, lc_close I2 f2 q sb, rfl, q.fin D q.fd⟩⟩

/-- y = [elt for tg in iter if ..] -/
def tLCset (wi : TI) (k : Nat) (fr : List (Str × Nat)) (g : ZC → TG) (tc : ZC → TT) (te : ZC → TE) (j : Nat) : TS := fun Ds σ H => wi σ H fun J H1 =>
  ∃ W : Nat → Nat → List V → Hp → Prop, (∃ m, W 0 m [] H1) ∧ lcStep J k fr g tc te σ W fun ys H2 => ∀ p, H2 p = none → Ds.nx (σ.set j (some (.ref p))) (upd H2 p (.lst ys))
end
end L2
end
section
set_option Elab.async false
set_option linter.all false
set_option maxRecDepth 100000
set_option maxHeartbeats 4000000
namespace L2
open PySem PySem.Spec PyProof.Rows

/-! ### zip of two tuples -/
section
variable {prog : Program} {w : World} {A : Around} {E : Value → Shared → Prop} {s : Shared}

/-- the records of a zip that walks two tuples -/
structure ZAt (h : Heap) (z TI TO i1 i2 t1 t2 : Addr) (k : Nat) (f : Value) : Prop where
  z : IsZip h z TI TO f
  ti : IsPair h TI (.ref i1) (.ref i2)
  to : ∃ a b, IsPair h TO a b
  j1 : h.IsTupleIter i1 t1 k
  j2 : h.IsTupleIter i2 t2 k
structure ZNe (z TI TO i1 i2 t1 t2 : Addr) : Prop where
  a1 : TI ≠ z
  a2 : TO ≠ z
  a3 : i1 ≠ z
  a4 : i2 ≠ z
  a5 : TI ≠ TO
  a6 : TI ≠ i1
  a7 : TI ≠ i2
  a8 : TO ≠ i1
  a9 : TO ≠ i2
  b1 : i1 ≠ i2
  c1 : t1 ≠ z ∧ t1 ≠ TO ∧ t1 ≠ i1 ∧ t1 ≠ i2
  c2 : t2 ≠ z ∧ t2 ≠ TO ∧ t2 ≠ i1 ∧ t2 ≠ i2

abbrev zh1 (h : Heap) (a : Addr) : Heap := h.push { cls := .type "tuple_iterator", data := .fields #[.ref a, .int 0 0] }
abbrev zh2 (h : Heap) (a b : Addr) : Heap := (zh1 h a).push { cls := .type "tuple_iterator", data := .fields #[.ref b, .int 0 0] }
abbrev zh3 (h : Heap) (a b : Addr) : Heap := (zh2 h a b).push { cls := .type "tuple", data := .seq #[.ref h.objs.size, .ref (zh1 h a).objs.size] }
abbrev zh4 (h : Heap) (a b : Addr) : Heap := (zh3 h a b).push { cls := .type "tuple", data := .seq #[.none, .none] }
abbrev zh5 (h : Heap) (a b : Addr) : Heap := (zh4 h a b).push { cls := .type "zip", data := .fields #[.none, .bool false, .bool false, .ref (zh2 h a b).objs.size, .ref (zh3 h a b).objs.size] }
end
section
variable {prog : Program} {w : World} {A : Around} {E : Value → Shared → Prop} {s : Shared}
end

/-- what a zip of the tuples at a and b yields -/
def Itz (K : PySem.W.Frag) (a b : Addr) : It :=
  ⟨fun i H => ∃ xs ys x y, SqT K H a xs ∧ SqT K H b ys ∧ xs[i]? = some x ∧ ys[i]? = some y,
   fun i H v H' => ∃ p, v = .ref p ∧ H p = none ∧ ∃ x y, (∀ xs, SqT K H a xs → xs[i]? = some x) ∧ (∀ ys, SqT K H b ys → ys[i]? = some y) ∧ H' = upd H p (.tup [x, y]),
   fun i H => ∃ xs ys, SqT K H a xs ∧ SqT K H b ys ∧ (xs.length ≤ i ∨ ys.length ≤ i)⟩
section
variable {X : Cx}
def iZip (K : PySem.W.Frag) (ta : TA) : TI := fun σ H R => ta σ H fun vs H1 => ∃ a b xs ys, vs = [.ref a, .ref b] ∧ SqT K H1 a xs ∧ SqT K H1 b ys ∧ R (Itz K a b) H1
end
end L2
end
section
set_option Elab.async false
set_option linter.all false
set_option maxRecDepth 100000
set_option maxHeartbeats 4000000
namespace L2
open PySem PySem.Spec PyProof.Rows

section
variable {prog : Program} {w : World} {A : Around} {E : Value → Shared → Prop} {s : Shared}
/-- the whole of a tuple is the tuple itself -/
theorem getItem_tuple_all {t sl : Addr} {items : Array Value} {vl vu : Value} {lo hi : Option Int} {Q : Value → Shared → Prop} (ht : IsTup s.heap t items) (hs : s.heap.IsSliceOf sl vl vu .none) (pl : IsPart vl lo) (pu : IsPart vu hi)
    (hw : HT.sIx items.size 0 lo = 0 ∧ HT.sIx items.size items.size hi = items.size) (h : Q (.ref t) s) : wpAny (model prog w) A (getItem (.ref t) (.ref sl)) Q E s := by
  obtain ⟨os, hos, hcs, hds⟩ := id hs
  have hTs : s.TypeIs (.ref sl) "slice" := ⟨os, hos, hcs⟩
  unfold getItem
  try with_reducible refine wpAny_holding ?_
  first | refine wpAny_bind (wpAny_pure ?_) | skip
  refine wpAny_bind (wpAny_sequenceKey ht.typeIs (by decide) ?_)
  refine wpAny_bind (wpAny_callSpecial?_slot (name := Str.ofString "__getitem__") ht.typeIs PyProof.Rows.slot_tuple_getitem
    (wpAny_call_entry PyProof.Rows.slot_tuple_getitem ht.typeIs entry_tuple_getitem ?_ (args_tuple_getitem _ _)))
  show wpAny _ _ (Builtin.Tuple.tupleItemsOf (.ref t) >>= _) _ _ s
  refine wpAny_bind (tupleItemsOf_ ht ?_)
  refine wpAny_bind (wpAny_typeOf hTs ?_)
  rw [if_pos (by decide)]
  refine wpAny_bind (HT.sliceApplied_gen hs pl pu ?_)
  have yes : (((HT.sIx items.size 0 lo : Nat) : Int) == 0 && (1 : Int) == 1 && (HT.sIx items.size items.size hi - HT.sIx items.size 0 lo) == items.size) = true := by
    rw [hw.1, hw.2]; simp
  show wpAny _ _ (if (((HT.sIx items.size 0 lo : Nat) : Int) == 0 && (1 : Int) == 1 && (HT.sIx items.size items.size hi - HT.sIx items.size 0 lo) == items.size) = true then _ else _) _ _ s
  rw [if_pos yes]
  obtain ⟨o, ho, hc, n, hd⟩ := id ht
  have ex : wpAny (model prog w) A.in1 (Builtin.Tuple.tupleIsExact (.ref t)) (fun b s' => b = true ∧ s' = s) E s := by
    unfold Builtin.Tuple.tupleIsExact
    first
      | exact wpAny_bind (wpAny_typeOf ⟨o, ho, hc⟩ (wpAny_pure ⟨by rfl, rfl⟩))
      | exact wpAny_bind (wpAny_load ho (wpAny_pure ⟨by rw [hc]; rfl, rfl⟩))
  refine wpAny_bind (thn ex fun b s' hb => ?_)
  obtain ⟨rfl, rfl⟩ := hb
  rw [if_pos rfl]
  exact wpAny_bind (wpAny_rule (wpAny_pure ⟨_, rfl, wpAny_pure h⟩))
end
section
variable {X : Cx}
def rSlW (K : PySem.W.Frag) : V → Option Int → Option Int → Hp → VK → Prop := fun x lo hi H Q => ∃ a xs, x = .ref a ∧ SqT K H a xs ∧ HT.sIx xs.length 0 lo = 0 ∧ HT.sIx xs.length xs.length hi = xs.length ∧ Q (.ref a) H
theorem sl_tupW : SlR X (rSlW X.K) := by
  intro pins s σ H x v vl vu lo hi sl Q I rx hs pl pu h
  obtain ⟨a, xs, rfl, hx, h1, h2, q⟩ := h
  cases rx
  obtain ⟨its, r, ht, hz⟩ := I.tuple hx
  have hlen : its.toArray.size = xs.length := by rw [List.size_toArray]; exact r.length.symm
  refine ⟨"tuple", _, PyProof.Rows.slot_tuple_getitem.lookup, ht.typeIs, ?_⟩
  exact getItem_tuple_all ht hs pl pu (by rw [hlen]; exact ⟨h1, h2⟩) ⟨.ref a, H, I, rfl, q⟩
def rSlS : V → Option Int → Option Int → Hp → VK → Prop := fun x lo hi H Q => ∃ z, x = .str z ∧ z.length ≤ sizeLine ∧ Q (.str (Txt.slice z lo hi)) H
theorem sl_str : SlR X rSlS := by
  intro pins s σ H x v vl vu lo hi sl Q I rx hs pl pu h
  obtain ⟨z, rfl, hz, q⟩ := h
  obtain ⟨t, rfl⟩ := rx
  obtain ⟨os, hos, hcs, hds⟩ := id hs
  refine ⟨"str", _, F.slot_str_getitem.lookup, typeIs_str _ _ _, ?_⟩
  have fin : ∀ (t' : Tok) (k : Nat), EP X pins σ Q (.str (Txt.slice z lo hi) t') { s with toks := k } := fun t' k => ⟨.str _, H, I.tok _, ⟨_, rfl⟩, q⟩
  cases pl with
  | none =>
    cases pu with
    | none => exact wpAny_getItem_str_slice (l := none) (u := none) (st := none) ⟨os, hos, hcs, hds⟩ rfl (post_val_or_str ⟨Nat.le_trans (Txt.slice_le z _ _) hz, fin⟩)
    | int j uj => exact wpAny_getItem_str_slice (l := none) (u := some (j, uj)) (st := none) ⟨os, hos, hcs, hds⟩ rfl (post_val_or_str ⟨Nat.le_trans (Txt.slice_le z _ _) hz, fin⟩)
  | int i ui =>
    cases pu with
    | none => exact wpAny_getItem_str_slice (l := some (i, ui)) (u := none) (st := none) ⟨os, hos, hcs, hds⟩ rfl (post_val_or_str ⟨Nat.le_trans (Txt.slice_le z _ _) hz, fin⟩)
    | int j uj => exact wpAny_getItem_str_slice (l := some (i, ui)) (u := some (j, uj)) (st := none) ⟨os, hos, hcs, hds⟩ rfl (post_val_or_str ⟨Nat.le_trans (Txt.slice_le z _ _) hz, fin⟩)
/-- a[lo:hi] of a list, a tuple (the whole or not), a text -/
theorem sl_U : SlR X (fun x lo hi H Q => rSlL X.K x lo hi H Q ∨ (rSlT X.K x lo hi H Q ∨ (rSlW X.K x lo hi H Q ∨ rSlS x lo hi H Q))) := sl_list.or (sl_tup.or (sl_tupW.or sl_str))
end
/-- a def of the text: its own facts in one -/
structure Df (K : PySem.W.Frag) (mg : Str → Option Value) (x : Str) (st : Stmt) (f : Addr) (fd : FuncData) (ps : List Str) : Prop where
  fn : Fun K x x st f fd
  b : Binds K fd ps []
  mg : mg x = some (.ref f)
theorem Df.kp {K : PySem.W.Frag} {mg : Str → Option Value} {x : Str} {st : Stmt} {f : Addr} {fd : FuncData} {ps : List Str} (D : Df K mg x st f fd ps) : PySem.W.keepIn K (.ref f) = true := D.fn.kp
end L2
namespace L2
open PySem
theorem bt_len : bootBuiltins "len" = some (.builtin "len") := by decide +kernel
theorem bt_isinstance : bootBuiltins "isinstance" = some (.builtin "isinstance") := by decide +kernel
theorem bt_sorted : bootBuiltins "sorted" = some (.builtin "sorted") := by decide +kernel
theorem bt_int : bootBuiltins "int" = some (.type "int") := by decide +kernel
theorem bt_tuple : bootBuiltins "tuple" = some (.type "tuple") := by decide +kernel
theorem bt_bool : bootBuiltins "bool" = some (.type "bool") := by decide +kernel
end L2
end
section
set_option Elab.async false
set_option linter.all false
set_option maxRecDepth 100000
namespace L2
open PySem
def lcChk (sc : Scope) (N : List Str) (scope : Scope) (fr : List (Str × Nat)) : Bool :=
  (scope.kind == .function) && scope.names.all (fun y => decide (y.2 ≠ .cell)) && scope.names.all (fun y => decide (y.2 = .local → scope.names.lookup y.1 = some .local)) &&
    scope.names.all (fun y => decide (y.2 = .free → sc.names.lookup y.1 = some .cell)) && fr.all (fun p => decide (N[p.2]? = some p.1) && decide (scope.names.lookup p.1 = some .free))
theorem LcOk.of {X : Cx} {sc : Scope} {N : List Str} {scope : Scope} {Nt : List Str} {fr : List (Str × Nat)} (h1 : X.env.scope = sc) (h2 : X.N = N) (h : lcChk sc N scope fr = true) : LcOk X scope Nt fr := by
  unfold lcChk at h
  simp only [Bool.and_eq_true, List.all_eq_true, decide_eq_true_eq] at h
  obtain ⟨⟨⟨⟨a1, a2⟩, a3⟩, a4⟩, a5⟩ := h
  refine ⟨eq_of_beq a1, a2, a3, fun y hy hf => ?_, fun p hp => ?_⟩
  · show X.env.scope.names.lookup y.1 = some .cell
    rw [h1]; exact a4 y hy hf
  · rw [h2]; exact a5 p hp
end L2
end
section
set_option Elab.async false
set_option linter.all false
set_option maxRecDepth 100000
set_option maxHeartbeats 4000000
namespace L2
open PySem PySem.Spec PyProof.Rows
/-! ### calls and displays, without unfolding the evaluator -/
def notStar : Expr → Bool
  | .Starred _ _ => false
  | _ => true
def noStars : List Expr → Bool
  | [] => true
  | e :: es => notStar e && noStars es
theorem star_cons {env : Env} {e : Expr} {es : List Expr} (h : notStar e = true) : starEach (e :: es) env = (false, eval e env) :: starEach es env := by
  cases e <;> first | rfl | exact absurd h Bool.false_ne_true
theorem stars_any {env : Env} {pos : Pos} : ∀ {es : List Expr}, noStars es = true → (backTo pos (starEach es env)).any (·.1) = false
  | [], _ => rfl
  | e :: es, h => by
    have h' : (notStar e && noStars es) = true := h
    rw [Bool.and_eq_true] at h'
    rw [star_cons h'.1]
    show (false || (backTo pos (starEach es env)).any (·.1)) = false
    rw [stars_any h'.2]; rfl
section
variable {X : Cx}
theorem qa_cons {e : Expr} {es : List Expr} {te : TE} {t : TA} (ha : PE X e te) (hr : PA X es t) (hs : notStar e = true := by rfl) : PA X (e :: es) (tCons te t) := pa_cons ha hr (star_cons hs)
/-- constants as they stand -/
def constV : Expr → Option V
  | .Constant (.int i) _ _ => some (.int i)
  | .Constant (.str x) _ _ => some (.str x)
  | .Constant (.bool b) _ _ => some (.bl b)
  | _ => none
def constVs : List Expr → Option (List V)
  | [] => some []
  | e :: es => match constV e, constVs es with
    | some v, some vs => some (v :: vs)
    | _, _ => none
theorem pe_const {e : Expr} {v : V} (h : constV e = some v) : PE X e (tC v) := by
  unfold constV at h
  split at h
  · cases h; exact pe_int
  · cases h; exact pe_str
  · cases h; exact pe_bl
  · cases h
theorem constV_ns {e : Expr} {v : V} (h : constV e = some v) : notStar e = true := by
  cases e <;> first | rfl | (unfold constV at h; cases h)
def tVs (vs : List V) : TA := fun _ H Q => Q vs H
theorem pa_consts : ∀ {es : List Expr} {vs : List V}, constVs es = some vs → PA X es (tVs vs)
  | [], vs, h => by cases h; exact pa_nil
  | e :: es, vs, h => by
    unfold constVs at h
    cases h1 : constV e with
    | none => rw [h1] at h; cases h
    | some v =>
      cases h2 : constVs es with
      | none => rw [h1, h2] at h; cases h
      | some us =>
        rw [h1, h2] at h
        cases h
        exact pa_cons (pe_const h1) (pa_consts h2) (star_cons (constV_ns h1))
theorem qe_call {CX : CXT} {k : Nat} {f : Addr} {fd : FuncData} {ps : List Str} {sp : Sp} {dvs : List V} {ds : List Value} {E : XK} {x : Str} {p pos : Pos} {e : Expr} {es : List Expr} {t : TA}
    (F : FnOk X.prog X.w X.K X.mg X.base CX k f fd ps sp) (hr : Room k X.A) (hg : Gl X x) (hm : X.mg x = some (.ref f)) (hk : PySem.W.keepIn X.K (.ref f) = true) (hb : Binds X.K fd ps ds) (hd : Vals dvs ds) (hx : Passes CX X E)
    (ha : PA X (e :: es) t) (hs : noStars (e :: es) = true := by rfl) (hdb : (x == ("__debug__" : Str)) = false := by decide) : PE X (.Call (.Name x p) (e :: es) [] pos) (tCall sp dvs E t) := by
  have h' : (notStar e && noStars es) = true := hs
  rw [Bool.and_eq_true] at h'
  exact pe_call F hr hg hm hk hb hd hx ha hdb (star_cons h'.1) (stars_any h'.2)
theorem qe_callV {CX : CXT} {k i : Nat} {f : Addr} {fd : FuncData} {ps : List Str} {sp : Sp} {dvs : List V} {ds : List Value} {E : XK} {x : Str} {p pos : Pos} {e : Expr} {es : List Expr} {t : TA}
    (F : FnOk X.prog X.w X.K X.mg X.base CX k f fd ps sp) (hr : Room k X.A) (hN : X.N[i]? = some x) (hv : Vis X.env.scope x) (hk : PySem.W.keepIn X.K (.ref f) = true) (hb : Binds X.K fd ps ds) (hd : Vals dvs ds) (hx : Passes CX X E)
    (ha : PA X (e :: es) t) (hs : noStars (e :: es) = true := by rfl) (hdb : (x == ("__debug__" : Str)) = false := by decide) (hcd : (x == ("__classdict__" : Str)) = false := by decide) :
    PE X (.Call (.Name x p) (e :: es) [] pos) (fun σ H Q => σ[i]? = some (some (.ref f)) ∧ tCall sp dvs E t σ H Q) := by
  have h' : (notStar e && noStars es) = true := hs
  rw [Bool.and_eq_true] at h'
  exact pe_callV F hr hN hv hk hb hd hx ha hdb hcd (star_cons h'.1) (stars_any h'.2)
theorem qe_callB {x : Str} {p pos : Pos} {e : Expr} {es : List Expr} {t : TA} {id : String} {r : List V → Hp → VK → Prop} (hc : CallR X (.builtin id) r) (hg : Gl X x) (hm : X.mg x = none) (hv : bootBuiltins x = some (.builtin id)) (ha : PA X (e :: es) t)
    (hs : noStars (e :: es) = true := by rfl) (hn : x ≠ "__name__" := by decide) (hdb : (x == ("__debug__" : Str)) = false := by decide) : PE X (.Call (.Name x p) (e :: es) [] pos) (tCB r t) := by
  have h' : (notStar e && noStars es) = true := hs
  rw [Bool.and_eq_true] at h'
  exact pe_callB hc hg hm hv ha hn hdb (star_cons h'.1) (stars_any h'.2)
theorem qe_callTy {x : Str} {p pos : Pos} {e : Expr} {es : List Expr} {t : TA} {T : String} {r : List V → Hp → VK → Prop} (hc : CallR X (.type T) r) (hg : Gl X x) (hm : X.mg x = none) (hv : bootBuiltins x = some (.type T)) (ha : PA X (e :: es) t)
    (hs : noStars (e :: es) = true := by rfl) (hn : x ≠ "__name__" := by decide) (hdb : (x == ("__debug__" : Str)) = false := by decide) : PE X (.Call (.Name x p) (e :: es) [] pos) (tCB r t) := by
  have h' : (notStar e && noStars es) = true := hs
  rw [Bool.and_eq_true] at h'
  exact pe_callTy hc hg hm hv ha hn hdb (star_cons h'.1) (stars_any h'.2)
theorem qi_range1 {tg a : Expr} {ta : TA} {p pos : Pos} (hg : Gl X "range") (hm : X.mg "range" = none) (ha : PA X [a] ta) (hs : notStar a = true := by rfl) : PI X tg (.Call (.Name "range" p) [a] [] pos) (iRng1 ta) :=
  pi_range1 hg hm ha (by rw [star_cons hs]; rfl)
end
end L2
end
section
set_option Elab.async false
set_option linter.all false
set_option maxRecDepth 100000
set_option maxHeartbeats 4000000
namespace L2
open PySem PySem.Spec PyProof.Rows
/-! ### the rules once more, behind a cover that the elaborator does not open -/
theorem relv_ref (a : Addr) : RelV (.ref a) (.ref a) := rfl
theorem relv_int (i : Int) (t : Tok) : RelV (.int i) (.int i t) := ⟨t, rfl⟩
theorem relv_ty (n : String) : RelV (.ty n) (.type n) := rfl
structure Hd (p : Prop) : Prop where
  out : p
section
variable {X : Cx} {pos : Pos} {a b c e o : Expr} {es : List Expr} {ta tb tc te to : TE} {t u : TS} {tt tu : TT} {tA : TA} {st : Stmt} {rest : List Stmt}
theorem wv (i : Nat) {x : Str} (hN : X.N[i]? = some x := by rfl) (hv : Vis X.env.scope x := by first | exact Or.inl rfl | exact Or.inr (Or.inl rfl) | exact Or.inr (Or.inr rfl)) (hd : (x == ("__debug__" : Str)) = false := by decide)
    (hcd : (x == ("__classdict__" : Str)) = false := by decide) : Hd (PE X (.Name x pos) (tVar i)) := ⟨pe_var hN hv hd hcd⟩
theorem we_int {i j pos} : Hd (PE X (.Constant (.int i) j pos) (tC (.int i))) := ⟨pe_int⟩
theorem we_str {x j pos} : Hd (PE X (.Constant (.str x) j pos) (tC (.str x))) := ⟨pe_str⟩
theorem we_bl {x j pos} : Hd (PE X (.Constant (.bool x) j pos) (tC (.bl x))) := ⟨pe_bl⟩
theorem we_glob {x : Str} {v : V} {y : Value} (hg : Gl X x) (hm : X.mg x = some y) (r : RelV v y) (hd : (x == ("__debug__" : Str)) = false := by decide) : Hd (PE X (.Name x pos) (tC v)) := ⟨pe_glob hg hm r hd⟩
theorem we_bltn {x : Str} {v : V} {y : Value} (hg : Gl X x) (hm : X.mg x = none) (hv : bootBuiltins x = some y) (r : RelV v y) (hn : x ≠ "__name__" := by decide) (hd : (x == ("__debug__" : Str)) = false := by decide) : Hd (PE X (.Name x pos) (tC v)) := ⟨pe_bltn hg hm hv r hn hd⟩
theorem we_op {op : Operator} {r : R2} (ho : OpR X (binaryOp op) r) (ha : Hd (PE X a ta)) (hb : Hd (PE X b tb)) : Hd (PE X (.BinOp a op b pos) (tOp r ta tb)) := ⟨pe_op ho ha.out hb.out⟩
theorem we_un {op : UnaryOp} {r : V → Hp → VK → Prop} (ho : UnR X (unaryOp op) r) (ha : Hd (PE X a ta)) : Hd (PE X (.UnaryOp op a pos) (tUn r ta)) := ⟨pe_un ho ha.out⟩
theorem we_lst (h : Hd (PA X es tA)) : Hd (PE X (.List es pos) (tLst tA)) := ⟨pe_lst h.out⟩
theorem we_tup {x1} (h : Hd (PA X es tA)) : Hd (PE X (.Tuple es x1 pos) (tTup tA)) := ⟨pe_tup h.out⟩
theorem we_dnewK : Hd (PE X (.Dict [] [] pos) tDNewK) := ⟨pe_dnewK⟩
theorem we_rev {k : Nat} {p2 p3 p4 : Pos} (he : Hd (PE X e te)) : Hd (PE X (.Subscript e (.Slice none none (some (.UnaryOp .USub (.Constant (.int 1) k p3) p4)) p2) pos) (tRev X.K te)) := ⟨pe_rev he.out⟩
theorem wo_none : Hd (PO X none tNoPart) := ⟨po_none⟩
theorem wo_some (h : Hd (PE X e te)) : Hd (PO X (some e) (tPart te)) := ⟨po_some h.out⟩
theorem we_slice {r : V → Option Int → Option Int → Hp → VK → Prop} {lo hi : Option Expr} {tl th : TO} {p2 : Pos} (hr : SlR X r) (he : Hd (PE X e te)) (hl : Hd (PO X lo tl)) (hu : Hd (PO X hi th)) : Hd (PE X (.Subscript e (.Slice lo hi none p2) pos) (tSl r te tl th)) := ⟨pe_slice hr he.out hl.out hu.out⟩
theorem we_ix {r : R2} (hr : IxR X r) (ha : Hd (PE X a ta)) (hb : Hd (PE X b tb)) (hs : PlainIx b) : Hd (PE X (.Subscript a b pos) (tOp r ta tb)) := ⟨pe_ix hr ha.out hb.out hs⟩
theorem wa_nil : Hd (PA X [] tNil) := ⟨pa_nil⟩
theorem wa_cons (ha : Hd (PE X e te)) (hr : Hd (PA X es tA)) (hs : notStar e = true := by rfl) : Hd (PA X (e :: es) (tCons te tA)) := ⟨qa_cons ha.out hr.out hs⟩
theorem wa_consts {vs : List V} (h : constVs es = some vs) : Hd (PA X es (tVs vs)) := ⟨pa_consts h⟩
theorem we_call {CX : CXT} {k : Nat} {f : Addr} {fd : FuncData} {ps : List Str} {sp : Sp} {dvs : List V} {ds : List Value} {E : XK} {x : Str} {p : Pos}
    (F : FnOk X.prog X.w X.K X.mg X.base CX k f fd ps sp) (hr : Room k X.A) (hg : Gl X x) (hm : X.mg x = some (.ref f)) (hk : PySem.W.keepIn X.K (.ref f) = true) (hb : Binds X.K fd ps ds) (hd : Vals dvs ds) (hx : Passes CX X E)
    (ha : Hd (PA X (e :: es) tA)) (hs : noStars (e :: es) = true := by rfl) (hdb : (x == ("__debug__" : Str)) = false := by decide) : Hd (PE X (.Call (.Name x p) (e :: es) [] pos) (tCall sp dvs E tA)) := ⟨qe_call F hr hg hm hk hb hd hx ha.out hs hdb⟩
theorem we_callV {CX : CXT} {k i : Nat} {f : Addr} {fd : FuncData} {ps : List Str} {sp : Sp} {dvs : List V} {ds : List Value} {E : XK} {x : Str} {p : Pos}
    (F : FnOk X.prog X.w X.K X.mg X.base CX k f fd ps sp) (hr : Room k X.A) (hN : X.N[i]? = some x) (hv : Vis X.env.scope x) (hk : PySem.W.keepIn X.K (.ref f) = true) (hb : Binds X.K fd ps ds) (hd : Vals dvs ds) (hx : Passes CX X E)
    (ha : Hd (PA X (e :: es) tA)) (hs : noStars (e :: es) = true := by rfl) (hdb : (x == ("__debug__" : Str)) = false := by decide) (hcd : (x == ("__classdict__" : Str)) = false := by decide) :
    Hd (PE X (.Call (.Name x p) (e :: es) [] pos) (fun σ H Q => σ[i]? = some (some (.ref f)) ∧ tCall sp dvs E tA σ H Q)) := ⟨qe_callV F hr hN hv hk hb hd hx ha.out hs hdb hcd⟩
theorem we_callB {x : Str} {p : Pos} {id : String} {r : List V → Hp → VK → Prop} (hc : CallR X (.builtin id) r) (hg : Gl X x) (hm : X.mg x = none) (hv : bootBuiltins x = some (.builtin id)) (ha : Hd (PA X (e :: es) tA))
    (hs : noStars (e :: es) = true := by rfl) (hn : x ≠ "__name__" := by decide) (hdb : (x == ("__debug__" : Str)) = false := by decide) : Hd (PE X (.Call (.Name x p) (e :: es) [] pos) (tCB r tA)) := ⟨qe_callB hc hg hm hv ha.out hs hn hdb⟩
theorem we_callTy {x : Str} {p : Pos} {T : String} {r : List V → Hp → VK → Prop} (hc : CallR X (.type T) r) (hg : Gl X x) (hm : X.mg x = none) (hv : bootBuiltins x = some (.type T)) (ha : Hd (PA X (e :: es) tA))
    (hs : noStars (e :: es) = true := by rfl) (hn : x ≠ "__name__" := by decide) (hdb : (x == ("__debug__" : Str)) = false := by decide) : Hd (PE X (.Call (.Name x p) (e :: es) [] pos) (tCB r tA)) := ⟨qe_callTy hc hg hm hv ha.out hs hn hdb⟩
theorem we_bm0 {name : Str} {apos cpos : Pos} {T id : String} {r : V → List V → Hp → VK → Prop} (pa : PlainAttrs T) (slot : Slot T name id) (hty : typeOf (.builtin id) = pure (.type "method_descriptor")) (hm : MtR X id r) (ho : Hd (PE X o to))
    (hbase : attributeBase o name X.env (eval o X.env) = eval o X.env := by rfl) (hline : (apos.endLine == cpos.line) = true := by rfl) : Hd (PE X (.Call (.Attribute o name apos) [] [] cpos) (tBM0 X.K T r to)) := ⟨pe_bm0 pa slot hty hm ho.out hbase hline⟩
theorem few_of {env : Env} {cpos : Pos} {es : List Expr} (h : noStars es = true) (hl : es.length < 29) :
    ((backTo cpos (starEach es env)).all (fun x => !x.1) && (backToKw cpos (keywordEach [] env)).all (fun x => x.1.isSome)
      && decide (es.length + ([] : List Keyword).length + (if ([] : List Keyword).isEmpty then 0 else 1) < 30)) = true := by
  have h1 : (backTo cpos (starEach es env)).all (fun x => !x.1) = true := by
    have := stars_any (env := env) (pos := cpos) h
    rw [List.all_eq_not_any_not]
    simpa using this
  have h2 : (backToKw cpos (keywordEach [] env)).all (fun x => x.1.isSome) = true := rfl
  rw [h1, h2]
  simp
  omega
theorem we_bm {name : Str} {apos cpos : Pos} {T id : String} {r : V → List V → Hp → VK → Prop} (pa : PlainAttrs T) (slot : Slot T name id) (hty : typeOf (.builtin id) = pure (.type "method_descriptor")) (hm : MtR X id r) (ho : Hd (PE X o to)) (ha : Hd (PA X (e :: es) tA))
    (hbase : attributeBase o name X.env (eval o X.env) = eval o X.env := by rfl) (hs : noStars (e :: es) = true := by rfl) (hl : (e :: es).length < 29 := by decide) (hline : (apos.endLine == cpos.line) = true := by rfl) :
    Hd (PE X (.Call (.Attribute o name apos) (e :: es) [] cpos) (tBM X.K T r to tA)) := by
  have h' : (notStar e && noStars es) = true := hs
  rw [Bool.and_eq_true] at h'
  exact ⟨pe_bm pa slot hty hm ho.out ha.out hbase (few_of hs hl) hline (star_cons h'.1) (stars_any h'.2)⟩
theorem wt_cmpR {op : CmpOp} {r : R2} (ho : OpR X (compareOp op) r) (ha : Hd (PE X a ta)) (hb : Hd (PE X b tb)) (hm : behindInMarks op b = false) : Hd (PT X (.Compare a [op] [b] pos) (tTest (tOp r ta tb))) := ⟨pt_cmpR ho ha.out hb.out hm⟩
theorem ww_or1 (ha : Hd (PT X a tt)) : Hd (PW X (.BoolOp .Or [a] pos) tt) := ⟨pw_or1 ha.out⟩
theorem ww_or {more : List Expr} (ha : Hd (PT X a tt)) (hb : Hd (PW X (.BoolOp .Or (b :: more) pos) tu)) : Hd (PW X (.BoolOp .Or (a :: b :: more) pos) (tOr tt tu)) := ⟨pw_or ha.out hb.out⟩
theorem wt_pw (h : Hd (PW X e tt)) : Hd (PT X e tt) := ⟨h.out.pt⟩
theorem wt_not (ha : Hd (PT X a tt)) : Hd (PT X (.UnaryOp .Not a pos) (tNot tt)) := ⟨pt_not ha.out⟩
theorem wt_val (h : Hd (PE X e te)) (he : ∀ whole, isTrue e X.env whole = (do let v ← whole; standAt e.pos; holding [v] (truthy v)) := by intro _; rfl) : Hd (PT X e (tB te)) := ⟨pt_val h.out he⟩
theorem wt_truth (ha : Hd (PE X a ta)) (he : ∀ whole, isTrue a X.env whole = (do let v ← whole; standAt a.pos; holding [v] (truthy v))) : Hd (PT X a (fun σ H Q => ta σ H fun x H' => ∃ k, TruV X.K x H' k ∧ Q k H')) := ⟨pt_truth ha.out he⟩
variable {tg iter : Expr} {wi : TI} {g : TG}
theorem wi_range1 {p : Pos} (hg : Gl X "range") (hm : X.mg "range" = none) (ha : Hd (PA X [a] tA)) (hs : notStar a = true := by rfl) : Hd (PI X tg (.Call (.Name "range" p) [a] [] pos) (iRng1 tA)) := ⟨qi_range1 hg hm ha.out hs⟩
theorem wi_U (hl : Hd (PE X e te)) : Hd (PI X tg e (fun σ H R => iList X.K te σ H R ∨ iTup X.K te σ H R)) := ⟨pi_U hl.out⟩
theorem wg_name {i : Nat} {x : Str} (hN : X.N.Nodup) (hi : X.N[i]? = some x) (hx : Loc X.env.scope x) (hf : X.fn x = true ∨ X.env.scope.names.lookup x = some .local := by first | exact .inl rfl | exact .inr rfl | assumption) : Hd (PG X (.Name x pos) (gName i)) := ⟨pg_name hN hi hx hf⟩
theorem wgs_nil : Hd (PGs X [] gNil) := ⟨pgs_nil⟩
theorem wgs_cons {gs : TGs} (h1 : Hd (PG X e g)) (h2 : Hd (PGs X es gs)) (hs : (assignEach (e :: es) X.env).map (·.2) = assign e X.env :: (assignEach es X.env).map (·.2) := by rfl) : Hd (PGs X (e :: es) (gCons g gs)) := ⟨pgs_cons h1.out h2.out hs⟩
theorem wg_tup {k n : Nat} {gs : TGs} (hc : X.calm = true) (h : Hd (PGs X es gs)) (hn : (assignEach es X.env).length = n := by rfl) (hst : (assignEach es X.env).findIdx? (·.1) = none := by rfl) : Hd (PG X (.Tuple es k pos) (gTup X.K n gs)) := ⟨pg_tup hc h.out hn hst⟩
theorem wg_sub {i : Expr} {ti : TE} {ts : TSet} (ho : Hd (PE X o to)) (hi : Hd (PE X i ti)) (hs : PSet X ts)
    (ha : ∀ v, assign (.Subscript o i pos) X.env v = (do
      let ov ← holding [v] (eval o X.env)
      let iv ← holding [v, ov] (eval i X.env)
      standAt pos
      holding [v, ov, iv] (setItem ov iv v)
      release [v, ov, iv] []) := by intro _; rfl) : Hd (PG X (.Subscript o i pos) (gSub to ti ts)) := ⟨pg_sub ho.out hi.out hs ha⟩
theorem wss_nil : Hd (PSs X [] tNext) := ⟨pss_nil⟩
theorem wss_one (h1 : Hd (PS X st t)) : Hd (PSs X [st] t) := ⟨pss_one h1.out⟩
theorem wss_cons (h1 : Hd (PS X st t)) (h2 : Hd (PSs X rest u)) : Hd (PSs X (st :: rest) (tSeq t u)) := ⟨pss_cons h1.out h2.out⟩
theorem ws_ret (he : Hd (PE X e te)) : Hd (PS X (.Return (some e) pos) (tRet te)) := ⟨ps_ret he.out⟩
theorem ws_if {sa sb : List Stmt} (hc : Hd (PT X c tt)) (ha : Hd (PSs X sa t)) (hb : Hd (PSs X sb u)) : Hd (PS X (.If c sa sb pos) (tIfS tt t u)) := ⟨ps_if hc.out ha.out hb.out⟩
theorem ws_expr (he : Hd (PE X e te)) (hs : swapsWith e none pos.line X.env = pure false := by rfl) : Hd (PS X (.Expr e pos) (tDrop te)) := ⟨ps_expr he.out hs⟩
theorem ws_set {i : Nat} {x : Str} {pos' : Pos} (hN : X.N.Nodup) (hi : X.N[i]? = some x) (hx : Loc X.env.scope x) (he : Hd (PE X e te)) (hs : swapsWith e (some (.Name x pos')) pos.line X.env = pure false := by rfl) (hf : X.fn x = true ∨ X.env.scope.names.lookup x = some .local := by first | exact .inl rfl | exact .inr rfl | assumption) :
    Hd (PS X (.Assign [.Name x pos'] e pos) (tAsg te (gName i))) := ⟨ps_set hN hi hx he.out hs hf⟩
theorem ws_asg (he : Hd (PE X e te)) (hg : Hd (PG X tg g)) (hs : swapsWithSole [tg] e pos.line X.env = pure false := by rfl) (hw : swappedStores [tg] e X.env = pure none := by rfl) (h1 : (assignEach [tg] X.env).map (·.2) = [assign tg X.env] := by rfl) :
    Hd (PS X (.Assign [tg] e pos) (tAsg te g)) := ⟨ps_asg he.out hg.out hs hw h1⟩
theorem ws_for {body : List Stmt} (hp : PassesOwn (model X.prog X.w) X.A X.env X.xe) (hc : X.calm = true) (hi : Hd (PI X tg iter wi)) (hg : Hd (PG X tg g)) (hb : Hd (PSs X body t)) (hs : ∀ x, foldedSetIterable iter X.env x = pure x := by intro _; rfl) : Hd (PS X (.For tg iter body [] pos) (tFor wi g t)) := ⟨ps_for hp hc hi.out hg.out hb.out hs⟩
theorem ws_while {body : List Stmt} (hp : PassesOwn (model X.prog X.w) X.A X.env X.xe) (hc : Hd (PT X c tt)) (hb : Hd (PSs X body t)) : Hd (PS X (.While c body [] pos) (tWhile tt t)) := ⟨ps_while hp hc.out hb.out⟩
variable {ifs : List Expr} {scope : Scope} {Nt : List Str} {fr : List (Str × Nat)} {gz : ZC → TG} {tz : ZC → TT} {ez : ZC → TE}
theorem wif_nil : Hd (PIfs X [] tAll) := ⟨pif_nil⟩
theorem wif_one (h : Hd (PT X c tt)) : Hd (PIfs X [c] tt) := ⟨pif_one h.out⟩
theorem we_lc (L : LcOk X scope Nt fr) (hcalm : X.calm = true) (hi : Hd (PI X tg iter wi)) (hg : ∀ z, Hd (PG (cxC X scope (Nt ++ fr.map (·.1)) z) tg (gz z))) (hgt : ∀ z, Tgt Nt.length (gz z))
    (hc : ∀ z, Hd (PIfs (cxC X scope (Nt ++ fr.map (·.1)) z) ifs (tz z))) (he : ∀ z, Hd (PE (cxC X scope (Nt ++ fr.map (·.1)) z) e (ez z))) (hs : ∀ x, foldedSetIterable iter X.env x = pure x := by intro _; rfl) :
    Hd (PE X (.ListComp e [⟨tg, iter, ifs, 0⟩] scope pos) (tLC wi Nt.length fr gz tz ez)) := ⟨pe_lc L hcalm hi.out (fun z => (hg z).out) hgt (fun z => (hc z).out) (fun z => (he z).out) hs⟩
end
section
variable {P : Program} {w : World} {K : PySem.W.Frag} {mg : Str → Option Value} {base : Heap}
/-- THE RULE for a def, covered -/
theorem Fun.okH {x qual : Str} {st : Stmt} {f : Addr} {fd : FuncData} {N ps : List Str} {k : Nat} {sp : Sp} (F : Fun K x qual st f fd) (S : FnScope N ps (defScope st)) (len : ∀ vs H Q E, sp vs H Q E → vs.length = ps.length)
    (hbody : ∀ (cdv : Value) (A : Around) (outer : List Env) (s : Shared) (H : Hp) (vs : List V) (Q : VK) (E : XK), Room k (A.deeper (envOfC qual (defScope st) s.heap.objs.size f cdv)) → sp vs H Q E →
      ∃ t, Hd (PSs (cxOf CX0 P w K mg base N qual (defScope st) f cdv A outer s H E).nox (defBody st) t) ∧ t { nx := fun _ H' => Q .non H', rt := Q } (start N vs) H) : FnOk P w K mg base CX0 (k + 1) f fd ps sp :=
  F.ok S len fun cdv A outer s H vs Q E hr h => let ⟨t, h1, h2⟩ := hbody cdv A outer s H vs Q E hr h; ⟨t, h1.out, h2⟩
end
end L2
end
section
set_option linter.all false
namespace Kn
open PySem PySem.W PyProof.Rows
/-! sorting by questions: what comes out is rising, where no two keys are alike -/
def krun {α : Type} (lt : Nat → Nat → Bool) : KasT α → α
  | .ret a => a
  | .ask i j k => krun lt (k (lt i j))
theorem krun_bind {α β : Type} (lt : Nat → Nat → Bool) (f : α → KasT β) : ∀ t : KasT α, krun lt (t.bind f) = krun lt (f (krun lt t))
  | .ret _ => rfl
  | .ask i j k => krun_bind lt f (k (lt i j))
section
variable (r : Nat → Nat)
def qlt (i j : Nat) : Bool := decide (r i < r j)
def kat (p : Array Nat) (i : Nat) : Nat := r (p.getD i 0)
def Srt (p : Array Nat) (m : Nat) : Prop := ∀ i j, i < j → j < m → kat r p i < kat r p j
def Dsc (p : Array Nat) (m : Nat) : Prop := ∀ i j, i < j → j < m → kat r p j < kat r p i
def Inj (p : Array Nat) : Prop := ∀ i j, i < p.size → j < p.size → i ≠ j → kat r p i ≠ kat r p j
variable {r}
theorem kat_eq {p q : Array Nat} {i j : Nat} (h : p[i]? = q[j]?) : kat r p i = kat r q j := by
  unfold kat
  rw [Array.getD_eq_getD_getElem?, Array.getD_eq_getD_getElem?, h]
theorem Srt.up {p : Array Nat} {n : Nat} (h1 : 1 ≤ n) (h : Srt r p n) (hn : kat r p (n - 1) < kat r p n) : Srt r p (n + 1) := fun i j hij hj => by
  by_cases e : j = n
  · subst e
    by_cases e2 : i = j - 1
    · rw [e2]; exact hn
    · exact Nat.lt_trans (h i (j - 1) (by omega) (by omega)) hn
  · exact h i j hij (by omega)
theorem Dsc.up {p : Array Nat} {n : Nat} (h1 : 1 ≤ n) (h : Dsc r p n) (hn : kat r p n < kat r p (n - 1)) : Dsc r p (n + 1) := fun i j hij hj => by
  by_cases e : j = n
  · subst e
    by_cases e2 : i = j - 1
    · rw [e2]; exact hn
    · exact Nat.lt_trans hn (h i (j - 1) (by omega) (by omega))
  · exact h i j hij (by omega)
theorem asc_run {p : Array Nat} (hI : Inj r p) : ∀ (f n : Nat), 1 ≤ n → n + f ≤ p.size → Srt r p n →
    ∃ m, krun (qlt r) (kas_asc p f n) = m ∧ n ≤ m ∧ m ≤ n + f ∧ Srt r p m ∧ (m < n + f → kat r p m < kat r p (m - 1))
  | 0, n, _, _, h => ⟨n, rfl, Nat.le_refl _, Nat.le_refl _, h, fun z => absurd z (Nat.lt_irrefl _)⟩
  | f + 1, n, h1, hz, h => by
    rw [kas_asc, krun]
    by_cases c : kat r p n < kat r p (n - 1)
    · have e : qlt r (p.getD n 0) (p.getD (n - 1) 0) = true := decide_eq_true c
      rw [e, if_pos rfl]
      exact ⟨n, rfl, Nat.le_refl _, by omega, h, fun _ => c⟩
    · have e : qlt r (p.getD n 0) (p.getD (n - 1) 0) = false := decide_eq_false c
      rw [e, if_neg (by decide)]
      have lt : kat r p (n - 1) < kat r p n := by
        have := hI (n - 1) n (by omega) (by omega) (by omega)
        omega
      obtain ⟨m, e1, e2, e3, e4, e5⟩ := asc_run hI f (n + 1) (by omega) (by omega) (h.up h1 lt)
      exact ⟨m, e1, by omega, by omega, e4, fun z => e5 (by omega)⟩
theorem desc_run {p : Array Nat} (hI : Inj r p) : ∀ (f n : Nat), 1 ≤ n → n + f ≤ p.size → Dsc r p n →
    ∃ m, krun (qlt r) (kas_desc f p n 0) = (p, m, 0) ∧ n ≤ m ∧ m ≤ n + f ∧ Dsc r p m
  | 0, n, _, _, h => ⟨n, rfl, Nat.le_refl _, Nat.le_refl _, h⟩
  | f + 1, n, h1, hz, h => by
    rw [kas_desc, krun]
    by_cases c : kat r p n < kat r p (n - 1)
    · have e : qlt r (p.getD n 0) (p.getD (n - 1) 0) = true := decide_eq_true c
      rw [e, if_pos rfl, if_neg (by decide)]
      obtain ⟨m, e1, e2, e3, e4⟩ := desc_run hI f (n + 1) (by omega) (by omega) (h.up h1 c)
      exact ⟨m, e1, by omega, by omega, e4⟩
    · have e : qlt r (p.getD n 0) (p.getD (n - 1) 0) = false := decide_eq_false c
      rw [e, if_neg (by decide), krun]
      have lt : kat r p (n - 1) < kat r p n := by
        have := hI (n - 1) n (by omega) (by omega) (by omega)
        omega
      have e' : qlt r (p.getD (n - 1) 0) (p.getD n 0) = true := decide_eq_true lt
      rw [e', if_pos rfl]
      exact ⟨n, rfl, Nat.le_refl _, by omega, h⟩
theorem kat_rev {p : Array Nat} {m : Nat} (hm : m ≤ p.size) (k : Nat) : kat r (kas_rev p 0 m) k = if k < m then kat r p (m - 1 - k) else kat r p k := by
  have e := getElem?_mirror_all (xs := p) (i := 0) hm k
  unfold kas_rev
  split
  · rename_i h
    rw [if_pos ⟨Nat.zero_le _, h⟩] at e
    rw [kat_eq e]
    congr 1
    omega
  · rename_i h
    rw [if_neg (by omega)] at e
    exact kat_eq e
theorem rev_perm (p : Array Nat) (m : Nat) : (kas_rev p 0 m).Perm p := mirror_perm _ _ _ _
theorem rev_size (p : Array Nat) (m : Nat) : (kas_rev p 0 m).size = p.size := mirror_size _ _ _ _
theorem inj_rev {p : Array Nat} (hI : Inj r p) {m : Nat} (hm : m ≤ p.size) : Inj r (kas_rev p 0 m) := fun i j hi hj ne => by
  rw [rev_size] at hi hj
  rw [kat_rev hm, kat_rev hm]
  split <;> split
  · exact hI _ _ (by omega) (by omega) (by omega)
  · exact hI _ _ (by omega) (by omega) (by omega)
  · exact hI _ _ (by omega) (by omega) (by omega)
  · exact hI _ _ (by omega) (by omega) ne
theorem srt_rev {p : Array Nat} {m : Nat} (hm : m ≤ p.size) (h : Dsc r p m) : Srt r (kas_rev p 0 m) m := fun i j hij hj => by
  rw [kat_rev hm, kat_rev hm, if_pos (by omega), if_pos hj]
  exact h (m - 1 - j) (m - 1 - i) (by omega) (by omega)
theorem tail_run {p : Array Nat} (hI : Inj r p) {n : Nat} (h1 : 1 ≤ n) (hn : n ≤ p.size) (h : Dsc r p n) :
    ∃ m q, krun (qlt r) (kas_tail3 n p.size p) = (m, q) ∧ q.Perm p ∧ Inj r q ∧ 1 ≤ m ∧ m ≤ p.size ∧ Srt r q m := by
  unfold kas_tail3
  rw [krun_bind]
  obtain ⟨m, e1, e2, e3, e4, _⟩ := asc_run (inj_rev hI hn) (p.size - n) n h1 (by rw [rev_size]; omega) (srt_rev hn h)
  rw [e1]
  exact ⟨m, _, rfl, rev_perm _ _, inj_rev hI hn, by omega, by omega, e4⟩
theorem descPart_run {p : Array Nat} (hI : Inj r p) (hz : 2 ≤ p.size) (c : kat r p 1 < kat r p 0) :
    ∃ m q, krun (qlt r) (kas_descPart 1 p.size p) = (m, q) ∧ q.Perm p ∧ Inj r q ∧ 1 ≤ m ∧ m ≤ p.size ∧ Srt r q m := by
  unfold kas_descPart
  rw [krun_bind]
  obtain ⟨m, e1, e2, e3, e4⟩ := desc_run hI (p.size - (1 + 1)) (1 + 1) (by omega) (by omega) (fun i j hij hj => by
    have : i = 0 := by omega
    have : j = 1 := by omega
    subst i j
    exact c)
  rw [e1]
  dsimp only
  rw [if_neg (by decide)]
  exact tail_run hI (by omega) (by omega) e4
theorem count_run {p : Array Nat} (hI : Inj r p) (hz : 2 ≤ p.size) :
    ∃ m q, krun (qlt r) (kas_count p.size p) = (m, q) ∧ q.Perm p ∧ Inj r q ∧ 1 ≤ m ∧ m ≤ p.size ∧ Srt r q m := by
  unfold kas_count
  rw [krun_bind]
  obtain ⟨m, e1, e2, e3, e4, e5⟩ := asc_run hI (p.size - 1) 1 (by omega) (by omega) (fun i j hij hj => by omega)
  rw [e1]
  by_cases a : (m == p.size) = true
  · rw [if_pos a]
    exact ⟨m, p, rfl, .refl _, hI, by omega, by omega, e4⟩
  rw [if_neg a]
  have a' : m ≠ p.size := by simpa using a
  by_cases b : m > 1
  · rw [if_pos b, krun]
    have e : qlt r (p.getD 0 0) (p.getD (m - 1) 0) = true := decide_eq_true (e4 0 (m - 1) (by omega) (by omega))
    rw [e, if_pos rfl]
    exact ⟨m, p, rfl, .refl _, hI, by omega, by omega, e4⟩
  · rw [if_neg b]
    have em : m = 1 := by omega
    subst em
    exact descPart_run hI hz (e5 (by omega))
theorem place_run {p : Array Nat} (hI : Inj r p) {k : Nat} (hk : k < p.size) (hs : Srt r p k) : ∀ (f l u : Nat), l ≤ u → u ≤ k → u ≤ l + f → (∀ i, i < l → kat r p i < kat r p k) → (∀ i, u ≤ i → i < k → kat r p k < kat r p i) →
    ∃ m, krun (qlt r) (kas_place p k f l u) = m ∧ m ≤ k ∧ (∀ i, i < m → kat r p i < kat r p k) ∧ (∀ i, m ≤ i → i < k → kat r p k < kat r p i)
  | 0, l, u, h1, h2, h3, a, b => by
    have e : l = u := by omega
    subst e
    exact ⟨l, rfl, h2, a, b⟩
  | f + 1, l, u, h1, h2, h3, a, b => by
    rw [kas_place]
    by_cases c : l ≥ u
    · rw [if_pos c]
      have e : l = u := by omega
      subst e
      exact ⟨l, rfl, h2, a, b⟩
    · rw [if_neg c, krun]
      have hm : (l + u) / 2 < k := by omega
      by_cases d : kat r p k < kat r p ((l + u) / 2)
      · have e : qlt r (p.getD k 0) (p.getD ((l + u) / 2) 0) = true := decide_eq_true d
        rw [e, if_pos rfl]
        refine place_run hI hk hs f l ((l + u) / 2) (by omega) (by omega) (by omega) a fun i hi hik => ?_
        by_cases z : i = (l + u) / 2
        · rw [z]; exact d
        · exact Nat.lt_trans d (hs ((l + u) / 2) i (by omega) hik)
      · have e : qlt r (p.getD k 0) (p.getD ((l + u) / 2) 0) = false := decide_eq_false d
        rw [e, if_neg (by decide)]
        have d' : kat r p ((l + u) / 2) < kat r p k := by
          have := hI k ((l + u) / 2) hk (by omega) (by omega)
          omega
        refine place_run hI hk hs f ((l + u) / 2 + 1) u (by omega) h2 (by omega) (fun i hi => ?_) b
        by_cases z : i = (l + u) / 2
        · rw [z]; exact d'
        · exact Nat.lt_trans (hs i ((l + u) / 2) (by omega) hm) d'
theorem kat_bub {p : Array Nat} {k l : Nat} (hk : k < p.size) (hl : l ≤ k) (i : Nat) : kat r (bubble p k (k - l)) i = if i = l then kat r p k else if l < i ∧ i ≤ k then kat r p (i - 1) else kat r p i := by
  have e := getElem?_bubble (xs := p) hk (k - l) (by omega) i
  rw [show k - (k - l) = l by omega] at e
  split
  · rename_i h; rw [if_pos h] at e; exact kat_eq e
  · rename_i h
    rw [if_neg h] at e
    split
    · rename_i h2; rw [if_pos h2] at e; exact kat_eq e
    · rename_i h2; rw [if_neg h2] at e; exact kat_eq e
theorem bin_run : ∀ (f : Nat) (p : Array Nat) (k : Nat), Inj r p → 1 ≤ k → k + f ≤ p.size → Srt r p k → ∃ q, krun (qlt r) (kas_bin f p k) = q ∧ q.Perm p ∧ Srt r q (k + f)
  | 0, p, k, _, _, _, h => ⟨p, rfl, .refl _, h⟩
  | f + 1, p, k, hI, h1, hz, h => by
    rw [kas_bin, krun_bind]
    obtain ⟨l, e1, e2, e3, e4⟩ := place_run hI (k := k) (by omega) h k 0 k (by omega) (Nat.le_refl _) (by omega) (fun i hi => by omega) (fun i hi hk => by omega)
    rw [e1]
    have hb := kat_bub (r := r) (p := p) (k := k) (l := l) (by omega) e2
    have hI' : Inj r (bubble p k (k - l)) := fun i j hi hj ne => by
      rw [bubble_size] at hi hj
      rw [hb, hb]
      repeat' split
      all_goals first
        | (exfalso; omega)
        | exact hI _ _ (by omega) (by omega) (by omega)
    have hs' : Srt r (bubble p k (k - l)) (k + 1) := fun i j hij hj => by
      rw [hb, hb]
      repeat' split
      all_goals first
        | (exfalso; omega)
        | exact e4 _ (by omega) (by omega)
        | exact e3 _ (by omega)
        | exact h _ _ (by omega) (by omega)
    obtain ⟨q, a1, a2, a3⟩ := bin_run f _ (k + 1) hI' (by omega) (by rw [bubble_size]; omega) hs'
    exact ⟨q, a1, a2.trans (bubble_perm _ _ _), by rw [show k + (f + 1) = k + 1 + f by omega]; exact a3⟩
/-- what kas_sort comes to: a rising order of all -/
theorem sort_run {n : Nat} (h2 : 2 ≤ n) (hI : ∀ i j, i < n → j < n → i ≠ j → r i ≠ r j) : ∃ q : Array Nat, krun (qlt r) (kas_sort n) = q ∧ q.Perm (List.range n).toArray ∧ Srt r q n := by
  unfold kas_sort
  rw [krun_bind]
  have hs : (List.range n).toArray.size = n := by simp
  have hK : ∀ i, i < n → kat r (List.range n).toArray i = r i := fun i hi => by
    unfold kat
    rw [Array.getD_eq_getD_getElem?]
    simp [hi]
  have hI' : Inj r (List.range n).toArray := fun i j hi hj ne => by
    rw [hs] at hi hj
    rw [hK i hi, hK j hj]
    exact hI i j hi hj ne
  obtain ⟨m, q, e1, e2, e3, e4, e5, e6⟩ := count_run hI' (by rw [hs]; exact h2)
  rw [hs] at e1 e5
  rw [e1]
  dsimp only
  have qs : q.size = n := by rw [e2.size_eq, hs]
  by_cases c : m < n
  · rw [if_pos c]
    have em : max m 1 = m := by omega
    rw [em]
    obtain ⟨q', a1, a2, a3⟩ := bin_run (n - m) q m e3 e4 (by omega) e6
    exact ⟨q', a1, a2.trans e2, by rw [show m + (n - m) = n by omega] at a3; exact a3⟩
  · rw [if_neg c]
    have : m = n := by omega
    subst this
    exact ⟨q, rfl, e2, e6⟩
end
end Kn
end
section
set_option linter.all false
namespace Kn
open PySem
/-! bags by their counts: what a bag of pairs is, and that there is one alone -/
theorem sLt_total {x y : Str} (h : x ≠ y) : sLt y x = !sLt x y := by
  have ne : x.cps.toList ≠ y.cps.toList := fun e => h (by cases x; cases y; congr 1; exact Array.toList_inj.mp e)
  unfold sLt
  by_cases a : x.cps.toList < y.cps.toList
  · have b : ¬ y.cps.toList < x.cps.toList := fun b => List.lt_irrefl _ (List.lt_trans a b)
    simp [a, b]
  · have b : y.cps.toList < x.cps.toList := Classical.byContradiction fun b => ne (List.le_antisymm (List.not_lt.mp b) (List.not_lt.mp a))
    simp [a, b]
theorem cmpK_anti : ∀ {a b : List KE} {r : Bool}, cmpK a b = some r → a ≠ b → cmpK b a = some (!r)
  | [], [], _, _, h => absurd rfl h
  | [], _ :: _, _, h, _ => by cases h; rfl
  | _ :: _, [], _, h, _ => by cases h; rfl
  | a :: as, b :: bs, r, h, hne => by
    by_cases e : a = b
    · subst e
      rw [cmpK_same] at h ⊢
      exact cmpK_anti h fun z => hne (by rw [z])
    · rw [cmpK, if_neg e] at h
      rw [cmpK, if_neg (fun z => e z.symm)]
      cases a with
      | i m =>
        cases b with
        | i n =>
          have mn : m ≠ n := fun z => e (by rw [z])
          cases h
          show some (decide (n < m)) = _
          by_cases c : m < n
          · simp [c]; omega
          · simp [c]; omega
        | s y => cases h
      | s x =>
        cases b with
        | i n => cases h
        | s y =>
          cases h
          show some (sLt y x) = _
          rw [sLt_total fun z => e (by rw [z])]
theorem key_inj {x y : Val} (h : key x = key y) : x = y := by
  by_cases e : x = y
  · exact e
  · exfalso
    have same : ∀ (l r s : List KE), cmpK (l ++ r) (l ++ s) = cmpK r s := fun l r s => by
      induction l with
      | nil => rfl
      | cons a l ih => rw [List.cons_append, List.cons_append, cmpK_same, ih]
    have h1 := cmp_key x y [.i 0] [.i 1]
    have h2 := cmp_key x y [.i 1] [.i 0]
    rw [if_neg e, h, same, cmpK_int (by decide)] at h1
    rw [if_neg e, h, same, cmpK_int (by decide)] at h2
    rw [← h1] at h2
    exact absurd h2 (by decide)
theorem ahead_total {x y : Val} (h : x ≠ y) : aheadB y x = !aheadB x y := by
  have := cmpK_anti (cmp_keys x y) fun e => h (key_inj e)
  rw [cmp_keys] at this
  exact Option.some.inj this
theorem ahead_irrefl (x : Val) : aheadB x x = false := by unfold aheadB; rw [if_pos rfl]
/-- how often v stands in the pairs -/
noncomputable def cnt (v : Val) : List (Val × Int) → Int
  | [] => 0
  | p :: ps => (if p.1 = v then p.2 else 0) + cnt v ps
theorem cnt_append (v : Val) (a b : List (Val × Int)) : cnt v (a ++ b) = cnt v a + cnt v b := by
  induction a with
  | nil => simp [cnt]
  | cons p a ih => rw [List.cons_append, cnt, cnt, ih]; omega
theorem cnt_none {v : Val} {a : List (Val × Int)} (h : ∀ p ∈ a, p.1 ≠ v) : cnt v a = 0 := by
  induction a with
  | nil => rfl
  | cons p a ih => rw [cnt, if_neg (h p List.mem_cons_self), ih fun q hq => h q (List.mem_cons_of_mem _ hq)]; rfl
/-- rising, each value once -/
def Rise (ps : List (Val × Int)) : Prop := ps.Pairwise fun p q => aheadB p.1 q.1 = true
/-- the bag of the pairs xs -/
def IsBag (xs qs : List (Val × Int)) : Prop := Rise qs ∧ (∀ q ∈ qs, q.2 ≠ 0) ∧ ∀ v, cnt v qs = cnt v xs
theorem Rise.cnt {ps : List (Val × Int)} (h : Rise ps) : ∀ {p}, p ∈ ps → Kn.cnt p.1 ps = p.2 := by
  induction ps with
  | nil => intro p hp; cases hp
  | cons q ps ih =>
    intro p hp
    have h' := List.pairwise_cons.mp h
    rw [Kn.cnt]
    rcases List.mem_cons.mp hp with e | hm
    · subst e
      rw [if_pos rfl, cnt_none fun r hr e => ?_]
      · omega
      · have := h'.1 r hr
        rw [e, ahead_irrefl] at this
        cases this
    · have := h'.1 p hm
      rw [if_neg (fun e => by rw [e, ahead_irrefl] at this; cases this), ih h'.2 hm]
      omega
/-! putting a value at its place -/
/-- how many of the values are ahead of v -/
noncomputable def nAhead (v : Val) (ys : List Val) : Nat := (ys.filter fun y => aheadB y v).length
def RiseV (ys : List Val) : Prop := ys.Pairwise fun p q => aheadB p q = true
end Kn
end
section
set_option linter.all false
namespace Kn
open PySem PySem.W PyProof.Rows
/-! all that kas_sort asks of is there; what it comes to for keys of values -/
def Asks {α : Type} (n : Nat) (R : α → Prop) : KasT α → Prop
  | .ret a => R a
  | .ask i j k => i < n ∧ j < n ∧ ∀ b, Asks n R (k b)
theorem Asks.bind {α β : Type} {n : Nat} {R : α → Prop} {S : β → Prop} {f : α → KasT β} (hf : ∀ a, R a → Asks n S (f a)) : ∀ {t : KasT α}, Asks n R t → Asks n S (t.bind f)
  | .ret a, h => hf a h
  | .ask _ _ k, h => ⟨h.1, h.2.1, fun b => Asks.bind hf (h.2.2 b)⟩
theorem wp_of_run {α : Type} {n : Nat} {R : α → Prop} {lt : Nat → Nat → Bool} {cmp : Nat → Nat → (Bool → Shared → Prop) → Shared → Prop} {Q : α → Shared → Prop} {s : Shared}
    (hc : ∀ i j C, i < n → j < n → C (lt i j) s → cmp i j C s) : ∀ {t : KasT α}, Asks n R t → Q (krun lt t) s → t.kasWp cmp Q s
  | .ret _, _, q => q
  | .ask i j k, h, q => hc i j _ h.1 h.2.1 (wp_of_run hc (h.2.2 _) q)
/-- all numbers below n -/
def Gn (n : Nat) (p : Array Nat) : Prop := ∀ x ∈ p.toList, x < n
theorem Gn.get {n : Nat} {p : Array Nat} (h0 : 0 < n) (h : Gn n p) (i : Nat) : p.getD i 0 < n := by
  rw [Array.getD_eq_getD_getElem?]
  cases e : p[i]? with
  | none => exact h0
  | some x => exact h x (Array.mem_toList_iff.mpr (Array.mem_of_getElem? e))
theorem Gn.perm {n : Nat} {p q : Array Nat} (h : Gn n p) (e : q.Perm p) : Gn n q := fun x hx => h x (Array.mem_toList_iff.mpr (e.mem_iff.mp (Array.mem_toList_iff.mp hx)))
section
variable {n : Nat} (h0 : 0 < n)
include h0
theorem asks_asc {p : Array Nat} (g : Gn n p) : ∀ f m, Asks n (fun _ => True) (kas_asc p f m)
  | 0, _ => trivial
  | f + 1, m => by
    rw [kas_asc]
    refine ⟨g.get h0 _, g.get h0 _, fun b => ?_⟩
    dsimp only
    split
    · trivial
    · exact asks_asc g f _
theorem asks_desc : ∀ (f : Nat) (p : Array Nat) (m q : Nat), Gn n p → Asks n (fun r : Array Nat × Nat × Nat => Gn n r.1) (kas_desc f p m q)
  | 0, p, _, _, g => g
  | f + 1, p, m, q, g => by
    rw [kas_desc]
    refine ⟨g.get h0 _, g.get h0 _, fun b => ?_⟩
    dsimp only
    by_cases hb : b = true
    · rw [if_pos hb]
      split
      · exact asks_desc f _ _ _ (g.perm (mirror_perm _ _ _ _))
      · exact asks_desc f _ _ _ g
    · rw [if_neg hb]
      refine ⟨g.get h0 _, g.get h0 _, fun b => ?_⟩
      dsimp only
      split
      · exact g
      · exact asks_desc f _ _ _ g
theorem asks_tail {p : Array Nat} (g : Gn n p) (m k : Nat) : Asks n (fun r : Nat × Array Nat => Gn n r.2) (kas_tail3 m k p) := by
  unfold kas_tail3
  refine Asks.bind (R := fun _ => True) (fun m _ => ?_) (asks_asc h0 (g.perm (mirror_perm _ _ _ _)) _ _)
  exact g.perm (mirror_perm _ _ _ _)
theorem asks_descPart {p : Array Nat} (g : Gn n p) (m k : Nat) : Asks n (fun r : Nat × Array Nat => Gn n r.2) (kas_descPart m k p) := by
  unfold kas_descPart
  refine Asks.bind (fun r hr => ?_) (asks_desc h0 _ p _ _ g)
  split
  · exact asks_tail h0 (Gn.perm hr (mirror_perm _ _ _ _)) _ _
  · exact asks_tail h0 hr _ _
theorem asks_count {p : Array Nat} (g : Gn n p) (k : Nat) : Asks n (fun r : Nat × Array Nat => Gn n r.2) (kas_count k p) := by
  unfold kas_count
  refine Asks.bind (fun m _ => ?_) (asks_asc h0 g _ _)
  split
  · exact g
  split
  · refine ⟨g.get h0 _, g.get h0 _, fun b => ?_⟩
    dsimp only
    split
    · exact g
    · exact asks_descPart h0 (g.perm (mirror_perm _ _ _ _)) _ _
  · exact asks_descPart h0 g _ _
theorem asks_place {p : Array Nat} (g : Gn n p) (k : Nat) : ∀ f l u, Asks n (fun _ => True) (kas_place p k f l u)
  | 0, _, _ => trivial
  | f + 1, l, u => by
    rw [kas_place]
    split
    · trivial
    · refine ⟨g.get h0 _, g.get h0 _, fun b => ?_⟩
      dsimp only
      split
      · exact asks_place g k f _ _
      · exact asks_place g k f _ _
theorem asks_bin : ∀ (f : Nat) (p : Array Nat) (k : Nat), Gn n p → Asks n (fun _ => True) (kas_bin f p k)
  | 0, _, _, _ => trivial
  | f + 1, p, k, g => by
    rw [kas_bin]
    exact Asks.bind (fun l _ => asks_bin f _ _ (g.perm (bubble_perm _ _ _))) (asks_place h0 g _ _ _ _)
theorem asks_sort : Asks n (fun _ => True) (kas_sort n) := by
  unfold kas_sort
  refine Asks.bind (fun r hr => ?_) (asks_count h0 (p := (List.range n).toArray) (fun x hx => by simpa using hx) n)
  split
  · exact asks_bin h0 _ _ _ hr
  · trivial
end
/-! ranks of values -/
theorem filt_lt {α : Type} {P Q : α → Bool} {l : List α} (h : ∀ z, P z = true → Q z = true) {x : α} (hx : x ∈ l) (h1 : Q x = true) (h2 : P x = false) : (l.filter P).length < (l.filter Q).length := by
  have le : ∀ l : List α, (l.filter P).length ≤ (l.filter Q).length := fun l => by
    induction l with
    | nil => exact Nat.le_refl _
    | cons a l ih =>
      rw [List.filter_cons, List.filter_cons]
      by_cases c : P a = true
      · rw [if_pos c, if_pos (h a c)]; simp; exact ih
      · rw [if_neg c]
        split
        · simp; omega
        · exact ih
  induction l with
  | nil => cases hx
  | cons a l ih =>
    rw [List.filter_cons, List.filter_cons]
    rcases List.mem_cons.mp hx with e | m
    · subst e
      rw [if_neg (by rw [h2]; decide), if_pos h1]
      have := le l
      simp
      omega
    · have := ih m
      by_cases c : P a = true
      · rw [if_pos c, if_pos (h a c)]; simp; exact this
      · rw [if_neg c]
        split
        · simp; omega
        · exact this
theorem rank_lt {xs : List Val} {x y : Val} (hx : x ∈ xs) (h : aheadB x y = true) : nAhead x xs < nAhead y xs := filt_lt (fun z hz => ahead_trans hz h) hx h (ahead_irrefl x)
theorem rank_iff {xs : List Val} {x y : Val} (hx : x ∈ xs) (hy : y ∈ xs) : decide (nAhead x xs < nAhead y xs) = aheadB x y := by
  cases e : aheadB x y with
  | true => exact decide_eq_true (rank_lt hx e)
  | false =>
    refine decide_eq_false fun z => ?_
    by_cases c : x = y
    · subst c; omega
    · have h := ahead_total c
      rw [e] at h
      have := rank_lt hy h
      omega
def vAt (xs : List Val) (i : Nat) : Val := xs[i]?.getD (.num 0)
theorem vAt_eq {xs : List Val} {i : Nat} (h : i < xs.length) : vAt xs i = xs[i] := by unfold vAt; rw [List.getElem?_eq_getElem h]; rfl
/-- the values in a rising order: by what kas_sort comes to -/
theorem sort_vals {xs : List Val} (h2 : 2 ≤ xs.length) (nd : xs.Nodup) : ∃ p : Array Nat, krun (fun i j => aheadB (vAt xs i) (vAt xs j)) (kas_sort xs.length) = p ∧ p.Perm (List.range xs.length).toArray ∧ (p.toList.map (vAt xs)).Perm xs ∧ RiseV (p.toList.map (vAt xs)) := by
  have mem : ∀ i, i < xs.length → vAt xs i ∈ xs := fun i hi => by rw [vAt_eq hi]; exact List.getElem_mem hi
  obtain ⟨p, e1, e2, e3⟩ := sort_run (r := fun i => nAhead (vAt xs i) xs) h2 fun i j hi hj ne => by
    have nv : vAt xs i ≠ vAt xs j := by
      rw [vAt_eq hi, vAt_eq hj]
      intro z
      exact ne ((List.getElem_inj nd).mp z)
    have h := ahead_total nv
    cases e : aheadB (vAt xs i) (vAt xs j) with
    | true => have := rank_lt (mem i hi) e; omega
    | false => rw [e] at h; have := rank_lt (mem j hj) h; omega
  have eqr : ∀ i j, i < xs.length → j < xs.length → qlt (fun i => nAhead (vAt xs i) xs) i j = aheadB (vAt xs i) (vAt xs j) := fun i j hi hj => rank_iff (mem i hi) (mem j hj)
  have same : ∀ {α : Type} {R : α → Prop} {t : KasT α}, Asks xs.length R t → krun (qlt (fun i => nAhead (vAt xs i) xs)) t = krun (fun i j => aheadB (vAt xs i) (vAt xs j)) t := fun {α R t} h => by
    induction t with
    | ret a => rfl
    | ask i j k ih => rw [krun, krun, eqr i j h.1 h.2.1]; exact ih _ (h.2.2 _)
  have lp : p.toList.length = xs.length := by rw [Array.length_toList, e2.size_eq]; simp
  have pm : p.toList.Perm (List.range xs.length) := by simpa using Array.perm_iff_toList_perm.mp e2
  refine ⟨p, (same (asks_sort (by omega))).symm.trans e1, e2, ?_, ?_⟩
  · have := pm.map (vAt xs)
    refine this.trans (List.Perm.of_eq ?_)
    refine List.ext_getElem (by simp) fun i h1 h2 => ?_
    simp only [List.getElem_map, List.getElem_range]
    exact vAt_eq h2
  · refine List.pairwise_iff_getElem.mpr fun i j hi hj hij => ?_
    rw [List.length_map] at hi hj
    have := e3 i j hij (by omega)
    unfold kat at this
    rw [Array.getD_eq_getD_getElem?, Array.getD_eq_getD_getElem?] at this
    have gi : p[i]? = some p.toList[i] := by simp [show i < p.size by simpa using hi]
    have gj : p[j]? = some p.toList[j] := by simp [show j < p.size by simpa using hj]
    rw [gi, gj] at this
    rw [List.getElem_map, List.getElem_map]
    have b1 : p.toList[i] < xs.length := by have := pm.mem_iff.mp (List.getElem_mem hi); simpa using this
    have b2 : p.toList[j] < xs.length := by have := pm.mem_iff.mp (List.getElem_mem hj); simpa using this
    rw [← rank_iff (mem _ b1) (mem _ b2)]
    exact decide_eq_true this
end Kn
end
section
set_option Elab.async false
set_option linter.all false
set_option maxRecDepth 100000
set_option maxHeartbeats 4000000
namespace L2
open PySem PySem.Spec PyProof.Rows PySem.W
open Kn (KE cmpK kEl sLt key aheadB RiseV vAt)

/-! ### sorted of a dict whose keys are the keys of values -/
def kk : KE → Key
  | .i n => .inl n
  | .s x => .inr x
theorem kV_kk (e : KE) : kV (kk e) = kv e := by cases e <;> rfl
theorem kk_inj {a b : KE} (h : kk a = kk b) : a = b := by
  cases a <;> cases b <;> first | (injection h with h; rw [h]) | cases h
theorem map_kk (l : List KE) : (l.map kk).map kV = l.map kv := by
  rw [List.map_map]
  exact List.map_congr_left fun e _ => kV_kk e
theorem kdl_raw {prog : Program} {w : World} {d : Addr} {es : Array DictEntry} {ep : Nat} (lo : (d == sysModules) = false) : KdlSrc prog w "dict" d d es.size (fun i v => ∃ e, es[i]? = some e ∧ v = e.key) (fun h => DRaw h d es ep) where
  type := fun _ m => m.type
  there := fun _ m => ⟨m.lt, m.lt⟩
  keep := fun _ _ m k => m.at fun o e => k d (.inl rfl) o e
  notList := by decide
  notTuple := by decide
  hint := fun _ _ _ _ m q => kdl_hint_dict m.type q
  iter := fun _ _ hh m => ⟨_, _, (fun _ _ q => draw_iter lo m q), walks_raw hh _ d (Nat.ne_of_lt m.lt) es ep, ⟨⟨_, Heap.get?_push_size _ rfl, rfl, rfl⟩, m.at fun o e => Heap.get?_push_of_some _ e⟩⟩
section
variable {prog : Program} {w : World} {A : Around} {E : Value → Shared → Prop} {s : Shared}
/-- two keys compared item by item -/
theorem katLex_K {b fin : Bool} {Q : Bool → Shared → Prop} : ∀ (a c : List KE) (us ws : List Value) (i : Nat) (r : Bool), Vals (a.map kv) us → Vals (c.map kv) ws → cmpK a c = some r → fin = decide (a.length < c.length) → Q r s → KatLex prog w A b fin Q (us.zip ws) i s
  | [], [], us, ws, i, r, h1, h2, h, hf, q => by
    cases h1; cases h2; cases h
    subst hf
    exact q
  | [], c :: cs, us, ws, i, r, h1, h2, h, hf, q => by
    cases h1
    cases h
    subst hf
    exact q
  | a :: as, [], us, ws, i, r, h1, h2, h, hf, q => by
    cases h2
    cases h
    rw [List.zip_nil_right]
    subst hf
    exact q
  | a :: as, c :: cs, us, ws, i, r, h1, h2, h, hf, q => by
    rw [List.map_cons] at h1 h2
    cases h1 with
    | @cons _ u _ ur ru rus =>
    cases h2 with
    | @cons _ v _ vr rv rvs =>
    rw [List.zip_cons_cons]
    obtain ⟨e, he, ie⟩ := eqAt_K (A := A) (s := s) ru rv
    refine kat_cons (he _ _ _ _ ?_)
    by_cases ac : a = c
    · subst ac
      rw [Kn.cmpK_same] at h
      rw [ie.mpr rfl]
      refine kat_yes (katLex_K as cs ur vr (i + 1) r rus rvs h (by rw [hf]; simp) q)
    · have e0 : e = false := by cases e with | false => rfl | true => exact absurd (ie.mp rfl) ac
      rw [e0]
      rw [cmpK, if_neg ac] at h
      refine kat_no ?_
      cases hb : (b && i == 0) with
      | false => exact kat_one _ _ (rcLt_K ru rv h _ _ _ _ q)
      | true =>
        cases a with
        | i m =>
          obtain ⟨t, rfl⟩ := ru
          cases c with
          | i n =>
            obtain ⟨t', rfl⟩ := rv
            cases h
            exact oneLt_int q
          | s z => cases h
        | s x =>
          obtain ⟨t, rfl⟩ := ru
          cases c with
          | i n => cases h
          | s z =>
            obtain ⟨t', rfl⟩ := rv
            cases h
            exact oneLt_str q
/-- the i-th of the list is a tuple: the key of the i-th value -/
def KTs (h : Heap) (a : Addr) (vs : List Value) (xs : List Kn.Val) : Prop := vs.length = xs.length ∧ ∀ (i : Nat) (x : Kn.Val), xs[i]? = some x → ∃ (b : Addr) (its : List Value), vs[i]? = some (Value.ref b) ∧ b ≠ a ∧ Vals ((key x).map kv) its ∧ IsTup h b its.toArray
theorem KTs.keep {h h' : Heap} {a : Addr} {vs : List Value} {xs : List Kn.Val} (t : KTs h a vs xs) (k : ∀ b o, b ≠ a → h.get? b = some o → h'.get? b = some o) : KTs h' a vs xs :=
  ⟨t.1, fun i x hx => let ⟨b, its, e1, e2, e3, o, e4, e5⟩ := t.2 i x hx; ⟨b, its, e1, e2, e3, o, k b o e2 e4, e5⟩⟩
theorem KTs.firsts {h : Heap} {a : Addr} : ∀ {vs : List Value} {xs : List Kn.Val}, KTs h a vs xs → ∃ fs, KatTups h vs fs ∧ fs.length = vs.length ∧ ∀ f ∈ fs, ∃ i t, f = Value.int i t
  | [], [], _ => ⟨[], .nil, rfl, fun f hf => (nomatch hf)⟩
  | [], _ :: _, t => by have := t.1; simp at this
  | _ :: _, [], t => by have := t.1; simp at this
  | v :: vs, x :: xs, t => by
    obtain ⟨fs, h1, h2, h3⟩ := KTs.firsts (vs := vs) (xs := xs) ⟨by have := t.1; simpa using this, fun i y hy => t.2 (i + 1) y (by simpa using hy)⟩
    obtain ⟨b, its, e1, e2, e3, o, g1, g2, n, g3⟩ := t.2 0 x rfl
    have ev : v = .ref b := by simpa using e1
    subst ev
    have hk : ∃ m ks, key x = .i m :: ks := by cases x <;> exact ⟨_, _, by rw [key]⟩
    obtain ⟨m, ks, ek⟩ := hk
    rw [ek, List.map_cons] at e3
    cases e3 with
    | @cons _ u _ ur ru _ =>
      obtain ⟨tk, rfl⟩ := ru
      refine ⟨.int m tk :: fs, .cons g1 g2 g3 (by simp) h1, by simp [h2], fun f hf => ?_⟩
      rcases List.mem_cons.mp hf with z | z
      · exact ⟨m, tk, z⟩
      · exact h3 f z
theorem tup_list_sort {a : Addr} {vs : List Value} {xs : List Kn.Val} {n : Nat} {P : Fin → Shared → Prop} (ho : s.heap.get? a = some (seqObj "list" vs.toArray n)) (hT : KTs s.heap a vs xs) (nd : xs.Nodup) (h64 : vs.length < 64)
    (h : ∀ (out : List Value) (ys : List Kn.Val), ys.Perm xs → RiseV ys → out.length = ys.length → (∀ (i : Nat) (y : Kn.Val), ys[i]? = some y → ∃ j : Nat, xs[j]? = some y ∧ out[i]? = vs[j]?) → P (.done (.ret .none)) { s with heap := sortedHeap s.heap a vs out.toArray }) :
    wpAny (model prog w) A (Builtin.«list.sort» ⟨[.ref a], []⟩) P E s := by
  have la : a < s.heap.objs.size := Heap.lt_size ho
  obtain ⟨e1, g1⟩ : ∃ e1, (s.heap.update a (Obj.mapSeq fun _ => (#[] : Array Value))).get? a = some (seqObj "list" #[] e1) := ⟨_, get?_update_seq ho fun _ => #[]⟩
  have g6 : (((s.heap.update a (Obj.mapSeq fun _ => (#[] : Array Value))).push (seqObj "tuple" vs.toArray 0)).push (seqObj "list" #[] 0)).get? a = some (seqObj "list" #[] e1) := Heap.get?_push_of_some _ (Heap.get?_push_of_some _ g1)
  have sb := Heap.SameBut.update s.heap a (Obj.mapSeq fun _ => (#[] : Array Value))
  have t6 : KTs (((s.heap.update a (Obj.mapSeq fun _ => (#[] : Array Value))).push (seqObj "tuple" vs.toArray 0)).push (seqObj "list" #[] 0)) a vs xs := hT.keep fun b o nb e => Heap.get?_push_of_some _ (Heap.get?_push_of_some _ (sb.extBut b o nb e))
  rw [list_sort_plain]
  refine wpAny_bind (listItems_at ho rfl (wpAny_bind (listUpdate_at ho rfl ?_ (by rw [List.size_toArray, sizeLine_eq]; omega) (Nat.zero_le _))))
  refine wpAny_bind (seqEpoch_at g1 rfl (wpAny_bind (wpAny_newTuple ?_ (by show vs.length ≤ _; rw [sizeLine_eq]; omega))))
  refine wpAny_bind (wpAny_newList (wpAny_holding ?_) (Nat.zero_le _))
  show wpAny (model prog w) A _ P E { s with heap := ((s.heap.update a (Obj.mapSeq fun _ => (#[] : Array Value))).push (seqObj "tuple" vs.toArray 0)).push (seqObj "list" #[] 0) }
  dsimp only
  by_cases h2 : vs.toArray.size < 2
  · have h2' : vs.length < 2 := by simpa using h2
    rw [if_pos h2, if_pos h2]
    refine wpAny_bind (wpAny_pure ?_)
    rw [StateT.run_pure]
    refine wpAny_bind (wpAny_pure ?_)
    dsimp only
    have ez : (arrOf (SortSt.mk' general' (vs.toArray.zip vs.toArray) #[] 7 none)).map (·.2) = vs.toArray := by
      show (vs.toArray.zip vs.toArray).map (·.2) = vs.toArray
      apply Array.toList_inj.mp
      rw [Array.toList_map, Array.toList_zip]
      simp only [List.toList_toArray]
      have zz : ∀ l : List Value, (l.zip l).map (·.2) = l := fun l => by induction l with | nil => rfl | cons x l ih => simp [ih]
      exact zz vs
    rw [ez]
    refine wpAny_bind (seqEpoch_at g6 rfl (wpAny_bind (listUpdate_at g6 rfl ?_ (Nat.zero_le _) (by rw [List.size_toArray, sizeLine_eq]; omega))))
    simp only [bne_self_eq_false, Bool.false_eq_true, if_false]
    refine wpAny_pure (h vs xs (.refl _) ?_ hT.1 fun i y hy => ⟨i, hy, rfl⟩)
    have hl := hT.1
    match xs, hl with
    | [], _ => exact .nil
    | [x], _ => exact List.pairwise_singleton _ _
    | x :: y :: r, hl => rw [hl] at h2'; simp at h2'; omega
  · have h2' : 2 ≤ vs.length := by have : ¬ vs.length < 2 := by simpa using h2
                                   omega
    rw [if_neg h2, if_neg h2]
    obtain ⟨fs, f1, f2, f3⟩ := t6.firsts
    refine wpAny_bind (kat_kind (T := .type "int") f1 (by rw [f2]; omega) (fun v hv => by obtain ⟨i, t, rfl⟩ := f3 v hv; exact .now) (by decide) ?_)
    obtain ⟨p, p1, p2, p3, p4⟩ := Kn.sort_vals (xs := xs) (by rw [← hT.1]; exact h2') nd
    have mem : ∀ i, i < xs.length → xs[i]? = some (vAt xs i) := fun i hi => by rw [Kn.vAt_eq hi]; exact List.getElem?_eq_getElem hi
    refine wpAny_bind (wpAny_mono (kat_run (ks := vs) (Q := fun st' s' => arrOf st' = p.map (kas_item (vs.toArray.zip vs.toArray)) ∧ failedOf st' = none ∧ s' = { s with heap := ((s.heap.update a (Obj.mapSeq fun _ => (#[] : Array Value))).push (seqObj "tuple" vs.toArray 0)).push (seqObj "list" #[] 0) })
      (G := fun q s' => q = p ∧ s' = { s with heap := ((s.heap.update a (Obj.mapSeq fun _ => (#[] : Array Value))).push (seqObj "tuple" vs.toArray 0)).push (seqObj "list" #[] 0) }) rfl h2' h64 (fun q st' s' _ a2 a3 ⟨a4, a5⟩ => ⟨a4 ▸ a2, a3, a5⟩) ?ask) ?_ fun _ _ e => e)
    case ask =>
      refine Kn.wp_of_run (n := xs.length) (R := fun _ => True) (lt := fun i j => aheadB (vAt xs i) (vAt xs j)) (fun i j C hi hj q => ?_) (by rw [hT.1]; exact Kn.asks_sort (by rw [← hT.1]; omega)) ⟨by rw [hT.1]; exact p1, rfl⟩
      obtain ⟨bi, ti, a1, a2, a3, oi, a4, a5, ni, a6⟩ := t6.2 i _ (mem i hi)
      obtain ⟨bj, tj, c1, c2, c3, oj, c4, c5, nj, c6⟩ := t6.2 j _ (mem j hj)
      unfold kas_ask
      rw [List.getD_eq_getElem?_getD, List.getD_eq_getElem?_getD, a1, c1]
      refine kat_lt a4 a6 c4 c6 ?_
      have l1 := a3.length
      have l2 := c3.length
      rw [List.length_map] at l1 l2
      exact katLex_K _ _ _ _ 0 _ a3 c3 (Kn.cmp_keys _ _) (by simp [l1, l2]) q
    rintro ⟨⟨⟩, st'⟩ s' ⟨har, hf, rfl⟩
    dsimp only
    have hout := kat_snds rfl har
    rw [hout]
    have lp : p.toList.length = vs.length := by rw [Array.length_toList, p2.size_eq, hT.1]; simp
    refine wpAny_bind (seqEpoch_at g6 rfl (wpAny_bind (listUpdate_at g6 rfl ?_ (Nat.zero_le _) (by rw [List.size_toArray, List.length_map, lp, sizeLine_eq]; omega))))
    rw [hf]
    simp only [bne_self_eq_false, Bool.false_eq_true, if_false]
    refine wpAny_pure (h (p.toList.map fun i => vs.getD i Value.none) (p.toList.map (vAt xs)) p3 p4 (by rw [List.length_map, List.length_map]) fun i y hy => ?_)
    rw [List.getElem?_map] at hy
    cases e : p.toList[i]? with
    | none => rw [e] at hy; cases hy
    | some k =>
      rw [e] at hy
      have ey : vAt xs k = y := by injection hy
      have hk : k < xs.length := by
        have : k ∈ p.toList := List.mem_of_getElem? e
        have := (Array.perm_iff_toList_perm.mp p2).mem_iff.mp this
        simpa using this
      refine ⟨k, by rw [mem k hk, ey], ?_⟩
      rw [List.getElem?_map, e]
      show some (vs.getD k Value.none) = vs[k]?
      have hk' : k < vs.length := by rw [hT.1]; exact hk
      rw [List.getD_eq_getElem?_getD, List.getElem?_eq_getElem hk']
      rfl
end
section
variable {X : Cx}
/-- sorted(d), d keyed by the keys of values -/
def rSortT : List V → Hp → VK → Prop := fun ws H Q => ∃ (a : Addr) (kvs : List (List Key × V)) (xs : List Kn.Val), ws = [.ref a] ∧ H a = some (.dT kvs) ∧ kvs.map (·.1) = xs.map (fun x => (key x).map kk) ∧ xs.Nodup ∧ xs.length < 64 ∧
  ∀ (p : Addr) (bs : List V) (ys : List Kn.Val), H p = none → ys.Perm xs → RiseV ys → bs.length = ys.length → (∀ (i : Nat) (y : Kn.Val), ys[i]? = some y → ∃ b : Addr, bs[i]? = some (V.ref b) ∧ H b = some (.tup ((key y).map kv))) → Q (.ref p) (upd H p (.lst bs))
theorem kt_get {H : Hp} : ∀ {kvs : List (List Key × V)} {ts : List (List Key × Addr × Value)} {i : Nat} {q : List Key × Addr × Value}, KT H kvs ts → ts[i]? = some q → ∃ p, kvs[i]? = some p ∧ p.1 = q.1 ∧ H q.2.1 = some (.tup (p.1.map kV))
  | _, _, _, _, .nil, e => by simp at e
  | _, _, 0, _, .cons r _, e => by simp at e; subst e; exact ⟨_, rfl, r.1, r.2.1⟩
  | _, _, i + 1, q, .cons _ t, e => by
    obtain ⟨p, h1, h2⟩ := kt_get (i := i) (q := q) t (by simpa using e)
    exact ⟨p, by simpa using h1, h2⟩
theorem call_sortT (hc : X.calm = true) : CallR X (.builtin "sorted") rSortT := by
  intro pins s σ H ws us Q I r h
  obtain ⟨a, kvs, xs, rfl, ha, hk, nd, h64, q⟩ := h
  obtain ⟨u, rfl, ru⟩ := r.one
  cases ru
  have hh := I.ok.hd hc
  obtain ⟨z, hd, ts, rel, ob, es, ep, o1, o2, o3, o4, _⟩ := dt_of I.hok ha
  have raw : DRaw s.heap a es ep := ⟨ob, o1, o2, o3⟩
  have lk : kvs.length = xs.length := by have := congrArg List.length hk; simpa using this
  have lt : kvs.length = ts.length := Paired.length rel
  have le : es.size = ts.length := by rw [← Array.length_toList, o4, List.length_map]
  refine Calls.call_function_entry kind_sorted plain_sorted entry_sorted (args_sorted1 _) ?_
  unfold Builtin.«sorted»
  refine wpAny_bind (m := checkCount "sorted" 1 1 _) (wpAny_pure ?_)
  refine wpAny_bind (kdu_collect (A := X.A.in1) (kdl_raw hd) hh raw (by rw [le, ← lt]; exact z) fun h' tk acc keep items => ?_)
  have hl : acc.toList.length = es.size := by rw [Array.length_toList]; exact items.1
  refine wpAny_bind (wpAny_newList ?_ (by rw [hl, le, ← lt]; exact z))
  have I1 : Inv X pins σ H { s with heap := h', toks := tk } := I.kept keep
  have hoL : (h'.push { cls := .type "list", data := .seq acc.toList.toArray }).get? h'.objs.size = some (seqObj "list" acc.toList.toArray 0) := Heap.get?_push_size _ rfl
  -- the collected keys
  have ref : ∀ (i : Nat) (x : Kn.Val), xs[i]? = some x → ∃ b : Addr, acc.toList[i]? = some (Value.ref b) ∧ H b = some (.tup ((key x).map kv)) := fun i x hx => by
    have hi : i < xs.length := (List.getElem?_eq_some_iff.mp hx).1
    have hi2 : i < acc.toList.length := by rw [hl, le, ← lt, lk]; exact hi
    obtain ⟨e, he, hv⟩ := items.2 i acc.toList[i] (by rw [← Array.getElem?_toList, List.getElem?_eq_getElem hi2])
    have he' : ts[i]?.map (entryOfKey (tupleKind (mixKind X.prog X.w))) = some e := by rw [← he, ← Array.getElem?_toList, o4, List.getElem?_map]
    obtain ⟨t, ht, et⟩ := Option.map_eq_some_iff.mp he'
    obtain ⟨p, hp, ep', hH⟩ := kt_get rel ht
    have kx : p.1 = (key x).map kk := by
      have := congrArg (fun l => l[i]?) hk
      simp only [List.getElem?_map, hp, hx, Option.map_some] at this
      injection this
    refine ⟨t.2.1, by rw [List.getElem?_eq_getElem hi2, hv, ← et]; rfl, ?_⟩
    rw [← map_kk, ← kx]; exact hH
  have hT : KTs (h'.push { cls := .type "list", data := .seq acc.toList.toArray }) h'.objs.size acc.toList xs := by
    refine ⟨by rw [hl, le, ← lt, lk], fun i x hx => ?_⟩
    obtain ⟨b, h1, h2⟩ := ref i x hx
    obtain ⟨_, its, r1, o, r2, r3⟩ := (show ObjOk X.prog X.w H h' b (.tup ((key x).map kv)) from I1.hok b _ h2)
    exact ⟨b, its, h1, Nat.ne_of_lt (Heap.lt_size r2), r1, o, Heap.get?_push_of_some _ r2, r3⟩
  refine wpAny_bind (wpAny_holding (wpAny_call_entry slot_list_sort ⟨_, hoL, rfl⟩ entry_list_sort (tup_list_sort hoL hT nd (by rw [hT.1]; exact h64) fun out ys b1 b2 b3 b4 => ⟨_, rfl, ?_⟩) (args_list_sort _)))
  refine wpAny_pure ⟨_, rfl, ?_⟩
  obtain ⟨e, hat⟩ := sortedHeap_at (out := out.toArray) hoL
  -- what comes out, as values
  have hbs : ∃ bs : List V, Vals bs out ∧ ∀ (i : Nat) (y : Kn.Val), ys[i]? = some y → ∃ b : Addr, bs[i]? = some (V.ref b) ∧ H b = some (.tup ((key y).map kv)) := by
    have key' : ∀ (k : Nat), k ≤ out.length → ∃ bs : List V, Vals bs (out.take k) ∧ ∀ (i : Nat) (y : Kn.Val), i < k → ys[i]? = some y → ∃ b : Addr, bs[i]? = some (V.ref b) ∧ H b = some (.tup ((key y).map kv)) := by
      intro k
      induction k with
      | zero => intro _; exact ⟨[], .nil, fun i y hi => by omega⟩
      | succ k ih =>
        intro hk'
        obtain ⟨bs, r1, r2⟩ := ih (by omega)
        have hy : ys[k]? = some ys[k] := List.getElem?_eq_getElem (by omega)
        obtain ⟨j, j1, j2⟩ := b4 k _ hy
        obtain ⟨b, c1, c2⟩ := ref j _ j1
        have ho : out[k]? = some (.ref b) := by rw [j2, c1]
        have lb : bs.length = k := by have := r1.length; rw [List.length_take] at this; omega
        refine ⟨bs ++ [.ref b], by rw [List.take_add_one, ho]; exact r1.append (.cons rfl .nil), fun i y hi hy' => ?_⟩
        by_cases e : i = k
        · subst e
          rw [hy] at hy'
          cases hy'
          exact ⟨b, by rw [List.getElem?_append_right (by omega), lb]; simp, c2⟩
        · obtain ⟨b', d1, d2⟩ := r2 i y (by omega) hy'
          exact ⟨b', by rw [List.getElem?_append_left (by omega)]; exact d1, d2⟩
    obtain ⟨bs, r1, r2⟩ := key' out.length (Nat.le_refl _)
    rw [List.take_length] at r1
    exact ⟨bs, r1, fun i y hy => r2 i y (by have := (List.getElem?_eq_some_iff.mp hy).1; omega) hy⟩
  obtain ⟨bs, v1, v2⟩ := hbs
  have lb : bs.length = ys.length := by rw [v1.length, b3]
  have hz : bs.length ≤ sizeLine := by rw [lb, b1.length_eq, ← lk]; exact z
  refine ⟨.ref h'.objs.size, upd H h'.objs.size (.lst bs), ?_, rfl, q _ bs ys (I1.hok.fresh (Nat.le_refl _)) b1 b2 lb v2⟩
  refine I1.laid (t' := tk) (fun b o hb => ?_) (Nat.le_refl _) ⟨hz, out, e, v1, ?_⟩
  · have hlt : b < h'.objs.size := Heap.lt_size hb
    rw [sortedHeap_old (Nat.ne_of_lt hlt) (by rw [Heap.size_push]; exact Nat.lt_succ_of_lt hlt)]
    exact Heap.get?_push_of_some _ hb
  · rw [hat]
end
end L2
end
section
set_option Elab.async false
set_option linter.all false
set_option maxRecDepth 100000
set_option maxHeartbeats 4000000
namespace L2
open PySem PySem.Spec PyProof.Rows
section
variable {X : Cx}
/-! ### isinstance once more -/
def isiW (x : V) (T : String) (b : Bool) : Prop :=
  (T = "int" ∧ (∃ i, x = .int i) ∧ b = true) ∨ (T = "bool" ∧ (∃ i, x = .int i) ∧ b = false) ∨ (T = "str" ∧ ((∃ i, x = .int i) ∧ b = false ∨ (∃ z, x = .str z) ∧ b = true))
theorem call_isiW : CallR X (.builtin "isinstance") (fun xs H Q => ∃ x T b, xs = [x, .ty T] ∧ isiW x T b ∧ Q (.bl b) H) := by
  intro pins s σ H xs us Q I r h
  obtain ⟨x, T, b, rfl, hi, q⟩ := h
  obtain ⟨u, v, rfl, ru, rv⟩ := r.two
  cases rv
  rcases hi with ⟨rfl, ⟨i, rfl⟩, rfl⟩ | ⟨rfl, ⟨i, rfl⟩, rfl⟩ | ⟨rfl, ⟨⟨i, rfl⟩, rfl⟩ | ⟨⟨z, rfl⟩, rfl⟩⟩
  · obtain ⟨t, rfl⟩ := ru
    exact IsiPair.int_int ⟨.bl true, H, I, rfl, q⟩
  · obtain ⟨t, rfl⟩ := ru
    exact IsiPair.int_bool ⟨.bl false, H, I.tok _, rfl, q⟩
  · obtain ⟨t, rfl⟩ := ru
    exact IsiPair.int_str ⟨.bl false, H, I.tok _, rfl, q⟩
  · obtain ⟨t, rfl⟩ := ru
    exact IsiPair.str_str ⟨.bl true, H, I, rfl, q⟩
theorem call_isiU : CallR X (.builtin "isinstance") (fun xs H Q => (∃ x T b, xs = [x, .ty T] ∧ isiV H x T b ∧ Q (.bl b) H) ∨ ∃ x T b, xs = [x, .ty T] ∧ isiW x T b ∧ Q (.bl b) H) := call_isi.or call_isiW
/-! ### lists compared -/
def rEqL : R2 := fun x y H Q => ∃ a b xs, x = .ref a ∧ y = .ref b ∧ H a = some (.lst xs) ∧ H b = some (.lst []) ∧ Q (.bl (decide (xs = []))) H
/-- two lists of the same data -/
def rNeS : R2 := fun x y H Q => ∃ a b xs ys ds, x = .ref a ∧ y = .ref b ∧ H a = some (.lst xs) ∧ H b = some (.lst ys) ∧ IsDts H ds xs ∧ IsDts H ds ys ∧ depL ds ≤ depMax ∧ Q (.bl false) H
/-! ### dicts keyed by tuples -/
variable {pos : Pos} {e f o : Expr} {te tf to : TE}
theorem we_dnewT : Hd (PE X (.Dict [] [] pos) tDNewT) := ⟨pe_dnewT⟩
theorem m2_of {m : Str} {apos cpos : Pos} (hb : attributeBase o m X.env (eval o X.env) = eval o X.env) (h1 : notStar e = true) (h2 : notStar f = true) (hline : (apos.endLine == cpos.line) = true) : M2 X o m apos e f cpos :=
  ⟨hb, few_of (by show (notStar e && (notStar f && true)) = true; rw [h1, h2]; rfl) (by show 2 < 29; decide), hline, by rw [star_cons h1, star_cons h2]; rfl⟩
theorem we_dget2 {apos cpos : Pos} (hu : X.A.units + 1 < cLine) (ho : Hd (PE X o to)) (he : Hd (PE X e te)) (hf : Hd (PE X f tf)) (hb : attributeBase o "get" X.env (eval o X.env) = eval o X.env := by rfl) (h1 : notStar e = true := by rfl) (h2 : notStar f = true := by rfl) (hline : (apos.endLine == cpos.line) = true := by rfl) :
    Hd (PE X (.Call (.Attribute o "get" apos) [e, f] [] cpos) (tDGet2 to te tf)) := ⟨pe_dget2 hu ho.out he.out hf.out (m2_of hb h1 h2 hline)⟩
end
end L2
end
section
set_option Elab.async false
set_option linter.all false
set_option maxRecDepth 100000
set_option maxHeartbeats 4000000
namespace L2
open PySem PySem.Spec PyProof.Rows
/-! ### enumerate of a list; the signs of a text -/
/-- what an enumerate of the list at a yields -/
def Ite (K : PySem.W.Frag) (a : Addr) : It :=
  ⟨fun i H => ∃ xs x, SqL K H a xs ∧ xs[i]? = some x,
   fun i H v H' => ∃ p, v = .ref p ∧ H p = none ∧ ∃ x, (∀ xs, SqL K H a xs → xs[i]? = some x) ∧ H' = upd H p (.tup [.int i, x]),
   fun i H => ∃ xs, SqL K H a xs ∧ xs.length ≤ i⟩
/-- an enumerate's records, over the list at a -/
def EAt (h : Heap) (e it a : Addr) (k : Nat) : Prop := (∃ old, IsEnum h e it k old) ∧ h.IsListIter it a k
section
variable {X : Cx}
def iEnum (K : PySem.W.Frag) (ta : TA) : TI := fun σ H R => ta σ H fun vs H1 => ∃ a xs, vs = [.ref a] ∧ SqL K H1 a xs ∧ R (Ite K a) H1
/-- the signs of a text, of plain letters -/
def Its (x : Str) : It := ⟨fun i _ => i < x.cps.size, fun i H v H' => H' = H ∧ ∃ c, x.cps[i]? = some c ∧ v = .str ⟨#[c]⟩, fun i _ => x.cps.size ≤ i⟩
def iStr (tl : TE) : TI := fun σ H R => tl σ H fun v H1 => ∃ x, v = .str x ∧ x.cps.all (· < 128) = true ∧ R (Its x) H1
end
end L2
end
section
set_option Elab.async false
set_option linter.all false
set_option maxRecDepth 100000
set_option maxHeartbeats 4000000
namespace L2
open PySem PySem.Spec PyProof.Rows
section
variable {X : Cx}
/-- a text with a number behind it, as an f-string writes them -/
def tFs (a : Str) (te : TE) : TE := fun σ H Q => te σ H fun x H1 => ∃ i : Int, x = .int i ∧ i.natAbs.log2 < 1920 ∧ a.length + (Str.ofString (toString i)).length ≤ 10000 ∧ Q (.str (a ++ Str.ofString (toString i))) H1
end
end L2
end
section
set_option Elab.async false
set_option linter.all false
set_option maxRecDepth 100000
set_option maxHeartbeats 4000000
namespace L2
open PySem PySem.Spec PyProof.Rows
/-! ### sets of texts: what the table keeps -/
/-- the text of a value -/
def valS : Value → Str
  | .str x _ => x
  | _ => Str.empty
def strsOf (es : List (Int × Value)) : List Str := es.map fun e => valS e.2
/-- a set of texts at a: how it was made, which it holds -/
def SetS (prog : Program) (w : World) (h : Heap) (a : Addr) (zs : List Str) : Prop :=
  ∃ (es : Array (Int × Value)) (ep : Nat) (t : SetTable), h.get? a = some { cls := .type "set", dict := none, data := .set es ep t, slots := #[] } ∧ ElemsOf (strKind prog w) es.toList ∧ t.fits es.size = true ∧
    t.led = (!w.params.followText "set-order") ∧ (t.plain = false ∨ es = #[]) ∧ es.size < 4000 ∧ (strsOf es.toList).Nodup ∧ ∀ x, x ∈ strsOf es.toList ↔ x ∈ zs
theorem SetS.at {prog : Program} {w : World} {h h' : Heap} {a : Addr} {zs : List Str} (S : SetS prog w h a zs) (k : ∀ o, h.get? a = some o → h'.get? a = some o) : SetS prog w h' a zs := by
  obtain ⟨es, ep, t, ho, r⟩ := S
  exact ⟨es, ep, t, k _ ho, r⟩
theorem SetS.congr {prog : Program} {w : World} {h : Heap} {a : Addr} {zs ys : List Str} (S : SetS prog w h a zs) (e : ∀ x, x ∈ zs ↔ x ∈ ys) : SetS prog w h a ys := by
  obtain ⟨es, ep, t, h1, h2, h3, h4, h5, h6, h7, h8⟩ := S
  exact ⟨es, ep, t, h1, h2, h3, h4, h5, h6, h7, fun x => (h8 x).trans (e x)⟩
section
variable {prog : Program} {w : World} {A : Around} {E : Value → Shared → Prop} {s : Shared} {a : Addr} {zs : List Str}
end
end L2
end
section
set_option Elab.async false
set_option linter.all false
set_option maxRecDepth 100000
set_option maxHeartbeats 4000000
namespace L2
open PySem PySem.Spec PyProof.Rows
/-! ### set(a list of texts) -/
section
variable {prog : Program} {w : World} {A : Around} {R : Result → Shared → Prop} {I : Addr} {fp wr : List Addr} {G : Array GenState → Array GenState → Prop} {n : Nat} {P : Nat → Value → Prop} {St : Nat → Shared → Prop}
end
section
variable {prog : Program} {w : World} {A : Around} {E : Value → Shared → Prop} {s : Shared}
/-- the empty set as the maker lays it -/
def emptySet (w : World) : Obj := { cls := .type "set", dict := none, data := .set #[] 0 (.fresh 0 0 (!w.params.followText "set-order")) }
end
end L2
end
section
set_option Elab.async false
set_option linter.all false
set_option maxRecDepth 100000
set_option maxHeartbeats 4000000
namespace L2
open PySem PySem.Spec PyProof.Rows
/-! ### a set of texts, walked -/
section
variable {M : Model} {prog : Program} {w : World} {A : Around} {E : Value → Shared → Prop} {s : Shared}
/-- the iterator's own fields -/
def sIt (first : Value) (i : Nat) (a : Addr) (n ep : Nat) : Obj := { cls := .type "set_iterator", data := .fields #[first, .int i 0, .ref a, .int n 0, .int ep 0] }
/-- the set stands as it stood -/
def SAt (h : Heap) (a : Addr) (es : Array (Int × Value)) (ep : Nat) (t : SetTable) : Prop := h.get? a = some { cls := .type "set", dict := none, data := .set es ep t, slots := #[] } ∧ t.fits es.size = true
end
end L2
end
section
set_option Elab.async false
set_option linter.all false
set_option maxRecDepth 100000
set_option maxHeartbeats 4000000
namespace L2
open PySem PySem.Spec PyProof.Rows PySem.W
section
variable {prog : Program} {w : World} {A : Around} {E : Value → Shared → Prop} {s : Shared}
end
end L2
end
section
set_option Elab.async false
set_option linter.all false
set_option maxRecDepth 100000
set_option maxHeartbeats 4000000
namespace L2
open PySem PySem.Spec PyProof.Rows PySem.W
section
variable {prog : Program} {w : World} {A : Around} {E : Value → Shared → Prop} {s : Shared}
end
end L2
end
section
set_option Elab.async false
set_option linter.all false
set_option maxRecDepth 100000
set_option maxHeartbeats 4000000
namespace L2
open PySem PySem.Spec PyProof.Rows
theorem bt_dict : bootBuiltins "dict" = some (.type "dict") := by decide +kernel
section
variable {X : Cx}
/-- x.split(y) -/
def rSplit : V → List V → Hp → VK → Prop := fun x xs H Q => ∃ a b : Str, x = .str a ∧ xs = [.str b] ∧ (b.length == 0) = false ∧ a.length + 2 ≤ sizeLine ∧ ∀ p, H p = none → Q (.ref p) (upd H p (.lst ((Txt.split a b).map V.str)))
/-- sorted(set(e)), e a list of texts -/
def tSS (te : TE) : TE := fun σ H Q => te σ H fun x H1 => ∃ (a : Addr) (zs : List Str), [x] = [V.ref a] ∧ H1 a = some (.lst (zs.map V.str)) ∧ zs.length < 64 ∧
  ∀ (p : Addr) (ys : List Str), H1 p = none → ys.Nodup → (∀ x, x ∈ ys ↔ x ∈ zs) → sortedS ys = true → Q (.ref p) (upd H1 p (.lst (ys.map V.str)))
end
end L2
end
section
set_option Elab.async false
set_option linter.all false
set_option maxRecDepth 100000
set_option maxHeartbeats 4000000
namespace L2
open PySem PySem.Spec PyProof.Rows
section
variable {X : Cx}
/-- a list, wherever it stands, == the empty one -/
def rEqLK (K : PySem.W.Frag) : R2 := fun x y H Q => ∃ a b xs, x = .ref a ∧ y = .ref b ∧ SqL K H a xs ∧ H b = some (.lst []) ∧ Q (.bl (decide (xs = []))) H
end
/-! ### the hand: a dict of the cells, three numbers, perhaps the knots -/
def kyC : Key := Sum.inr (Str.ofString "cells")
def kyN : Key := Sum.inr (Str.ofString "next")
def kyR : Key := Sum.inr (Str.ofString "rest")
def kyT : Key := Sum.inr (Str.ofString "count")
def kyK : Key := Sum.inr (Str.ofString "knots")
structure HdIs (H : Hp) (p c : Addr) (cs : List Int) (n r t : Int) (kn : Option Int) (kvs : List (Key × V)) : Prop where
  at_ : H p = some (.dK kvs)
  len : kvs.length ≤ 20
  cell : valV kvs kyC = some (.ref c)
  nxt : valV kvs kyN = some (.int n)
  rst : valV kvs kyR = some (.int r)
  cnt : valV kvs kyT = some (.int t)
  knt : valV kvs kyK = kn.map V.int
  lst : H c = some (.lst (cs.map V.int))
  c1 : 1 ≤ cs.length
  c64 : cs.length ≤ 64
  n0 : 0 ≤ n
section
variable {H : Hp} {p c : Addr} {cs : List Int} {n r t : Int} {kn : Option Int} {kvs : List (Key × V)}
end
/-- the hand at p, its cells at c; as many knots; a small dict -/
def Hn (H : Hp) (p c : Addr) (cs : List Int) (kn : Option Int) : Prop := ∃ n r t kvs, HdIs H p c cs n r t kn kvs ∧ (kn = none → kvs.length ≤ 10)
/-- all but p as it was -/
def Ex (p : Addr) (H H' : Hp) : Prop := ∀ b o, b ≠ p → H b = some o → H' b = some o
theorem Ex.refl (p : Addr) (H : Hp) : Ex p H H := fun _ _ _ h => h
theorem Ex.trans {p : Addr} {H H1 H2 : Hp} (a : Ex p H H1) (b : Ex p H1 H2) : Ex p H H2 := fun c o n h => b c o n (a c o n h)
theorem ex_upd {p : Addr} {H : Hp} {o : HO} : Ex p H (upd H p o) := fun b u n h => by rw [upd_ne n]; exact h
theorem ex_new {p q : Addr} {H : Hp} {o : HO} (h : H q = none) : Ex p H (upd H q o) := fun b u n e => by rw [upd_ne (ne_of_none e h)]; exact e
theorem Ex.upd' {p c : Addr} {H H' : Hp} {o : HO} (e : Ex p H H') (h : H c = none) : Ex p H (upd H' c o) := fun b q n z => by rw [upd_ne (ne_of_none z h)]; exact e b q n z
theorem Same.ex {p : Addr} {H H' : Hp} (s : Same H H') : Ex p H H' := fun b o _ h => s b o h
theorem HdIs.keep {H H' : Hp} {p c : Addr} {cs : List Int} {n r t : Int} {kn : Option Int} {kvs : List (Key × V)} (h : HdIs H p c cs n r t kn kvs) (s : Same H H') : HdIs H' p c cs n r t kn kvs :=
  ⟨s _ _ h.at_, h.len, h.cell, h.nxt, h.rst, h.cnt, h.knt, s _ _ h.lst, h.c1, h.c64, h.n0⟩
theorem Hn.keep {H H' : Hp} {p c : Addr} {cs : List Int} {kn : Option Int} (h : Hn H p c cs kn) (s : Same H H') : Hn H' p c cs kn := by
  obtain ⟨n, r, t, kvs, a, b⟩ := h; exact ⟨n, r, t, kvs, a.keep s, b⟩
theorem Hn.new {H : Hp} {p c q : Addr} {cs : List Int} {kn : Option Int} {o : HO} (h : Hn H p c cs kn) (hq : H q = none) : Hn (upd H q o) p c cs kn := h.keep fun b u e => by rw [upd_ne (ne_of_none e hq)]; exact e
theorem Hn.ne {H : Hp} {p c q : Addr} {cs : List Int} {kn : Option Int} (h : Hn H p c cs kn) (hq : H q = none) : q ≠ p := by
  obtain ⟨n, r, t, kvs, a, _⟩ := h
  intro z; rw [z, a.at_] at hq; cases hq
theorem Hn.tups {H H' : Hp} {p c : Addr} {cs : List Int} {kn : Option Int} (h : Hn H p c cs kn) (x : Ex p H H') : Tups H H' := fun b xs e => by
  obtain ⟨n, r, t, kvs, a, _⟩ := h
  exact x b _ (ne_of e a.at_ (by intro z; cases z)) e
end L2
end
section
set_option Elab.async false
set_option linter.all false
set_option maxRecDepth 100000
set_option maxHeartbeats 4000000
namespace L2
open PySem PySem.Spec PyProof.Rows
/-! ### products of numbers of many figures -/
def CMulB (i j : Int) : Prop := i.natAbs < 2 ^ 600 ∧ j.natAbs < 2 ^ 600
section
variable {X : Cx}
end
end L2
end
section
set_option Elab.async false
set_option linter.all false
set_option maxRecDepth 100000
set_option maxHeartbeats 4000000
namespace L2
open PySem PySem.Spec PyProof.Rows PyProof.V
section
variable {X : Cx}
/-! ### sum of a list of ints -/
def rSum (K : PySem.W.Frag) : List V → Hp → VK → Prop := fun ws H Q => ∃ (p : Addr) (ns : List Int), ws = [.ref p] ∧ SqL K H p (ns.map V.int) ∧ Q (.int ns.sum) H
/-! ### a list taken apart -/
variable {pos : Pos}
def gTupL (K : PySem.W.Frag) (n : Nat) (t : TGs) : TG := fun v σ H Q => ∃ a xs, v = .ref a ∧ SqL K H a xs ∧ xs.length = n ∧ t xs σ H Q
end
/-! ### a comprehension within another one -/
def lcChk2 (scope : Scope) (fr : List (Str × Nat)) (N : List Str) (x0 : Str) : Bool :=
  (scope.kind == .function) && scope.names.all (fun y => decide (y.2 ≠ .cell)) && scope.names.all (fun y => decide (y.2 = .local → scope.names.lookup y.1 = some .local)) &&
    scope.names.all (fun y => decide (y.2 = .free → y.1 = x0)) && fr.all (fun p => decide (N[p.2]? = some p.1) && decide (scope.names.lookup p.1 = some .free))
end L2
end
section
set_option Elab.async false
set_option linter.all false
set_option maxRecDepth 100000
set_option maxHeartbeats 4000000
namespace L2
open PySem PySem.Spec PyProof.Rows
section
variable {X : Cx} {pos pos' apos : Pos} {o e value : Expr} {es : List Expr} {f : Str} {ta tv to te : TE} {tA : TA}
/-! ### own classes, covered -/
/-! ### what is never reached -/
/-! ### dict(a dict) -/
def rDictOf : List V → Hp → VK → Prop := fun xs H Q => ∃ (a : Addr) (kvs : List (Key × V)), xs = [.ref a] ∧ H a = some (.dK kvs) ∧ ∀ p, H p = none → Q (.ref p) (upd H p (.dK kvs))
/-! ### all of a list of truths -/
theorem vals_get : ∀ {xs : List V} {us : List Value} {i : Nat} {v : Value}, Vals xs us → us[i]? = some v → ∃ x, xs[i]? = some x ∧ RelV x v
  | _, _, i, v, .nil, e => by simp at e
  | _, _, 0, v, .cons r _, e => by simp at e; subst e; exact ⟨_, rfl, r⟩
  | _, _, i + 1, v, .cons _ t, e => by
    obtain ⟨x, h1, h2⟩ := vals_get (i := i) t (by simpa using e)
    exact ⟨x, by simpa using h1, h2⟩
def rAll (K : PySem.W.Frag) : List V → Hp → VK → Prop := fun ws H Q => ∃ (p : Addr) (bs : List Bool), ws = [.ref p] ∧ SqL K H p (bs.map V.bl) ∧ Q (.bl (bs.all id)) H
end
end L2
end
section
set_option Elab.async false
set_option linter.all false
set_option maxRecDepth 100000
set_option maxHeartbeats 4000000
namespace L2
open PySem PySem.Spec PyProof.Rows
/-! ### data written out: tuples of tuples of texts and ints -/
def exAll (f : Expr → Option Dt) : List Expr → Option (List Dt)
  | [] => some []
  | e :: es => match f e with
    | none => none
    | some d => match exAll f es with
      | none => none
      | some ds => if ds.length < 1000 then some (d :: ds) else none
def conDt : Const → Option Dt
  | .int i => some (.int i)
  | .str x => some (.str x)
  | _ => none
def exDtN : Nat → Expr → Option Dt
  | 0, _ => none
  | n + 1, e => match e with
    | .Constant c _ _ => conDt c
    | .Tuple es _ _ => (exAll (exDtN n) es).map Dt.tup
    | _ => none
def tDt (d : Dt) : TE := fun _ H Q => ∀ (v : V) (H' : Hp), Same H H' → IsDt H' d v → Q v H'
def tDts (ds : List Dt) : TA := fun _ H Q => ∀ (us : List V) (H' : Hp), Same H H' → IsDts H' ds us → Q us H'
section
variable {X : Cx}
end
end L2
end
section
set_option Elab.async false
set_option linter.all false
set_option maxRecDepth 100000
set_option maxHeartbeats 4000000
namespace Kn
open PySem PySem.W PyProof.Rows
/-! whatever is answered, sorting comes to the same items -/
section
variable {lt : Nat → Nat → Bool}
theorem prm_desc : ∀ (f : Nat) (p : Array Nat) (m q : Nat), (krun lt (kas_desc f p m q)).1.Perm p
  | 0, p, _, _ => by rw [kas_desc]; exact .refl _
  | f + 1, p, m, q => by
    rw [kas_desc, krun]
    split
    · split
      · exact (prm_desc f _ _ _).trans (mirror_perm _ _ _ _)
      · exact prm_desc f _ _ _
    · rw [krun]
      split
      · exact .refl _
      · exact prm_desc f _ _ _
theorem prm_tail (p : Array Nat) (m k : Nat) : (krun lt (kas_tail3 m k p)).2.Perm p := by
  unfold kas_tail3
  rw [krun_bind]
  exact mirror_perm _ _ _ _
theorem prm_descPart (p : Array Nat) (m k : Nat) : (krun lt (kas_descPart m k p)).2.Perm p := by
  unfold kas_descPart
  rw [krun_bind]
  split
  · exact (prm_tail _ _ _).trans ((mirror_perm _ _ _ _).trans (prm_desc _ _ _ _))
  · exact (prm_tail _ _ _).trans (prm_desc _ _ _ _)
theorem prm_count (p : Array Nat) (k : Nat) : (krun lt (kas_count k p)).2.Perm p := by
  unfold kas_count
  rw [krun_bind]
  split
  · exact .refl _
  split
  · rw [krun]
    split
    · exact .refl _
    · exact (prm_descPart _ _ _).trans (mirror_perm _ _ _ _)
  · exact prm_descPart _ _ _
theorem prm_bin : ∀ (f : Nat) (p : Array Nat) (k : Nat), (krun lt (kas_bin f p k)).Perm p
  | 0, p, _ => by rw [kas_bin]; exact .refl _
  | f + 1, p, k => by
    rw [kas_bin, krun_bind]
    exact (prm_bin f _ _).trans (bubble_perm _ _ _)
theorem prm_sort (n : Nat) : (krun lt (kas_sort n)).Perm (List.range n).toArray := by
  unfold kas_sort
  rw [krun_bind]
  split
  · exact (prm_bin _ _ _).trans (prm_count _ _)
  · exact prm_count _ _
end
end Kn
namespace L2
open PySem PySem.Spec PyProof.Rows PySem.W
open Kn (sLt krun)
/-! ### < of data -/
mutual
noncomputable def ltD : Dt → Dt → Option Bool
  | .int i, e => match e with | .int j => some (decide (i < j)) | _ => none
  | .str x, e => match e with | .str y => some (sLt x y) | _ => none
  | .tup ds, e => match e with | .tup es => ltDs ds es | _ => none
noncomputable def ltDs : List Dt → List Dt → Option Bool
  | [], es => some (decide (es ≠ []))
  | d :: ds, es => match es with | [] => some false | e :: es => if d = e then ltDs ds es else ltD d e
end
/-- < of v and u answers r -/
def RcLt (P : Program) (w : World) (A : Around) (s : Shared) (x y : Value) (r : Bool) : Prop := ∀ (E : Value → Shared → Prop) (Q : Value → Shared → Prop), Q (.bool r) s → wpAny (model P w) A (richCompare .Lt x y) Q E s
section
open PySem.SeqAt
open PySem.AutoSeq1 (wpAny_loadPart')
open PySem.MeetsSeq PySem.MeetsSeq2 PySem.MeetsSeq3
variable {P : Program} {w : World} {H : Hp}
/-- two rows of data, item by item -/
inductive DRow (H : Hp) : List Dt → List Value → Prop
  | nil : DRow H [] []
  | cons {d : Dt} {v : V} {x : Value} {ds : List Dt} {us : List Value} : IsDt H d v → RelV v x → DRow H ds us → DRow H (d :: ds) (x :: us)
theorem drow_of : ∀ {ds : List Dt} {xs : List V} {us : List Value}, IsDts H ds xs → Vals xs us → DRow H ds us
  | [], _, _, h, r => by rw [IsDts] at h; subst h; cases r; exact .nil
  | d :: ds, _, _, h, r => by
    rw [IsDts] at h
    obtain ⟨y, ys, rfl, h1, h2⟩ := h
    cases r with
    | cons q t => exact .cons h1 q (drow_of h2 t)
theorem DRow.length {ds : List Dt} {us : List Value} (h : DRow H ds us) : ds.length = us.length := by
  induction h with
  | nil => rfl
  | cons _ _ _ ih => simp [ih]
theorem tuple_ltD (n : Nat) (ih : ∀ (A : Around) (s : Shared) (d e : Dt) (v u : V) (x y : Value) (r : Bool), HOk P w H s.heap → d.dep ≤ n → A.units + n < cLine → IsDt H d v → IsDt H e u → RelV v x → RelV u y → ltD d e = some r → RcLt P w A s x y r)
    (l b : Addr) (items items2 : Array Value) (n1 n2 : Nat) (dd dd2 : Option Addr) (sl sl2 : Array (Option Value)) (ks js : List Dt) (hi : DRow H ks items.toList) (hj : DRow H js items2.toList) (hdep : depL ks ≤ n) (r : Bool) (hr : ltDs ks js = some r) :
    MeetsIn P w (Builtin.«tuple.__lt__» ⟨[.ref l, .ref b], []⟩)
      (fun A R s => A.units + 1 + n < cLine ∧ HOk P w H s.heap ∧ s.heap.get? l = some { cls := .type "tuple", dict := dd, data := .seq items n1, slots := sl } ∧ s.heap.get? b = some { cls := .type "tuple", dict := dd2, data := .seq items2 n2, slots := sl2 } ∧
        R (.ok (.ret (.bool r))) s) :=
  .of_wp fun A R s h => by
    obtain ⟨hp, g, d, tk, os⟩ := s; obtain ⟨hu, ok, hl, hb, h⟩ := h
    have f2 := AutoSeq1.sub_tuple_tuple
    have z1 : items.size = ks.length := by have := hi.length; simpa using this.symm
    have z2 : items2.size = js.length := by have := hj.length; simpa using this.symm
    wp_walk using wpAny_loadPart' hl, wpAny_loadPart' hb, wpAny_forIn_list _ (fun rest b s' => b.1 = none ∧ s' = ⟨hp, g, d, tk, os⟩ ∧ ∃ (vs ws : List Value) (ks' js' : List Dt), rest = vs.zip ws ∧
      DRow H ks' vs ∧ DRow H js' ws ∧ depL ks' ≤ n ∧ ks'.length + items2.size = js'.length + items.size ∧ ltDs ks' js' = some r) _
    case turn =>
      rintro ⟨y, x⟩ rest b s' ⟨hb', rfl, vs, ws, ks', js', hz, hvi, hwi, hdp, hlen, hR⟩
      cases hvi with
      | nil => rw [List.zip_nil_left] at hz; cases hz
      | @cons a av ax ks' vs' ia ra hvi' =>
        cases hwi with
        | nil => rw [List.zip_nil_right] at hz; cases hz
        | @cons c cv cx js' ws' ic rc hwi' =>
              rw [List.zip_cons_cons] at hz
              injection hz with hyx hrest
              injection hyx with hy hx
              subst hy hx
              rw [ltDs] at hR
              rw [depL] at hdp
              simp only [List.length_cons] at hlen
              have he := eqAt_D n A.in1 ⟨hp, g, d, tk, os⟩ a c av cv y x ok (by omega) (by show A.units + 1 + n < cLine; omega) ia ic ra rc
              refine wpAny_bind (he P w _ _ ?_)
              by_cases ac : a = c
              · rw [decide_eq_true ac]
                rw [if_pos ac] at hR
                wp_walk
                exact ⟨rfl, rfl, _, _, _, _, hrest, hvi', hwi', by omega, by omega, hR⟩
              · rw [decide_eq_false ac]
                rw [if_neg ac] at hR
                have hri := ih A.in1 ⟨hp, g, d, tk, os⟩ a c av cv y x r ok (by omega) (by show A.units + 1 + n < cLine; omega) ia ic ra rc hR
                unfold RcLt at hri
                wp_walk using hri
                exact ⟨_, rfl, by simpa using h⟩
    case fin =>
      rintro ⟨b1, b2⟩ s' ⟨hb', rfl, vs, ws, ks', js', hz, hvi, hwi, _, hlen, hR⟩
      simp only at hb'
      subst hb'
      have hv : r = decide (items.size < items2.size) := by
        cases hvi with
        | nil =>
          cases hwi with
          | nil =>
            simp only [List.length_nil] at hlen
            rw [ltDs] at hR
            cases hR
            simp; omega
          | cons _ _ _ =>
            simp only [List.length_nil, List.length_cons] at hlen
            rw [ltDs] at hR
            cases hR
            simp; omega
        | cons _ _ _ =>
          cases hwi with
          | nil =>
            simp only [List.length_nil, List.length_cons] at hlen
            rw [ltDs] at hR
            cases hR
            exact (decide_eq_false (by omega)).symm
          | cons _ _ _ =>
            rw [List.zip_cons_cons] at hz
            cases hz
      rw [hv] at h
      wp_walk
      exact ⟨_, rfl, by simpa [Builtin.Tuple.tupleCompareSizes] using h⟩
    case h =>
      exact ⟨rfl, rfl, items.toList, items2.toList, ks, js, rfl, hi, hj, hdep, by omega, hr⟩
theorem rcLt_D : ∀ (n : Nat) (A : Around) (s : Shared) (d e : Dt) (v u : V) (x y : Value) (r : Bool), HOk P w H s.heap → d.dep ≤ n → A.units + n < cLine → IsDt H d v → IsDt H e u → RelV v x → RelV u y → ltD d e = some r → RcLt P w A s x y r := by
  intro n
  induction n with
  | zero =>
    intro A s d e v u x y r ok hd hu iv iu rv ru h E Q q
    cases d with
    | int i =>
      cases e with
      | int j =>
        rw [IsDt] at iv iu; subst iv iu
        obtain ⟨t, rfl⟩ := rv
        obtain ⟨t', rfl⟩ := ru
        rw [ltD] at h; cases h
        exact HT.rcLt_int A s i t j t' P w E Q q
      | str z => simp [ltD] at h
      | tup es => simp [ltD] at h
    | str i =>
      cases e with
      | int j => simp [ltD] at h
      | str z =>
        rw [IsDt] at iv iu; subst iv iu
        obtain ⟨t, rfl⟩ := rv
        obtain ⟨t', rfl⟩ := ru
        rw [ltD] at h; cases h
        exact (PyProof.Rows.lt_str q : wpAny (model P w) A (compareOp .Lt (.str i t) (.str z t')) Q E s)
      | tup es => simp [ltD] at h
    | tup ds => rw [Dt.dep] at hd; omega
  | succ n ih =>
    intro A s d e v u x y r ok hd hu iv iu rv ru h
    cases d with
    | int i => exact ih A s _ e v u x y r ok (by rw [Dt.dep]; omega) (by omega) iv iu rv ru h
    | str i => exact ih A s _ e v u x y r ok (by rw [Dt.dep]; omega) (by omega) iv iu rv ru h
    | tup ds =>
      cases e with
      | int j => simp [ltD] at h
      | str z => simp [ltD] at h
      | tup es =>
        intro E Q q
        rw [ltD] at h
        rw [Dt.dep] at hd
        rw [IsDt] at iv iu
        obtain ⟨a, xs, rfl, h1, h2⟩ := iv
        obtain ⟨b, ys, rfl, g1, g2⟩ := iu
        cases rv
        cases ru
        obtain ⟨_, its, r1, p1⟩ := ok a _ h1
        obtain ⟨_, its2, r2, p2⟩ := ok b _ g1
        obtain ⟨⟨cls, dd, data, sl⟩, ho, hc, n1, hd1⟩ := id p1
        obtain ⟨⟨cls2, dd2, data2, sl2⟩, ho2, hc2, n2, hd2⟩ := id p2
        simp only at hc hd1 hc2 hd2
        subst hc hd1 hc2 hd2
        exact wpAny_richCompare_same_room (op := .Lt) ⟨_, ho, rfl⟩ ⟨_, ho2, rfl⟩ PySem.F.slot_tuple_lt (call_meetsIn PySem.F.slot_tuple_lt ⟨_, ho, rfl⟩ PySem.F.entry_tuple_lt (PySem.F.args_tuple_lt_2 _ _) (tuple_ltD n ih a b its.toArray its2.toArray n1 n2 dd dd2 sl sl2 ds es (by simpa using drow_of h2 r1) (by simpa using drow_of g2 r2) (by omega) r h)
          ⟨by omega, ok, ho, ho2, show Value.bool r ≠ Value.notImplemented ∧ Q (.bool r) s from ⟨(fun x => nomatch x), q⟩⟩) (by omega)
end
end L2
end
section
set_option Elab.async false
set_option linter.all false
set_option maxRecDepth 100000
set_option maxHeartbeats 4000000
namespace L2
open PySem PySem.Spec PyProof.Rows PySem.W
open Kn (sLt krun)
/-! ### sorted of a list of tuples of data -/
theorem HOk.but {P : Program} {w : World} {H : Hp} {h h' : Heap} {a : Addr} (x : HOk P w H h) (ha : H a = none) (k : ∀ b u, b ≠ a → h.get? b = some u → h'.get? b = some u) : HOk P w H h' := fun b o e =>
  (x b o e).stay (fun c u hc q => k c u (by rintro rfl; rcases hc with rfl | hc; (· rw [ha] at e; cases e); (· rw [ha] at hc; cases hc)) q) (fun _ q => q) fun _ _ q => q
/-- the type of the first item -/
def tyD : Dt → String
  | .int _ => "int"
  | .str _ => "str"
  | .tup _ => "tuple"
theorem looks_tyD {P : Program} {w : World} {M : Model} {H : Hp} {h : Heap} (ok : HOk P w H h) {d : Dt} {v : V} {x : Value} (i : IsDt H d v) (r : RelV v x) : Looks M h (typeOf x) (.type (tyD d)) := by
  cases d with
  | int n => rw [IsDt] at i; subst i; obtain ⟨t, rfl⟩ := r; exact .now
  | str n => rw [IsDt] at i; subst i; obtain ⟨t, rfl⟩ := r; exact .now
  | tup ds =>
    rw [IsDt] at i
    obtain ⟨a, xs, rfl, h1, _⟩ := i
    cases r
    obtain ⟨_, its, _, o, ho, hc, _⟩ := ok a _ h1
    have := (show Looks M h (typeOf (.ref a)) o.cls from (Looks.ld ho).andThen .now)
    rw [hc] at this
    exact this
section
variable {prog : Program} {w : World} {A : Around} {E : Value → Shared → Prop} {s : Shared} {H : Hp}
theorem katLex_D {b fin : Bool} {Q : Bool → Shared → Prop} {n : Nat} (ok : HOk prog w H s.heap) (hu : A.units + n < cLine) : ∀ (ds es : List Dt) (us ws : List Value) (i : Nat) (r : Bool), DRow H ds us → DRow H es ws → depL ds ≤ n → ltDs ds es = some r → fin = decide (ds.length < es.length) →
    ((b && i == 0) = true → ∀ d e, ds.head? = some d → es.head? = some e → tyD d = tyD e ∧ tyD d ≠ "tuple") → Q r s → KatLex prog w A b fin Q (us.zip ws) i s
  | _, _, _, _, i, r, .nil, .nil, _, h, hf, _, q => by
    rw [ltDs] at h; cases h
    subst hf
    refine kat_nil (by simpa using q)
  | _, _, _, _, i, r, .nil, .cons _ _ _, _, h, hf, _, q => by
    rw [ltDs] at h; cases h
    subst hf
    refine kat_nil (by simpa using q)
  | _, _, _, _, i, r, .cons _ _ _, .nil, _, h, hf, _, q => by
    rw [ltDs] at h; cases h
    rw [List.zip_nil_right]
    subst hf
    exact q
  | _, _, _, _, i, r, .cons (d := d) (v := v) (x := x) (ds := ds) (us := us) iv rv t, .cons (d := e) (v := u) (x := y) (ds := es) (us := ws) iu ru t', hd, h, hf, hb, q => by
    rw [depL] at hd
    rw [ltDs] at h
    rw [List.zip_cons_cons]
    refine kat_cons (eqAt_D n A s d e v u x y ok (by omega) hu iv iu rv ru _ _ _ _ ?_)
    by_cases ac : d = e
    · rw [if_pos ac] at h
      rw [decide_eq_true ac]
      refine kat_yes (katLex_D ok hu ds es us ws (i + 1) r t t' (by omega) h (by rw [hf]; simp) (fun z => ?_) q)
      simp at z
    · rw [if_neg ac] at h
      rw [decide_eq_false ac]
      refine kat_no ?_
      cases hbb : (b && i == 0) with
      | false => exact kat_one _ _ (rcLt_D n A s d e v u x y r ok (by omega) hu iv iu rv ru h _ _ q)
      | true =>
        obtain ⟨t1, t2⟩ := hb hbb d e rfl rfl
        cases d with
        | int m =>
          cases e with
          | int k =>
            rw [IsDt] at iv iu; subst iv iu
            obtain ⟨t, rfl⟩ := rv
            obtain ⟨t', rfl⟩ := ru
            rw [ltD] at h; cases h
            exact oneLt_int q
          | str z => simp [ltD] at h
          | tup z => simp [ltD] at h
        | str m =>
          cases e with
          | int k => simp [ltD] at h
          | str z =>
            rw [IsDt] at iv iu; subst iv iu
            obtain ⟨t, rfl⟩ := rv
            obtain ⟨t', rfl⟩ := ru
            rw [ltD] at h; cases h
            exact oneLt_str q
          | tup z => simp [ltD] at h
        | tup ds => exact absurd rfl t2
/-- the i-th of the list is a tuple of the i-th data -/
def DTs (H : Hp) (vs : List Value) (ds : List (List Dt)) : Prop := vs.length = ds.length ∧ ∀ (i : Nat) (d : List Dt), ds[i]? = some d → ∃ (b : Addr) (xs : List V), vs[i]? = some (Value.ref b) ∧ H b = some (.tup xs) ∧ IsDts H d xs
/-- what is sorted: all first items of one type, any two may be compared -/
structure Sortable (T : String) (ds : List (List Dt)) : Prop where
  first : ∀ d ∈ ds, ∃ e r, d = e :: r ∧ tyD e = T
  tot : ∀ d ∈ ds, ∀ e ∈ ds, (ltDs d e).isSome = true
  dep : ∀ d ∈ ds, depL d ≤ 50
noncomputable def ltB (ds : List (List Dt)) (i j : Nat) : Bool := (ltDs (ds.getD i []) (ds.getD j [])).getD false
theorem DTs.firsts {T : String} (ok : HOk prog w H s.heap) : ∀ {vs : List Value} {ds : List (List Dt)}, DTs H vs ds → (∀ d ∈ ds, ∃ e r, d = e :: r ∧ tyD e = T) → ∃ fs, KatTups s.heap vs fs ∧ fs.length = vs.length ∧ ∀ f ∈ fs, Looks (model prog w) s.heap (typeOf f) (.type T)
  | [], [], _, _ => ⟨[], .nil, rfl, fun f hf => (nomatch hf)⟩
  | [], _ :: _, t, _ => by have := t.1; simp at this
  | _ :: _, [], t, _ => by have := t.1; simp at this
  | v :: vs, d :: ds, t, hf => by
    obtain ⟨fs, h1, h2, h3⟩ := DTs.firsts ok (vs := vs) (ds := ds) ⟨by have := t.1; simpa using this, fun i y hy => t.2 (i + 1) y (by simpa using hy)⟩ (fun d hd => hf d (List.mem_cons_of_mem _ hd))
    obtain ⟨b, xs, e1, e2, e3⟩ := t.2 0 d rfl
    obtain ⟨e, r, rfl, et⟩ := hf d List.mem_cons_self
    rw [IsDts] at e3
    obtain ⟨y, ys, rfl, i1, i2⟩ := e3
    have ev : v = .ref b := by simpa using e1
    subst ev
    obtain ⟨_, its, r1, o, g1, g2, n, g3⟩ := ok b _ e2
    cases r1 with
    | @cons _ u _ ur ru _ =>
      refine ⟨u :: fs, .cons g1 g2 g3 (by simp) h1, by simp [h2], fun f hf => ?_⟩
      rcases List.mem_cons.mp hf with z | z
      · subst z; have := looks_tyD (M := model prog w) ok i1 ru; rw [et] at this; exact this
      · exact h3 f z
theorem dt_list_sort {a : Addr} {vs : List Value} {ds : List (List Dt)} {n : Nat} {T : String} {P : Fin → Shared → Prop} (hu : A.units + 60 < cLine) (ok : HOk prog w H s.heap) (ha : H a = none) (ho : s.heap.get? a = some (seqObj "list" vs.toArray n)) (hT : DTs H vs ds) (so : Sortable T ds) (h64 : vs.length < 64)
    (h : ∀ (p : List Nat), p.Perm (List.range vs.length) → (2 ≤ vs.length → p = (krun (ltB ds) (kas_sort vs.length)).toList) → (vs.length < 2 → p = List.range vs.length) → P (.done (.ret .none)) { s with heap := sortedHeap s.heap a vs (p.map fun i => vs.getD i Value.none).toArray }) :
    wpAny (model prog w) A (Builtin.«list.sort» ⟨[.ref a], []⟩) P E s := by
  obtain ⟨e1, g1⟩ : ∃ e1, (s.heap.update a (Obj.mapSeq fun _ => (#[] : Array Value))).get? a = some (seqObj "list" #[] e1) := ⟨_, get?_update_seq ho fun _ => #[]⟩
  have g6 : (((s.heap.update a (Obj.mapSeq fun _ => (#[] : Array Value))).push (seqObj "tuple" vs.toArray 0)).push (seqObj "list" #[] 0)).get? a = some (seqObj "list" #[] e1) := Heap.get?_push_of_some _ (Heap.get?_push_of_some _ g1)
  have sb := Heap.SameBut.update s.heap a (Obj.mapSeq fun _ => (#[] : Array Value))
  have ok6 : HOk prog w H (((s.heap.update a (Obj.mapSeq fun _ => (#[] : Array Value))).push (seqObj "tuple" vs.toArray 0)).push (seqObj "list" #[] 0)) := ok.but ha fun b o nb e => Heap.get?_push_of_some _ (Heap.get?_push_of_some _ (sb.extBut b o nb e))
  rw [list_sort_plain]
  refine wpAny_bind (listItems_at ho rfl (wpAny_bind (listUpdate_at ho rfl ?_ (by rw [List.size_toArray, sizeLine_eq]; omega) (Nat.zero_le _))))
  refine wpAny_bind (seqEpoch_at g1 rfl (wpAny_bind (wpAny_newTuple ?_ (by show vs.length ≤ _; rw [sizeLine_eq]; omega))))
  refine wpAny_bind (wpAny_newList (wpAny_holding ?_) (Nat.zero_le _))
  show wpAny (model prog w) A _ P E { s with heap := ((s.heap.update a (Obj.mapSeq fun _ => (#[] : Array Value))).push (seqObj "tuple" vs.toArray 0)).push (seqObj "list" #[] 0) }
  dsimp only
  by_cases h2 : vs.toArray.size < 2
  · have h2' : vs.length < 2 := by simpa using h2
    rw [if_pos h2, if_pos h2]
    refine wpAny_bind (wpAny_pure ?_)
    rw [StateT.run_pure]
    refine wpAny_bind (wpAny_pure ?_)
    dsimp only
    have ez : (arrOf (SortSt.mk' general' (vs.toArray.zip vs.toArray) #[] 7 none)).map (·.2) = vs.toArray := by
      show (vs.toArray.zip vs.toArray).map (·.2) = vs.toArray
      apply Array.toList_inj.mp
      rw [Array.toList_map, Array.toList_zip]
      simp only [List.toList_toArray]
      have zz : ∀ l : List Value, (l.zip l).map (·.2) = l := fun l => by induction l with | nil => rfl | cons x l ih => simp [ih]
      exact zz vs
    rw [ez]
    refine wpAny_bind (seqEpoch_at g6 rfl (wpAny_bind (listUpdate_at g6 rfl ?_ (Nat.zero_le _) (by rw [List.size_toArray, sizeLine_eq]; omega))))
    simp only [bne_self_eq_false, Bool.false_eq_true, if_false]
    have q := h (List.range vs.length) (.refl _) (fun z => by omega) fun _ => rfl
    have zz : (List.range vs.length).map (fun i => vs.getD i Value.none) = vs := by
      refine List.ext_getElem (by simp) fun i h1 h2 => ?_
      simp [List.getD_eq_getElem?_getD, List.getElem?_eq_getElem h2]
    rw [zz] at q
    exact wpAny_pure q
  · have h2' : 2 ≤ vs.length := by have : ¬ vs.length < 2 := by simpa using h2
                                   omega
    rw [if_neg h2, if_neg h2]
    obtain ⟨fs, f1, f2, f3⟩ := hT.firsts (s := { s with heap := ((s.heap.update a (Obj.mapSeq fun _ => (#[] : Array Value))).push (seqObj "tuple" vs.toArray 0)).push (seqObj "list" #[] 0) }) ok6 so.first
    refine wpAny_bind (kat_kind (T := .type T) f1 (by rw [f2]; omega) f3 (by simp) ?_)
    have pp := Kn.prm_sort (lt := ltB ds) vs.length
    refine wpAny_bind (wpAny_mono (kat_run (ks := vs) (Q := fun st' s' => arrOf st' = (krun (ltB ds) (kas_sort vs.length)).map (kas_item (vs.toArray.zip vs.toArray)) ∧ failedOf st' = none ∧ s' = { s with heap := ((s.heap.update a (Obj.mapSeq fun _ => (#[] : Array Value))).push (seqObj "tuple" vs.toArray 0)).push (seqObj "list" #[] 0) })
      (G := fun q s' => q = krun (ltB ds) (kas_sort vs.length) ∧ s' = { s with heap := ((s.heap.update a (Obj.mapSeq fun _ => (#[] : Array Value))).push (seqObj "tuple" vs.toArray 0)).push (seqObj "list" #[] 0) }) rfl h2' h64 (fun q st' s' _ a2 a3 ⟨a4, a5⟩ => ⟨a4 ▸ a2, a3, a5⟩) ?ask) ?_ fun _ _ e => e)
    case ask =>
      refine Kn.wp_of_run (n := vs.length) (R := fun _ => True) (lt := ltB ds) (fun i j C hi hj q => ?_) (Kn.asks_sort (by omega)) ⟨rfl, rfl⟩
      have hi' : i < ds.length := by rw [← hT.1]; exact hi
      have hj' : j < ds.length := by rw [← hT.1]; exact hj
      have di : ds[i]? = some ds[i] := List.getElem?_eq_getElem hi'
      have dj : ds[j]? = some ds[j] := List.getElem?_eq_getElem hj'
      obtain ⟨bi, xi, a1, a2, a3⟩ := hT.2 i _ di
      obtain ⟨bj, xj, c1, c2, c3⟩ := hT.2 j _ dj
      obtain ⟨_, ti, ri, oi, a4, a5, ni, a6⟩ := ok6 bi _ a2
      obtain ⟨_, tj, rj, oj, c4, c5, nj, c6⟩ := ok6 bj _ c2
      unfold kas_ask
      rw [List.getD_eq_getElem?_getD, List.getD_eq_getElem?_getD, a1, c1]
      refine kat_lt a4 a6 c4 c6 ?_
      have mi : ds[i] ∈ ds := List.getElem_mem _
      have mj : ds[j] ∈ ds := List.getElem_mem _
      obtain ⟨r, hr⟩ := Option.isSome_iff_exists.mp (so.tot _ mi _ mj)
      have eq : ltB ds i j = r := by
        unfold ltB
        rw [List.getD_eq_getElem?_getD, List.getD_eq_getElem?_getD, di, dj]
        show (ltDs ds[i] ds[j]).getD false = r
        rw [hr]; rfl
      rw [eq] at q
      refine katLex_D (n := 50) ok6 (by omega) ds[i] ds[j] _ _ 0 r (by simpa using drow_of a3 ri) (by simpa using drow_of c3 rj) (so.dep _ mi) hr ?_ (fun hb d e hd he => ?_) q
      · have l1 := (drow_of a3 ri).length
        have l2 := (drow_of c3 rj).length
        simp [l1, l2]
      · obtain ⟨d', r', q1, q2⟩ := so.first _ mi
        obtain ⟨e', r'', q3, q4⟩ := so.first _ mj
        rw [q1] at hd; rw [q3] at he
        cases hd; cases he
        refine ⟨q2.trans q4.symm, fun z => ?_⟩
        rw [q2] at z
        subst z
        simp at hb
    rintro ⟨⟨⟩, st'⟩ s' ⟨har, hf, rfl⟩
    dsimp only
    have hout := kat_snds rfl har
    rw [hout]
    have lp : (krun (ltB ds) (kas_sort vs.length)).toList.length = vs.length := by rw [Array.length_toList, pp.size_eq]; simp
    refine wpAny_bind (seqEpoch_at g6 rfl (wpAny_bind (listUpdate_at g6 rfl ?_ (Nat.zero_le _) (by rw [List.size_toArray, List.length_map, lp, sizeLine_eq]; omega))))
    rw [hf]
    simp only [bne_self_eq_false, Bool.false_eq_true, if_false]
    exact wpAny_pure (h _ (by have := Array.perm_iff_toList_perm.mp pp; simpa using this) (fun _ => rfl) fun z => by omega)
end
section
variable {X : Cx}
theorem vals_map {bs : List V} {us : List Value} (r : Vals bs us) : ∀ (p : List Nat), (∀ i ∈ p, i < us.length) → Vals (p.map fun i => bs.getD i V.non) (p.map fun i => us.getD i Value.none)
  | [], _ => .nil
  | i :: p, h => by
    refine .cons ?_ (vals_map r p fun j hj => h j (List.mem_cons_of_mem _ hj))
    have hi : i < us.length := h i List.mem_cons_self
    have hi' : i < bs.length := by rw [r.length]; exact hi
    obtain ⟨u, h1, h2⟩ := r.get (List.getElem?_eq_getElem hi')
    show RelV (bs.getD i V.non) (us.getD i Value.none)
    rw [List.getD_eq_getElem?_getD, List.getD_eq_getElem?_getD, h1, List.getElem?_eq_getElem hi']
    exact h2
theorem dts_of {H : Hp} {bs : List V} {us : List Value} (r : Vals bs us) {ds : List (List Dt)} (h : IsDts H (ds.map Dt.tup) bs) : DTs H us ds := by
  refine ⟨by rw [← r.length, h.length, List.length_map], fun i d hd => ?_⟩
  obtain ⟨y, e1, e2⟩ := h.get (i := i) (d := .tup d) (by rw [List.getElem?_map, hd]; rfl)
  obtain ⟨u, f1, f2⟩ := r.get e1
  rw [IsDt] at e2
  obtain ⟨a, xs, rfl, g1, g2⟩ := e2
  cases f2
  exact ⟨a, xs, f1, g1, g2⟩
/-- a list of tuples of data is sorted: behind the collecting -/
theorem sortD_tail {pins : List (Addr × Obj)} {s : Shared} {σ : St} {H : Hp} {A : Around} {E : Value → Shared → Prop} {T : String} {bs : List V} {us : List Value} {ds : List (List Dt)} {Q : VK} (hu : A.units + 70 < cLine) (I : Inv X pins σ H s) (r : Vals bs us) (hD : IsDts H (ds.map Dt.tup) bs) (so : Sortable T ds) (h64 : ds.length < 64)
    (q : ∀ (a : Addr) (p : List Nat), H a = none → p.Perm (List.range ds.length) → (2 ≤ ds.length → p = (krun (ltB ds) (kas_sort ds.length)).toList) → (ds.length < 2 → p = List.range ds.length) → Q (.ref a) (upd H a (.lst (p.map fun i => bs.getD i V.non)))) :
    wpAny (model X.prog X.w) A (newList us >>= fun l => holding [l] (call (.builtin "list.sort") [l] []) >>= fun _ => ret l) (fun fin s' => ∃ v, fin = .done (.ret v) ∧ EP X pins σ Q v s') E s := by
  have hT := dts_of r hD
  have hl : us.length = ds.length := hT.1
  refine wpAny_bind (wpAny_newList ?_ (by rw [hl, sizeLine_eq]; omega))
  have hoL : (s.heap.push { cls := .type "list", data := .seq us.toArray }).get? s.heap.objs.size = some (seqObj "list" us.toArray 0) := Heap.get?_push_size _ rfl
  have ok1 : HOk X.prog X.w H (s.heap.push { cls := .type "list", data := .seq us.toArray }) := I.hok.kept fun b o e => Heap.get?_push_of_some _ e
  refine wpAny_bind (wpAny_holding (wpAny_call_entry slot_list_sort ⟨_, hoL, rfl⟩ entry_list_sort (dt_list_sort (by show A.units + 1 + 60 < cLine; omega) ok1 (I.hok.fresh (Nat.le_refl _)) hoL hT so (by omega) fun p b1 b2 b3 => ⟨_, rfl, ?_⟩) (args_list_sort _)))
  refine wpAny_pure ⟨_, rfl, ?_⟩
  obtain ⟨e, hat⟩ := sortedHeap_at (out := (p.map fun i => us.getD i Value.none).toArray) hoL
  have lp : p.length = ds.length := by rw [b1.length_eq, List.length_range, hl]
  rw [hl] at b1 b2 b3
  refine ⟨.ref s.heap.objs.size, upd H s.heap.objs.size (.lst (p.map fun i => bs.getD i V.non)), ?_, rfl, q _ p (I.hok.fresh (Nat.le_refl _)) b1 b2 b3⟩
  refine I.laid (t' := s.toks) (fun b o hb => ?_) (Nat.le_refl _) ⟨by rw [List.length_map, lp, sizeLine_eq]; omega, _, e, vals_map r p (fun i hi => by rw [hl]; have := b1.mem_iff.mp hi; simpa using this), ?_⟩
  · have hlt : b < s.heap.objs.size := Heap.lt_size hb
    rw [sortedHeap_old (Nat.ne_of_lt hlt) (by rw [Heap.size_push]; exact Nat.lt_succ_of_lt hlt)]
    exact Heap.get?_push_of_some _ hb
  · rw [hat]
/-- sorted(xs), xs a list of tuples of data -/
def rSortL : List V → Hp → VK → Prop := fun ws H Q => ∃ (l : Addr) (bs : List V) (ds : List (List Dt)) (T : String), ws = [.ref l] ∧ H l = some (.lst bs) ∧ IsDts H (ds.map Dt.tup) bs ∧ Sortable T ds ∧ ds.length < 64 ∧
  ∀ (a : Addr) (p : List Nat), H a = none → p.Perm (List.range ds.length) → (2 ≤ ds.length → p = (krun (ltB ds) (kas_sort ds.length)).toList) → (ds.length < 2 → p = List.range ds.length) → Q (.ref a) (upd H a (.lst (p.map fun i => bs.getD i V.non)))
theorem call_sortL (hu : X.A.units + 110 < cLine) : CallR X (.builtin "sorted") rSortL := by
  intro pins s σ H ws us Q I r h
  obtain ⟨l, bs, ds, T, rfl, hl, hD, so, h64, q⟩ := h
  obtain ⟨u, rfl, ru⟩ := r.one
  cases ru
  obtain ⟨z, its, n, rv, ho⟩ := (show ObjOk X.prog X.w H s.heap l (.lst bs) from I.hok l _ hl)
  refine Calls.call_function_entry kind_sorted plain_sorted entry_sorted (args_sorted1 _) ?_
  unfold Builtin.«sorted»
  refine wpAny_bind (m := checkCount "sorted" 1 1 _) (wpAny_pure ?_)
  refine wpAny_bind (collect_list (vs := its) ⟨_, ho, rfl, n, rfl⟩ ?_ (by rw [← rv.length]; exact z))
  have I1 : Inv X pins σ H { s with heap := (s.heap.push (seqObj "list" #[] 0)).update s.heap.objs.size (Obj.mapSeq (· ++ its.toArray)) } := I.kept (t' := s.toks) fun b o e => by
    have hlt : b < s.heap.objs.size := Heap.lt_size e
    exact (Heap.SameBut.update (s.heap.push (seqObj "list" #[] 0)) s.heap.objs.size (Obj.mapSeq (· ++ its.toArray))).extBut b o (Nat.ne_of_lt hlt) (Heap.get?_push_of_some _ e)
  exact sortD_tail (A := X.A.in1) (by show X.A.units + 1 + 70 < cLine; omega) I1 rv hD so h64 q
end
end L2
end
section
set_option Elab.async false
set_option linter.all false
set_option maxRecDepth 100000
set_option maxHeartbeats 4000000
namespace L2
open PySem PySem.Spec PyProof.Rows PySem.W
/-! ### dict(pairs) -/
section
variable {prog : Program} {w : World} {A : Around} {E : Value → Shared → Prop} {s : Shared}
theorem miss_keys_tuple : typeLookup (.type "tuple") "keys" = pure none := by rw [typeLookup_type, builtinLookup_eq_fast]; kernel_rfl
theorem miss_keys_list : typeLookup (.type "list") "keys" = pure none := by rw [typeLookup_type, builtinLookup_eq_fast]; kernel_rfl
theorem noKeys_tuple {a : Addr} {o : Obj} {xs : Array Value} {k : Nat} {Q : Option Value → Shared → Prop} (hx : s.heap.get? a = some o) (hc : o.cls = .type "tuple") (hdat : o.data = .seq xs k) (hd : o.dict = none) (hA : A.handled = none)
    (h : ∀ h' tk, (∀ b o, s.heap.get? b = some o → h'.get? b = some o) → Q none { s with heap := h', toks := tk }) : wpAny (model prog w) A (getAttr? (.ref a) "keys") Q E s := by
  obtain ⟨c, dct, dat, sl⟩ := o
  simp only at hc hdat hd
  subst hc hdat hd
  obtain ⟨hp, g, d, tk, os⟩ := s
  have hT : ∀ tk', (⟨hp, g, d, tk', os⟩ : Shared).TypeIs (.ref a) "tuple" := fun _ => ⟨_, hx, rfl⟩
  have f1 := sub_AttributeError
  have f3 := F.slot_tuple_getattribute.lookup
  have f4 := F.slot_tuple_getattribute.bind (.ref a)
  have f5 := am_tuple_getattr_none
  have hname : (["__module__", "__name__", "__qualname__", "__doc__", "__annotations__"] : List Str).contains "keys" = false := by decide
  unfold getAttr? getAttrBy? getAttrBy
  repeat (any_goals (first | assumption | exact hT _ | ((with_reducible show wpAny _ _ (call (Value.builtin "tuple.__getattribute__") _ _) _ _ _); refine call_meets F.slot_tuple_getattribute (hT _) am_entry_tuple_getattribute (F.args_tuple_getattribute_2 _ _) (meets_getattribute_miss_tuple a xs k sl "keys" _ miss_keys_tuple hname) ⟨hx, hA, fun h' tk' e hx' => ?_⟩) | wp_step))
  obtain ⟨t', u', he⟩ := hx'.there
  show wpAny _ _ (getattributeRaised _ _ _ _ _ _ _) _ _ _
  unfold getattributeRaised
  repeat (any_goals (first | assumption | wp_step))
  exact h _ _ hx'.keeps
theorem noKeys_list {a : Addr} {o : Obj} {xs : Array Value} {k : Nat} {Q : Option Value → Shared → Prop} (hx : s.heap.get? a = some o) (hc : o.cls = .type "list") (hdat : o.data = .seq xs k) (hd : o.dict = none) (hA : A.handled = none)
    (h : ∀ h' tk, (∀ b o, s.heap.get? b = some o → h'.get? b = some o) → Q none { s with heap := h', toks := tk }) : wpAny (model prog w) A (getAttr? (.ref a) "keys") Q E s := by
  obtain ⟨c, dct, dat, sl⟩ := o
  simp only at hc hdat hd
  subst hc hdat hd
  obtain ⟨hp, g, d, tk, os⟩ := s
  have hT : ∀ tk', (⟨hp, g, d, tk', os⟩ : Shared).TypeIs (.ref a) "list" := fun _ => ⟨_, hx, rfl⟩
  have f1 := sub_AttributeError
  have f3 := F.slot_list_getattribute.lookup
  have f4 := F.slot_list_getattribute.bind (.ref a)
  have f5 := am_list_getattr_none
  have hname : (["__module__", "__name__", "__qualname__", "__doc__", "__annotations__"] : List Str).contains "keys" = false := by decide
  unfold getAttr? getAttrBy? getAttrBy
  repeat (any_goals (first | assumption | exact hT _ | ((with_reducible show wpAny _ _ (call (Value.builtin "list.__getattribute__") _ _) _ _ _); refine call_meets F.slot_list_getattribute (hT _) am_entry_list_getattribute (F.args_list_getattribute_2 _ _) (meets_getattribute_miss_list a xs k sl "keys" _ miss_keys_list hname) ⟨hx, hA, fun h' tk' e hx' => ?_⟩) | wp_step))
  obtain ⟨t', u', he⟩ := hx'.there
  show wpAny _ _ (getattributeRaised _ _ _ _ _ _ _) _ _ _
  unfold getattributeRaised
  repeat (any_goals (first | assumption | wp_step))
  exact h _ _ hx'.keeps

theorem entry_update_loop : entryFor table "dict.update.loop" = some Builtin.«dict.update.loop» := entryFor_of_tree (by kernel_rfl)
theorem plain_update_loop : plainId "dict.update.loop" = true := by decide +kernel
variable {I : Addr} {fp wr : List Addr} {n : Nat} {P : Nat → Value → Prop} {St : Nat → Heap → Prop}
/-- the i-th pair is put into the dict at d, whose state after i pairs is DK i -/
def PutsAt (prog : Program) (w : World) (A : Around) (d : Addr) (n : Nat) (P : Nat → Value → Prop) (DK : Nat → Heap → Prop) : Prop :=
  ∀ (i : Nat) (v : Value) (s : Shared), i < n → P i v → DK i s.heap → ∃ (a : Addr) (o : Obj) (xs : Array Value) (m : Nat) (k x : Value), v = .ref a ∧ s.heap.get? a = some o ∧ o.cls = .type "tuple" ∧ o.data = .seq xs m ∧ xs.toList = [k, x] ∧
    ∀ (Q : Unit → Shared → Prop) (E : Value → Shared → Prop), (∀ h' tk, DK (i + 1) h' → Heap.SameBut d s.heap h' → Q () { s with heap := h', toks := tk }) → wpAny (model prog w) A (dictSet d k x) Q E s
theorem codeAny_update_loop {R : Result → Shared → Prop} {DK : Nat → Heap → Prop} (W : Walks prog w A.in1 I fp wr n P St) (d : Addr) (hdf : d ∉ fp) (hfr : ∀ i h h', DK i h → (∀ b o, b ∉ wr → h.get? b = some o → h'.get? b = some o) → DK i h') (put : PutsAt prog w A.in1 d n P DK) (res : Value) :
    ∀ (k i : Nat) (t : Tok) (s : Shared), n - i = k → i ≤ n → St i s.heap → DK i s.heap →
    (∀ h' tk, DK n h' → (∀ b o, b ∉ d :: wr → s.heap.get? b = some o → h'.get? b = some o) → R (.ok (.ret res)) { s with heap := h', toks := tk }) →
    codeAny (model prog w) A (.builtin "dict.update.loop" ⟨[.ref d, .ref I, .int i t, res], []⟩) R s := by
  have hdw : d ∉ wr := fun h => hdf (W.sub _ h)
  intro k
  induction k with
  | zero =>
    intro i t s hk hi hst hD hR
    have hin : i = n := by omega
    subst hin
    refine codeAny_builtin entry_update_loop ?_
    rw [Around.under_plainId plain_update_loop _]
    show wpAny _ A.in1 (pyNext (.ref I) >>= _) _ _ s
    refine wpAny_bind (W.done s _ _ hst fun h' tk hm => ?_)
    dsimp only
    unfold Builtin.Dict.addKeywords
    refine wpAny_bind (wpAny_pure ?_)
    exact wpAny_pure (hR h' tk (hfr _ _ _ hD hm) fun b o hb e => hm b o (fun z => hb (List.mem_cons_of_mem _ z)) e)
  | succ k ih =>
    intro i t s hk hi hst hD hR
    have hlt : i < n := by omega
    refine codeAny_builtin entry_update_loop ?_
    rw [Around.under_plainId plain_update_loop _]
    show wpAny _ A.in1 (pyNext (.ref I) >>= _) _ _ s
    refine wpAny_bind (W.item i s _ _ hlt hst fun v h' tk hP hst' hm => ?_)
    dsimp only
    obtain ⟨a, o, xs, m, ky, x, rfl, ho, hc, hdat, hxs, hput⟩ := put i v { s with heap := h', toks := tk } hlt hP (hfr _ _ _ hD hm)
    refine wpAny_bind (wpAny_holding (wpAny_bind (wpAny_tryCatch ?_)))
    unfold Builtin.Dict.pairItems
    refine wpAny_bind (wpAny_typeOf (T := "tuple") ⟨o, ho, hc⟩ ?_)
    rw [if_pos (by decide)]
    refine wpAny_bind (wpAny_seqItems ho hdat (wpAny_pure ?_))
    dsimp only [Option.getD_some]
    rw [hxs]
    dsimp only
    refine wpAny_holding (hput _ _ fun h'' tk' hD' hs => ?_)
    refine wpAny_pure ⟨plainId_quiet plain_update_loop _, ?_⟩
    have := ih (i + 1) 0 { s with heap := h'', toks := tk' } (by omega) hlt (W.frame _ _ _ hst' fun b hb o e => (hs.2 b (fun z => hdf (z ▸ hb))).trans e) hD' (fun h3 tk3 hD3 hk3 => hR h3 tk3 hD3 fun b o hb e => hk3 b o hb ((hs.2 b (fun z => hb (by simp [z]))).trans (hm b o (fun z => hb (List.mem_cons_of_mem _ z)) e)))
    exact this
end
end L2
end
section
set_option Elab.async false
set_option linter.all false
set_option maxRecDepth 100000
set_option maxHeartbeats 4000000
namespace L2
open PySem PySem.Spec PyProof.Rows PySem.W
/-! ### nested tuples as keys of a dict -/
/-- the tuple at b -/
def ObjT (h : Heap) (b : Addr) (xs : List V) : Prop := TupD h b xs.length ∧ ∃ its : List Value, Vals xs its ∧ IsTup h b its.toArray
theorem ObjT.inj {h : Heap} {b : Addr} {xs ys : List V} (x : ObjT h b xs) (y : ObjT h b ys) : xs = ys := by
  obtain ⟨_, its, r, o, e, _, n, d⟩ := x
  obtain ⟨_, its', r', o', e', _, n', d'⟩ := y
  rw [e] at e'; cases e'
  rw [d] at d'
  injection d' with d1 _
  have : its = its' := by simpa using congrArg Array.toList d1
  subst this
  exact r.inj r'
open Classical in
/-- all tuples of a heap -/
noncomputable def Hc (h : Heap) : Hp := fun b => if c : ∃ xs, ObjT h b xs then some (.tup (Classical.choose c)) else none
theorem hc_of {h : Heap} {b : Addr} {xs : List V} (x : ObjT h b xs) : Hc h b = some (.tup xs) := by
  unfold Hc
  have c : ∃ xs, ObjT h b xs := ⟨xs, x⟩
  rw [dif_pos c, (Classical.choose_spec c).inj x]
theorem hc_at {h : Heap} {b : Addr} {o : HO} (e : Hc h b = some o) : ∃ xs, o = .tup xs ∧ ObjT h b xs := by
  unfold Hc at e
  split at e
  · rename_i c
    cases e
    exact ⟨_, rfl, Classical.choose_spec c⟩
  · cases e
theorem hc_ok {P : Program} {w : World} (h : Heap) : HOk P w (Hc h) h := fun b o e => by
  obtain ⟨xs, rfl, x⟩ := hc_at e
  exact x
theorem hc_sub {P : Program} {w : World} {H : Hp} {h : Heap} (ok : HOk P w H h) : Tups H (Hc h) := fun b xs e => hc_of (ok b _ e)
theorem hc_keep {h h' : Heap} (k : ∀ b o its n, h.get? b = some o → o.data = .seq its n → h'.get? b = some o) : Tups (Hc h) (Hc h') := fun b xs e => by
  obtain ⟨ys, e1, z, its, r, o, q, c, n, d⟩ := hc_at e
  cases e1
  have q' := k b o _ n q d
  exact hc_of ⟨tupD_at z.1 q' (z.2 _ q), its, r, o, q', c, n, d⟩
mutual
def hashD (w : World) : Dt → Int
  | .int i => hashInt i
  | .str x => hashStr w x
  | .tup ds => reduceHash (Builtin.Tuple.tupleHashOf (hashDs w ds))
def hashDs (w : World) : List Dt → List Int
  | [] => []
  | d :: ds => hashD w d :: hashDs w ds
end
mutual
def drawD : Dt → Nat
  | .int _ => 1
  | .str _ => 1
  | .tup ds => drawDs ds + 1
def drawDs : List Dt → Nat
  | [] => 0
  | d :: ds => drawD d + drawDs ds
end
theorem hashDs_append (w : World) : ∀ (a b : List Dt), hashDs w (a ++ b) = hashDs w a ++ hashDs w b
  | [], b => by simp [hashDs]
  | d :: a, b => by simp [hashDs, hashDs_append w a b]
theorem drawDs_append : ∀ (a b : List Dt), drawDs (a ++ b) = drawDs a + drawDs b
  | [], b => by simp [drawDs]
  | d :: a, b => by simp [drawDs, drawDs_append a b]; omega
section
variable {P : Program} {w : World} {H : Hp}
theorem depL_le {n : Nat} : ∀ {ds : List Dt}, depL ds ≤ n → ∀ d ∈ ds, d.dep ≤ n := fun h d hd => Nat.le_trans (dep_mem hd) h
theorem pyHash_D : ∀ (n : Nat) (A : Around) (E : Value → Shared → Prop) (s : Shared) (d : Dt) (v : V) (x : Value) (Q : Int → Shared → Prop), HOk P w H s.heap → d.dep ≤ n → A.units + n < cLine → IsDt H d v → RelV v x →
    Q (hashD w d) { s with toks := s.toks + drawD d } → wpAny (model P w) A (pyHash x) Q E s := by
  intro n
  induction n with
  | zero =>
    intro A E s d v x Q ok hd hu iv rv q
    cases d with
    | int i => rw [IsDt] at iv; subst iv; obtain ⟨t, rfl⟩ := rv; exact wpAny_pyHash_int q
    | str i => rw [IsDt] at iv; subst iv; obtain ⟨t, rfl⟩ := rv; exact wpAny_pyHash_str q
    | tup ds => rw [Dt.dep] at hd; omega
  | succ n ih =>
    intro A E s d v x Q ok hd hu iv rv q
    cases d with
    | int i => rw [IsDt] at iv; subst iv; obtain ⟨t, rfl⟩ := rv; exact wpAny_pyHash_int q
    | str i => rw [IsDt] at iv; subst iv; obtain ⟨t, rfl⟩ := rv; exact wpAny_pyHash_str q
    | tup ds =>
      rw [Dt.dep] at hd
      rw [IsDt] at iv
      obtain ⟨a, xs, rfl, h1, h2⟩ := iv
      cases rv
      obtain ⟨_, its, r, o, ho, hc, k, hdat⟩ := ok a _ h1
      have hT : s.TypeIs (.ref a) "tuple" := ⟨o, ho, hc⟩
      have row := drow_of h2 r
      unfold pyHash
      first | unfold pyHashByItsType | skip
      first | refine wpAny_bind (wpAny_cRoomFor_or (.inr (by omega)) ?_) | skip
      refine wpAny_bind (wpAny_specialOf hT F.slot_tuple_hash.lookup ?_)
      show wpAny _ _ (if (some (Value.builtin "tuple.__hash__") == some Value.none) = true then _ else _) Q E s
      rw [if_neg (by rw [beq_builtin_none]; exact Bool.false_ne_true)]
      refine wpAny_bind (wpAny_specialOf hT F.slot_tuple_hash.lookup ?_)
      show wpAny _ _ (callSpecialIfBoundUnlessNone? (.ref a) "__hash__" _ >>= _) Q E s
      refine wpAny_bind (wpAny_callSpecialIfBoundUnlessNone?_slot hT F.slot_tuple_hash (wpAny_call_entry F.slot_tuple_hash hT F.entry_tuple_hash ?_ (F.args_tuple_hash_1 _)))
      show wpAny _ _ (Builtin.Tuple.tupleItemsOf (.ref a) >>= _) _ _ s
      refine wpAny_bind (wpAny_tupleItemsOf ho hdat ?_)
      refine wpAny_bind ?_
      rw [← Array.forIn_toList]
      refine wpAny_forIn_list _
        (fun rest (b : Array Int) s' => ∃ done left, ds = done ++ left ∧ DRow H left rest ∧ b.toList = hashDs w done ∧ s' = { s with toks := s.toks + drawDs done })
        _ ?_ ?_ _ _ ⟨[], ds, rfl, by simpa using row, rfl, rfl⟩
      · rintro x rest b s' ⟨done, left, rfl, hl, hb, rfl⟩
        cases hl with
        | @cons e ev ex ks' us' ie re hl' =>
          have de : e.dep ≤ n := by have := depL_le (n := n) (ds := done ++ e :: ks') (by omega) e (by simp); exact this
          refine wpAny_bind (ih A.in1 _ { s with toks := s.toks + drawDs done } e ev x _ ok de (by show A.units + 1 + n < cLine; omega) ie re ?_)
          have fin : ∃ done' left', done ++ e :: ks' = done' ++ left' ∧ DRow H left' rest ∧ (b.push (hashD w e)).toList = hashDs w done' ∧ ({ s with toks := s.toks + drawDs done + drawD e } : Shared) = { s with toks := s.toks + drawDs done' } :=
            ⟨done ++ [e], ks', by simp, hl', by simp [hb, hashDs_append, hashDs], by simp [drawDs_append, drawDs, Nat.add_assoc]⟩
          first
            | exact wpAny_pure fin
            | exact wpAny_bind (wpAny_pure (wpAny_pure fin))
      · rintro b s' ⟨done, left, rfl, hl, hb, rfl⟩
        cases hl
        rw [List.append_nil] at q
        show wpAny _ _ (retInt (Builtin.Tuple.tupleHashOf b.toList)) _ _ _
        rw [hb]
        refine wpAny_ret_mkInt ?_
        show wpAny _ _ (if (decide (-(2 : Int) ^ 63 ≤ Builtin.Tuple.tupleHashOf (hashDs w done)) && decide (Builtin.Tuple.tupleHashOf (hashDs w done) < 2 ^ 63)) = true then _ else _) Q E _
        rw [hashD, drawD] at q
        unfold reduceHash at q
        by_cases hr : (decide (-(2 : Int) ^ 63 ≤ Builtin.Tuple.tupleHashOf (hashDs w done)) && decide (Builtin.Tuple.tupleHashOf (hashDs w done) < 2 ^ 63)) = true
        · rw [if_pos hr]
          rw [if_pos hr] at q
          exact wpAny_pure (by simpa [Nat.add_assoc] using q)
        · rw [if_neg hr]
          rw [if_neg hr] at q
          exact wpAny_bind (wpAny_rule (wpAny_pure (by simpa [Nat.add_assoc] using q)))
theorem quiet_D : ∀ (n : Nat) (A : Around) (E : Value → Shared → Prop) (s : Shared) (d : Dt) (v : V) (x : Value) (Q : Bool → Shared → Prop), HOk P w H s.heap → d.dep ≤ n → IsDt H d v → RelV v x → Q true s → wpAny (model P w) A (eqIsQuiet n x) Q E s := by
  intro n
  induction n with
  | zero =>
    intro A E s d v x Q ok hd iv rv q
    cases d with
    | int i => rw [IsDt] at iv; subst iv; obtain ⟨t, rfl⟩ := rv; rw [eqIsQuiet_byValue _ rfl]; exact wpAny_pure q
    | str i => rw [IsDt] at iv; subst iv; obtain ⟨t, rfl⟩ := rv; rw [eqIsQuiet_byValue _ rfl]; exact wpAny_pure q
    | tup ds => rw [Dt.dep] at hd; omega
  | succ n ih =>
    intro A E s d v x Q ok hd iv rv q
    cases d with
    | int i => rw [IsDt] at iv; subst iv; obtain ⟨t, rfl⟩ := rv; rw [eqIsQuiet_byValue _ rfl]; exact wpAny_pure q
    | str i => rw [IsDt] at iv; subst iv; obtain ⟨t, rfl⟩ := rv; rw [eqIsQuiet_byValue _ rfl]; exact wpAny_pure q
    | tup ds =>
      rw [Dt.dep] at hd
      rw [IsDt] at iv
      obtain ⟨a, xs, rfl, h1, h2⟩ := iv
      cases rv
      obtain ⟨_, its, r, o, ho, hc, k, hdat⟩ := ok a _ h1
      have hT : s.TypeIs (.ref a) "tuple" := ⟨o, ho, hc⟩
      have row := drow_of h2 r
      unfold eqIsQuiet
      refine wpAny_bind (wpAny_specialOf hT F.slot_tuple_eq.lookup ?_)
      show wpAny _ _ (isInstance (.ref a) (.type "tuple") >>= _) _ _ s
      refine wpAny_bind (wpAny_isInstance hT isSubtype_tuple_tuple ?_)
      simp only [Bool.not_true, Bool.false_eq_true, if_false]
      refine wpAny_bind (wpAny_seqItems ho hdat ?_)
      refine wpAny_bind ?_
      show wpAny _ _ (forIn its.toArray _ _) _ _ s
      rw [← Array.forIn_toList]
      refine wpAny_forIn_list _ (fun rest r s' => r.1 = none ∧ s' = s ∧ ∃ left, DRow H left rest ∧ depL left ≤ n) _ ?_ ?_ _ _ ⟨rfl, rfl, ds, by simpa using row, by omega⟩
      · rintro v rest r s' ⟨hr, rfl, left, hl, hdl⟩
        cases hl with
        | @cons e ev ex ks' us' ie re hl' =>
          rw [depL] at hdl
          refine wpAny_bind (ih A E s' e ev v _ ok (by omega) ie re ?_)
          simp only [Bool.not_true, Bool.false_eq_true, if_false]
          exact wpAny_pure ⟨rfl, rfl, ks', hl', by omega⟩
      · rintro ⟨r1, r2⟩ s' ⟨hr, rfl, _⟩
        simp only at hr
        subst hr
        exact wpAny_pure q
end
/-- keys: tuples of data, some levels deep -/
noncomputable def datKind (P : Program) (w : World) : HeapKind P w (List Dt) where
  is := fun h ds a => IsDt (Hc h) (.tup ds) (.ref a) ∧ depL ds ≤ 7
  hash := fun ds => hashD w (.tup ds)
  draws := fun ds => drawD (.tup ds)
  room := fun A => A.units + 20 < cLine
  inj := fun hx hy => by have := hx.1.inj hy.1; injection this
  keeps := fun x ho hd hs => ⟨x.1.mono (hc_keep fun b o its n q dq => (hs.2 b (by rintro rfl; rw [ho] at q; cases q; rw [hd] at dq; cases dq)).trans q), x.2⟩
  pyHash := fun hu hk h => pyHash_D (H := Hc _) 8 _ _ _ _ _ _ _ (hc_ok _) (by rw [Dt.dep]; have := hk.2; omega) (by omega) hk.1 rfl h
  eqBool := fun {A E s x y a b Q} hu hx hy h => by
    have := eqAt_D (P := P) (w := w) (H := Hc s.heap) 8 A s (.tup x) (.tup y) (.ref a) (.ref b) (.ref a) (.ref b) (hc_ok _) (by rw [Dt.dep]; have := hx.2; omega) (by omega) hx.1 hy.1 rfl rfl
    refine this P w E Q ?_
    have z : decide (Dt.tup x = Dt.tup y) = decide (x = y) := by rw [Bool.eq_iff_iff]; simp
    rw [z]
    exact h
  quiet := fun hk h => quiet_D (H := Hc _) 8 _ _ _ _ _ _ _ (hc_ok _) (by rw [Dt.dep]; have := hk.2; omega) hk.1 rfl h
end L2
end
section
set_option Elab.async false
set_option linter.all false
set_option maxRecDepth 100000
set_option maxHeartbeats 4000000
namespace L2
open PySem PySem.Spec PyProof.Rows PySem.W
/-! ### dict(pairs): the call -/
structure PSrc (prog : Program) (w : World) (T : String) (r : Addr) (n : Nat) (P : Nat → Value → Prop) (OK : Heap → Prop) : Prop where
  type : ∀ s : Shared, OK s.heap → s.TypeIs (.ref r) T
  there : ∀ h : Heap, OK h → r < h.objs.size
  keep : ∀ h h' : Heap, OK h → (∀ o, h.get? r = some o → h'.get? r = some o) → OK h'
  notDict : (Value.type T != Value.type "dict") = true
  noKeys : ∀ (A : Around) (E : Value → Shared → Prop) (s : Shared) (Q : Option Value → Shared → Prop), A.handled = none → OK s.heap → (∀ h' tk, (∀ b o, s.heap.get? b = some o → h'.get? b = some o) → Q none { s with heap := h', toks := tk }) → wpAny (model prog w) A (getAttr? (.ref r) "keys") Q E s
  iter : ∀ (A : Around) (s : Shared), A.handled = none → OK s.heap → ∃ (oI : Obj) (St : Nat → Heap → Prop),
    (∀ (E : Value → Shared → Prop) (Q : Value → Shared → Prop), Q (.ref s.heap.objs.size) { s with heap := s.heap.push oI } → wpAny (model prog w) A (pyIter (.ref r)) Q E s) ∧
    Walks prog w A s.heap.objs.size [s.heap.objs.size, r] [s.heap.objs.size] n P St ∧ St 0 (s.heap.push oI)
section
variable {prog : Program} {w : World} {A : Around} {E : Value → Shared → Prop} {s : Shared} {T : String} {r : Addr} {n : Nat} {P : Nat → Value → Prop} {OK : Heap → Prop}
theorem psrc_list {k : Nat} {its : Array Value} : PSrc prog w "list" r its.size (fun i v => its[i]? = some v) (fun h => h.get? r = some { cls := .type "list", data := .seq its k }) where
  type := fun s h => ⟨_, h, rfl⟩
  there := fun h e => Heap.lt_size e
  keep := fun h h' e k => k _ e
  notDict := by decide
  noKeys := fun A E s Q hA e q => noKeys_list e rfl rfl rfl hA q
  iter := fun A s hA e => by
    have hl : s.heap.IsList r its := ⟨_, e, rfl, k, rfl⟩
    have ne : r ≠ s.heap.objs.size := Nat.ne_of_lt (Heap.lt_size e)
    exact ⟨_, _, fun _ _ q => wpAny_pyIter_list hl q, Walks.list hA s.heap.objs.size r ne its, ⟨⟨_, Heap.get?_push_size _ rfl, rfl, rfl⟩, hl.push _⟩⟩
theorem psrc_tup {its : Array Value} : PSrc prog w "tuple" r its.size (fun i v => its[i]? = some v) (fun h => ∃ o k, h.get? r = some o ∧ o.cls = .type "tuple" ∧ o.data = .seq its k ∧ o.dict = none) where
  type := fun s ⟨o, k, h, c, _⟩ => ⟨_, h, c⟩
  there := fun h ⟨o, k, e, _⟩ => Heap.lt_size e
  keep := fun h h' ⟨o, k, e, c⟩ q => ⟨o, k, q _ e, c⟩
  notDict := by decide
  noKeys := fun A E s Q hA ⟨o, k, e, c, d, z⟩ q => noKeys_tuple e c d z hA q
  iter := fun A s hA ⟨o, k, e, c, d, z⟩ => by
    have hl : s.heap.IsTuple r its := ⟨o, e, c, k, d⟩
    have ne : r ≠ s.heap.objs.size := Nat.ne_of_lt (Heap.lt_size e)
    exact ⟨_, _, fun _ _ q => wpAny_pyIter_tuple hl q, Walks.tuple hA s.heap.objs.size r ne its, ⟨⟨_, Heap.get?_push_size _ rfl, rfl, rfl⟩, hl.push _⟩⟩
theorem call_dictP {DK : Nat → Heap → Prop} {Q : Value → Shared → Prop} (K : PSrc prog w T r n P OK) (hA : A.handled = none) (hok : OK s.heap) (d0 : DK 0 (s.heap.push { cls := .type "dict", data := .dict #[] }))
    (hfr : ∀ i h h' (it : Addr), s.heap.objs.size < it → DK i h → (∀ b o, b ≠ it → h.get? b = some o → h'.get? b = some o) → DK i h') (put : ∀ A' : Around, A'.units ≤ A.units + 5 → PutsAt prog w A' s.heap.objs.size n P DK)
    (h : ∀ h' tk, DK n h' → (∀ b o, s.heap.get? b = some o → h'.get? b = some o) → Q (.ref s.heap.objs.size) { s with heap := h', toks := tk }) : wpAny (model prog w) A (call (.type "dict") [.ref r]) Q E s := by
  refine callType_codes (Q₁ := fun obj s₁ => obj = .ref s.heap.objs.size ∧ s₁ = { s with heap := s.heap.push { cls := .type "dict", data := .dict #[] } }) F.kt_called_dict (F.kt_typeCall_dict_1 _) F.entry_dict_init (kt_code_dict_new _ ⟨rfl, rfl⟩) ?_
  rintro obj s₁ ⟨rfl, rfl⟩
  have k1 : ∀ b o, s.heap.get? b = some o → (s.heap.push { cls := .type "dict", data := .dict #[] }).get? b = some o := fun b o e => Heap.get?_push_of_some _ e
  have ok1 : OK (s.heap.push { cls := .type "dict", data := .dict #[] }) := K.keep _ _ hok fun o e => k1 _ o e
  have hT0 : (Shared.TypeIs { s with heap := s.heap.push { cls := .type "dict", data := .dict #[] } } (.ref s.heap.objs.size) "dict") := ⟨_, Heap.get?_push_size _ rfl, rfl⟩
  refine ⟨hT0, F.args_dict_init_2 _ _, ?_⟩
  unfold Builtin.«dict.__init__»
  refine wpAny_bind ?_
  unfold Builtin.Dict.selfAndRest
  refine wpAny_bind (wpAny_notOrdered_dict hT0 ?_)
  show wpAny _ _ (pure (s.heap.objs.size, [Value.ref r])) _ _ _
  refine wpAny_pure ?_
  show wpAny _ _ (Builtin.Dict.updateFrom "dict.__init__" s.heap.objs.size (.ref r) [] .none) _ _ _
  unfold Builtin.Dict.updateFrom
  refine wpAny_bind (wpAny_typeOf (K.type _ ok1) ?_)
  rw [if_pos K.notDict]
  refine wpAny_bind (K.noKeys A.in1.in1 _ { s with heap := s.heap.push { cls := .type "dict", data := .dict #[] } } _ hA ok1 fun h2 tk2 k2 => ?_)
  simp only [Option.isNone_none, if_true]
  refine wpAny_bind (wpAny_rule ?_)
  have ok2 : OK h2 := K.keep _ _ ok1 fun o e => k2 _ o e
  obtain ⟨oI, St, hit, W, st⟩ := K.iter A.in1.in1 { s with heap := h2, toks := tk2 } hA ok2
  have lt2 : s.heap.objs.size < h2.objs.size := Heap.lt_size (k2 _ _ (Heap.get?_push_size _ rfl))
  refine wpAny_bind (hit _ _ ?_)
  have hr : r < s.heap.objs.size := K.there _ hok
  have loop := codeAny_update_loop (A := A.in1) (R := wants (fun r' s₂ => r' = .none ∧ Q (.ref s.heap.objs.size) s₂) E) (DK := DK) W s.heap.objs.size (by
      simp only [List.mem_cons, List.not_mem_nil, or_false, not_or]
      exact ⟨Nat.ne_of_lt lt2, Nat.ne_of_gt hr⟩)
    (fun i h h' x k => hfr i h h' h2.objs.size lt2 x fun b o hb e => k b o (by simpa using hb) e) (put _ (by show A.units + 1 + 1 ≤ _; omega)) .none n 0 0 { s with heap := h2.push oI, toks := tk2 } rfl (Nat.zero_le _) st
    (hfr 0 _ _ h2.objs.size lt2 d0 fun b o _ e => Heap.get?_push_of_some _ (k2 b o e)) (fun h' tk hD hk => ⟨rfl, h h' tk hD fun b o e => hk b o (by
      have hb := Heap.lt_size e
      simp only [List.mem_cons, List.not_mem_nil, or_false, not_or]
      exact ⟨Nat.ne_of_lt hb, Nat.ne_of_lt (Nat.lt_trans hb lt2)⟩) (Heap.get?_push_of_some _ (k2 b o (k1 b o e)))⟩)
  first
    | exact wpAny_pure ⟨plainId_quiet plain_update_loop _, loop⟩
    | exact wpAny_pure (wpAny_pure ⟨plainId_quiet plain_update_loop _, loop⟩)
    | exact wpAny_bind (wpAny_pure (wpAny_pure ⟨plainId_quiet plain_update_loop _, loop⟩))
end
end L2
end
section
set_option Elab.async false
set_option linter.all false
set_option maxRecDepth 100000
set_option maxHeartbeats 4000000
namespace L2
open PySem PySem.Spec PyProof.Rows PySem.W
/-! ### dict(pairs), d.get(k, x): rules -/
def mergeG {κ : Type} [DecidableEq κ] (kvs more : List (κ × V)) : List (κ × V) := more.foldl (fun acc kv => putK acc kv.1 kv.2) kvs
theorem mergeG_len {κ : Type} [DecidableEq κ] : ∀ (more kvs : List (κ × V)), (mergeG kvs more).length ≤ kvs.length + more.length
  | [], kvs => by simp [mergeG]
  | p :: more, kvs => by
    have h1 := mergeG_len more (putK kvs p.1 p.2)
    have h2 := length_putK kvs p.1 p.2
    have e : mergeG kvs (p :: more) = mergeG (putK kvs p.1 p.2) more := rfl
    rw [e, List.length_cons]
    omega
theorem mergeG_take {κ : Type} [DecidableEq κ] {kvs : List (κ × V)} {i : Nat} {p : κ × V} (h : kvs[i]? = some p) : mergeG [] (kvs.take (i + 1)) = putK (mergeG [] (kvs.take i)) p.1 p.2 := by
  rw [List.take_add_one, h]
  unfold mergeG
  rw [List.foldl_append]
  rfl
theorem valV_merge {κ : Type} [DecidableEq κ] (k : κ) : ∀ (more kvs : List (κ × V)), valV (mergeG kvs more) k = match valV more.reverse k with | some v => some v | none => valV kvs k
  | [], kvs => by simp [mergeG, valV_nil]
  | p :: more, kvs => by
    have e : mergeG kvs (p :: more) = mergeG (putK kvs p.1 p.2) more := rfl
    rw [e, valV_merge k more]
    have a : ∀ (l : List (κ × V)), valV (l ++ [p]) k = match valV l k with | some v => some v | none => valV [p] k := by
      intro l
      induction l with
      | nil => rfl
      | cons q l ih =>
        rw [List.cons_append]
        by_cases h : q.1 = k
        · rw [valV_pos h, valV_pos h]
        · rw [valV_neg h, valV_neg h]; exact ih
    rw [List.reverse_cons, a]
    cases valV more.reverse k with
    | some v => rfl
    | none =>
      dsimp only
      rw [valV_put]
      by_cases h : k = p.1
      · rw [if_pos h, valV_pos h.symm]
      · rw [if_neg h, valV_neg (fun z => h z.symm), valV_nil]
/-- a row of pairs, each a tuple of a key and a value -/
def PairsK (H : Hp) : List (Key × V) → List V → Prop := Paired fun kv x => ∃ a, x = .ref a ∧ H a = some (.tup [kV kv.1, kv.2])
def PairsN (H : Hp) : List (List Dt × V) → List V → Prop := Paired fun kv x => ∃ a y, x = .ref a ∧ H a = some (.tup [y, kv.2]) ∧ IsDt H (.tup kv.1) y ∧ depL kv.1 ≤ 7
theorem paired_get {α β : Type} {F : α → β → Prop} : ∀ {l : List α} {m : List β} {i : Nat} {b : β}, Paired F l m → m[i]? = some b → ∃ a, l[i]? = some a ∧ F a b
  | _, _, _, _, .nil, e => by simp at e
  | _, _, 0, _, .cons r _, e => by simp at e; subst e; exact ⟨_, rfl, r⟩
  | _, _, i + 1, _, .cons _ t, e => by
    obtain ⟨a, h1, h2⟩ := paired_get (i := i) t (by simpa using e)
    exact ⟨a, by simpa using h1, h2⟩
section
variable {X : Cx}
/-- the list or tuple at r -/
def SqA (H : Hp) (r : Addr) (xs : List V) : Prop := H r = some (.lst xs) ∨ H r = some (.tup xs)
theorem sqA_src {pins : List (Addr × Obj)} {s : Shared} {σ : St} {H : Hp} {r : Addr} {xs : List V} (I : Inv X pins σ H s) (h : SqA H r xs) : ∃ (T : String) (its : List Value) (OK : Heap → Prop), Vals xs its ∧ xs.length ≤ sizeLine ∧ OK s.heap ∧ PSrc X.prog X.w T r its.toArray.size (fun i v => its.toArray[i]? = some v) OK := by
  rcases h with h | h
  · obtain ⟨z, its, n, rv, ho⟩ := I.hok r _ h
    exact ⟨_, its, _, rv, z, ho, psrc_list (k := n)⟩
  · obtain ⟨z, its, rv, o, ho, hc, n, hd⟩ := I.hok r _ h
    exact ⟨_, its, _, rv, z.1, ⟨o, n, ho, hc, hd, z.2 o ho⟩, psrc_tup⟩
def rDictK : List V → Hp → VK → Prop := fun ws H Q => ∃ (r : Addr) (xs : List V) (kvs : List (Key × V)), ws = [.ref r] ∧ SqA H r xs ∧ PairsK H kvs xs ∧ ∀ p, H p = none → Q (.ref p) (upd H p (.dK (mergeG [] kvs)))
theorem call_dictK (hc : X.calm = true) : CallR X (.type "dict") rDictK := by
  intro pins s σ H ws us Q I r h
  obtain ⟨a, xs, kvs, rfl, ha, hp, q⟩ := h
  obtain ⟨u, rfl, ru⟩ := r.one
  cases ru
  have hh := I.ok.hd hc
  obtain ⟨T, its, OK, rv, hz, hok, S⟩ := sqA_src I ha
  have fr : H s.heap.objs.size = none := I.hok.fresh (Nat.le_refl _)
  have lk : kvs.length = xs.length := Paired.length hp
  refine call_dictP (DK := fun i h => HOk X.prog X.w H h ∧ ∃ vs, KV (mergeG [] (kvs.take i)) vs ∧ h.DictOf (mixKind X.prog X.w) s.heap.objs.size vs) S hh hok ⟨I.hok.kept fun b o e => Heap.get?_push_of_some _ e, [], .nil, Heap.DictOf.new _⟩ (fun i h h' it hit x k => ?_) (fun A' hA' i v s' hi hP hD => ?_) fun h' tk hD keep => ?_
  · obtain ⟨ok, vs, rel, o, es, ep, e, rest⟩ := x
    exact ⟨ok.but (I.hok.fresh (Nat.le_of_lt hit)) k, vs, rel, o, es, ep, k _ _ (Nat.ne_of_lt hit) e, rest⟩
  · obtain ⟨ok, vs, rel, dd⟩ := hD
    have e1 : its[i]? = some v := by simpa using hP
    obtain ⟨x, x1, x2⟩ := vals_get rv e1
    obtain ⟨kv, k1, b, rfl, k3⟩ := paired_get hp x1
    cases x2
    obtain ⟨_, its2, r2, o, ho, hcl, n, hd⟩ := ok b _ k3
    cases r2 with
    | @cons _ uk _ _ rk r3 =>
    cases r3 with
    | @cons _ ux _ _ rx r4 =>
    cases r4
    refine ⟨b, o, _, n, uk, ux, rfl, ho, hcl, hd, rfl, fun Q E hq => ?_⟩
    have hv : vs.length ≤ sizeLine := by
      rw [← rel.length]
      have := mergeG_len (kvs.take i) ([] : List (Key × V))
      rw [List.length_take, List.length_nil] at this
      omega
    refine wpAny_dictSet_pairs (hsz := hv) (kV_is rk) dd fun h2 dd2 sb => hq _ _ ⟨ok.but fr fun b o hb e => sb.extBut b o hb e, _, ?_, dd2⟩ sb
    rw [mergeG_take k1]
    exact rel.put kv.1 rx
  · obtain ⟨ok, vs, rel, dd⟩ := hD
    have ls : its.toArray.size = kvs.length := by rw [List.size_toArray, ← rv.length, lk]
    rw [ls, List.take_length] at rel
    have big : (s.heap.objs.size == sysModules) = false := by
      have := I.big
      simp only [beq_eq_false_iff_ne]
      exact Nat.ne_of_gt this
    have hl : (mergeG [] kvs).length ≤ sizeLine := by
      have := mergeG_len kvs ([] : List (Key × V))
      rw [List.length_nil] at this
      omega
    exact ⟨.ref s.heap.objs.size, _, I.laid (t' := tk) (o := .dK (mergeG [] kvs)) keep (Nat.le_refl _) ⟨hl, big, vs, rel, dd⟩, rfl, q _ fr⟩
/-! #### keys that are nested tuples -/
abbrev KN : List (List Dt × V) → List (List Dt × Addr × Value) → Prop := Paired fun p q => p.1 = q.1 ∧ RelV p.2 q.2.2
theorem KN.val {kvs : List (List Dt × V)} {xs : List (List Dt × Addr × Value)} (r : KN kvs xs) (k : List Dt) : RelO (valV kvs k) ((atKey xs k).map (·.2)) := by
  induction r with
  | nil => exact True.intro
  | @cons p q ps qs h t ih =>
    obtain ⟨h1, h2⟩ := h
    by_cases e : p.1 = k
    · have e' : q.1 = k := h1.symm.trans e
      have b : atKey (q :: qs) k = some q.2 := by simp [atKey, List.find?_cons, e']
      rw [valV_pos e, b]; exact h2
    · have e' : ¬ q.1 = k := fun z => e (h1.trans z)
      have b : atKey (q :: qs) k = atKey qs k := by simp [atKey, List.find?_cons, e']
      rw [valV_neg e, b]; exact ih
theorem KN.repl {kvs : List (List Dt × V)} {xs : List (List Dt × Addr × Value)} (r : KN kvs xs) (k : List Dt) {y : V} {u : Value} (ry : RelV y u) :
    KN (kvs.map fun kv => if kv.1 = k then (kv.1, y) else kv) (xs.map (putAt k u)) := by
  induction r with
  | nil => exact .nil
  | @cons p q ps qs h t ih =>
    rw [List.map_cons, List.map_cons]
    refine .cons ?_ ih
    obtain ⟨h1, h3⟩ := h
    unfold putAt
    by_cases e : p.1 = k
    · rw [if_pos e, if_pos (h1.symm.trans e)]; exact ⟨h1, ry⟩
    · rw [if_neg e, if_neg (fun z => e (h1.trans z))]; exact ⟨h1, h3⟩
theorem KN.put {kvs : List (List Dt × V)} {xs : List (List Dt × Addr × Value)} (r : KN kvs xs) (k : List Dt) {b : Addr} {y : V} {u : Value} (ry : RelV y u) :
    KN (putK kvs k y) (storedH xs k b u) := by
  have e : (kvs.any fun kv => decide (kv.1 = k)) = (atKey xs k).isSome := by
    rw [valV_any, (r.val k).isSome_eq, Option.isSome_map]
  unfold putK storedH
  rw [e]
  by_cases q : (atKey xs k).isSome = true
  · rw [if_pos q, if_pos q]; exact r.repl k ry
  · rw [if_neg q, if_neg q]; exact Paired.snoc r ⟨rfl, ry⟩
/-- the dict at p, its keys (nested tuples, at bs) and values -/
def DNo (P : Program) (w : World) (p : Addr) (bs : List Addr) (dvs : List (List Dt × V)) : Heap → Prop := fun h => (p == sysModules) = false ∧ ∃ (xs : List (List Dt × Addr × Value)) (o : Obj) (es : Array DictEntry) (ep : Nat), KN dvs xs ∧ xs.map (·.2.1) = bs ∧ h.get? p = some o ∧ o.ExactDict ∧ o.data = .dict es ep ∧ es.toList = xs.map (entryOfKey (datKind P w)) ∧ (xs.map (·.1)).Nodup
def IsDN (P : Program) (w : World) (H : Hp) (p : Addr) (dvs : List (List Dt × V)) : Prop := ∃ bs, H p = some (.ext (DNo P w p bs dvs)) ∧ Paired (fun (dv : List Dt × V) b => IsDt H (.tup dv.1) (.ref b) ∧ depL dv.1 ≤ 7) dvs bs
theorem IsDN.mono {P : Program} {w : World} {H H' : Hp} {p : Addr} {dvs : List (List Dt × V)} (t : Tups H H') (e : H' p = H p) (h : IsDN P w H p dvs) : IsDN P w H' p dvs := by
  obtain ⟨bs, h1, h2⟩ := h
  exact ⟨bs, by rw [e]; exact h1, Paired.mapP h2 fun _ _ z => ⟨z.1.mono t, z.2⟩⟩
theorem paired_swap {dvs : List (List Dt × V)} {xs : List (List Dt × Addr × Value)} {H : Hp} (r : KN dvs xs) (h : ∀ q ∈ xs, IsDt H (.tup q.1) (.ref q.2.1) ∧ depL q.1 ≤ 7) : Paired (fun (dv : List Dt × V) b => IsDt H (.tup dv.1) (.ref b) ∧ depL dv.1 ≤ 7) dvs (xs.map (·.2.1)) := by
  induction r with
  | nil => exact .nil
  | @cons p q ps qs hq t ih =>
    rw [List.map_cons]
    refine .cons ?_ (ih fun z hz => h z (List.mem_cons_of_mem _ hz))
    rw [hq.1]
    exact h q List.mem_cons_self
theorem paired_back {dvs : List (List Dt × V)} {xs : List (List Dt × Addr × Value)} {H : Hp} (r : KN dvs xs) (h : Paired (fun (dv : List Dt × V) b => IsDt H (.tup dv.1) (.ref b) ∧ depL dv.1 ≤ 7) dvs (xs.map (·.2.1))) : ∀ q ∈ xs, IsDt H (.tup q.1) (.ref q.2.1) ∧ depL q.1 ≤ 7 := by
  induction r with
  | nil => intro q hq; exact nomatch hq
  | @cons p q ps qs hq t ih =>
    rw [List.map_cons] at h
    cases h with
    | cons h1 h2 =>
      intro z hz
      rcases List.mem_cons.mp hz with e | hz
      · subst e; rw [← hq.1]; exact h1
      · exact ih h2 z hz
theorem stored_all {xs : List (List Dt × Addr × Value)} {H : Hp} {k : List Dt} {b : Addr} {u : Value} (h : ∀ q ∈ xs, IsDt H (.tup q.1) (.ref q.2.1) ∧ depL q.1 ≤ 7) (hk : IsDt H (.tup k) (.ref b) ∧ depL k ≤ 7) : ∀ q ∈ storedH xs k b u, IsDt H (.tup q.1) (.ref q.2.1) ∧ depL q.1 ≤ 7 := by
  intro q hq
  unfold storedH at hq
  split at hq
  · obtain ⟨z, hz, rfl⟩ := List.mem_map.mp hq
    unfold putAt
    split
    · exact h z hz
    · exact h z hz
  · rcases List.mem_append.mp hq with hq | hq
    · exact h q hq
    · have : q = (k, b, u) := by simpa using hq
      subst this
      exact hk
theorem dictH_of {P : Program} {w : World} {H : Hp} {h : Heap} {d : Addr} {xs : List (List Dt × Addr × Value)} {o : Obj} {es : Array DictEntry} {ep : Nat} (ok : HOk P w H h) (hx : ∀ q ∈ xs, IsDt H (.tup q.1) (.ref q.2.1) ∧ depL q.1 ≤ 7) (h1 : h.get? d = some o) (h2 : o.ExactDict) (h3 : o.data = .dict es ep) (h4 : es.toList = xs.map (entryOfKey (datKind P w))) (h5 : (xs.map (·.1)).Nodup) :
    h.DictOfH (datKind P w) d xs := ⟨o, es, ep, h1, h2, h3, h4, fun x hx' => ⟨(hx x hx').1.mono (hc_sub ok), (hx x hx').2⟩, h5⟩
def rDictN (P : Program) (w : World) : List V → Hp → VK → Prop := fun ws H Q => ∃ (r : Addr) (xs : List V) (dvs : List (List Dt × V)), ws = [.ref r] ∧ SqA H r xs ∧ PairsN H dvs xs ∧ ∀ (p : Addr) (φ : Heap → Prop), H p = none → IsDN P w (upd H p (.ext φ)) p (mergeG [] dvs) → Q (.ref p) (upd H p (.ext φ))
theorem call_dictN (hc : X.calm = true) (hu : X.A.units + 110 < cLine) : CallR X (.type "dict") (rDictN X.prog X.w) := by
  intro pins s σ H ws us Q I r h
  obtain ⟨a, xs, dvs, rfl, ha, hp, q⟩ := h
  obtain ⟨u, rfl, ru⟩ := r.one
  cases ru
  have hh := I.ok.hd hc
  obtain ⟨T, its, OK, rv, hz, hok, S⟩ := sqA_src I ha
  have fr : H s.heap.objs.size = none := I.hok.fresh (Nat.le_refl _)
  have lk : dvs.length = xs.length := Paired.length hp
  refine call_dictP (DK := fun i h => HOk X.prog X.w H h ∧ ∃ ts, KN (mergeG [] (dvs.take i)) ts ∧ (∀ q ∈ ts, IsDt H (.tup q.1) (.ref q.2.1) ∧ depL q.1 ≤ 7) ∧ ∃ (o : Obj) (es : Array DictEntry) (ep : Nat), h.get? s.heap.objs.size = some o ∧ o.ExactDict ∧ o.data = .dict es ep ∧ es.toList = ts.map (entryOfKey (datKind X.prog X.w)) ∧ (ts.map (·.1)).Nodup) S hh hok
    ⟨I.hok.kept fun b o e => Heap.get?_push_of_some _ e, [], .nil, fun _ hx => (nomatch hx), _, #[], 0, Heap.get?_push_size _ rfl, ⟨rfl, rfl, rfl⟩, rfl, rfl, List.nodup_nil⟩ (fun i h h' it hit x k => ?_) (fun A' hA' i v s' hi hP hD => ?_) fun h' tk hD keep => ?_
  · obtain ⟨ok, ts, rel, all, o, es, ep, e, rest⟩ := x
    exact ⟨ok.but (I.hok.fresh (Nat.le_of_lt hit)) k, ts, rel, all, o, es, ep, k _ _ (Nat.ne_of_lt hit) e, rest⟩
  · obtain ⟨ok, ts, rel, all, od, es, ep, o1, o2, o3, o4, o5⟩ := hD
    have e1 : its[i]? = some v := by simpa using hP
    obtain ⟨x, x1, x2⟩ := vals_get rv e1
    obtain ⟨kv, k1, b, y, rfl, k3, k4, k5⟩ := paired_get hp x1
    cases x2
    obtain ⟨_, its2, r2, o, ho, hcl, n, hd⟩ := ok b _ k3
    have k4' := k4
    rw [IsDt] at k4
    obtain ⟨c, ys, rfl, _, _⟩ := k4
    cases r2 with
    | @cons _ uk _ _ rk r3 =>
    cases r3 with
    | @cons _ ux _ _ rx r4 =>
    cases r4
    cases rk
    refine ⟨b, o, _, n, .ref c, ux, rfl, ho, hcl, hd, rfl, fun Q E hq => ?_⟩
    have hv : ts.length ≤ sizeLine := by
      rw [← Paired.length rel]
      have := mergeG_len (dvs.take i) ([] : List (List Dt × V))
      rw [List.length_take, List.length_nil] at this
      omega
    refine wpAny_dictSet_heap (hsz := hv) (knd := datKind X.prog X.w) (k := kv.1) (show A'.units + 20 < cLine by omega) ⟨k4'.mono (hc_sub ok), k5⟩ (dictH_of ok all o1 o2 o3 o4 o5) fun h2 dd2 sb => ?_
    obtain ⟨o', es', ep', p1, p2, p3, p4, _, p5⟩ := dd2
    refine hq _ _ ⟨ok.but fr fun b o hb e => sb.extBut b o hb e, _, ?_, stored_all all ⟨k4', k5⟩, o', es', ep', p1, p2, p3, p4, p5⟩ sb
    rw [mergeG_take k1]
    exact rel.put kv.1 rx
  · obtain ⟨ok, ts, rel, all, o, es, ep, o1, o2, o3, o4, o5⟩ := hD
    have ls : its.toArray.size = dvs.length := by rw [List.size_toArray, ← rv.length, lk]
    rw [ls, List.take_length] at rel
    have big : (s.heap.objs.size == sysModules) = false := by
      have := I.big
      simp only [beq_eq_false_iff_ne]
      exact Nat.ne_of_gt this
    refine ⟨.ref s.heap.objs.size, _, I.laid (t' := tk) keep (Nat.le_refl _) (o := .ext (DNo X.prog X.w s.heap.objs.size (ts.map (·.2.1)) (mergeG [] dvs))) ⟨⟨big, ts, o, es, ep, rel, rfl, o1, o2, o3, o4, o5⟩, ⟨o, o1⟩, ?_⟩, rfl, q _ _ fr ⟨_, upd_same, paired_swap rel fun z hz => ⟨(all z hz).1.mono (Tups.new fr _), (all z hz).2⟩⟩⟩
    rintro h1 h2 ⟨b1, ts', o', es', ep', q1, q2, q3, q4⟩ k
    exact ⟨b1, ts', o', es', ep', q1, q2, k _ q3, q4⟩
/-- d.get(k, x) of such a dict -/
def tDGet2N (P : Program) (w : World) (td ty tx : TE) : TE := fun σ H Q => td σ H fun x H1 => ∃ a, x = .ref a ∧ (∃ dvs, IsDN P w H1 a dvs) ∧ ty σ H1 fun y H2 => tx σ H2 fun z H3 => ∃ dvs k, IsDN P w H3 a dvs ∧ IsDt H3 (.tup k) y ∧ depL k ≤ 7 ∧ Q ((valV dvs k).getD z) H3
theorem pe_dget2N {o e f : Expr} {td ty tx : TE} {apos cpos : Pos} (hu : X.A.units + 110 < cLine) (ho : PE X o td) (he : PE X e ty) (hf : PE X f tx) (m : M2 X o "get" apos e f cpos) : PE X (.Call (.Attribute o "get" apos) [e, f] [] cpos) (tDGet2N X.prog X.w td ty tx) := by
  intro pins s σ H Q I h
  refine wpAny_Call_method m.base m.few m.line PySem.F.plainAttrs_dict PySem.F.slot_dict_get PySem.F.type_dict_get (thn (ho pins s σ H _ I h) fun u s1 ⟨x, H1, I1, rx, a, ex, ⟨dvs0, bs0, d0, _⟩, q1⟩ => ?_)
  subst ex
  obtain rfl : u = Value.ref a := rx
  obtain ⟨⟨b1, ts, ob, es, ep, g1, g2, g3, g4, _⟩, _⟩ := (show ObjOk X.prog X.w H1 s1.heap a (.ext _) from I1.hok a _ d0)
  refine ⟨⟨ob, g3, g4.1⟩, fun b q => by cases q; exact ⟨ob, g3, g4.2.1⟩, ?_⟩
  rw [m.trees]
  refine Calls.callWith_builtin rfl (Calls.evalArgs_plain (Calls.spliced_cons (thn (he pins s1 σ H1 _ I1 q1) fun iv s2 ⟨y, H2, I2, ry, q2⟩ =>
    Calls.spliced_cons (thn (hf pins s2 σ H2 _ I2 q2) fun fv s3 ⟨z, H3, I3, rz, dvs, k, ⟨bs, e1, e2⟩, iy, dk, q3⟩ => Calls.spliced_nil ?_))))
  obtain ⟨⟨hb, ts, ob, es, ep, g1, g2, g3, g4, g5, g6, g7⟩, _⟩ := (show ObjOk X.prog X.w H3 s3.heap a (.ext _) from I3.hok a _ e1)
  subst g2
  have dd := dictH_of I3.hok (paired_back g1 e2) g3 g4 g5 g6 g7
  have iy' := iy
  rw [IsDt] at iy
  obtain ⟨c, ys, rfl, _, _⟩ := iy
  cases ry
  refine call_meetsIn PySem.F.slot_dict_get dd.typeIs PySem.F.entry_dict_get (PySem.F.args_dict_get_3 _ _ _) (meetsH_dict_get_default (datKind X.prog X.w) a c hb fv) ⟨(show X.A.units + 1 + 20 < cLine by omega), k, ts, ⟨iy'.mono (hc_sub I3.hok), dk⟩, dd, ?_⟩
  exact ⟨_, H3, I3.tok _, (g1.val k).getD rz, q3⟩
theorem we_dget2N {o e f : Expr} {td ty tx : TE} {apos cpos : Pos} (hu : X.A.units + 110 < cLine) (ho : Hd (PE X o td)) (he : Hd (PE X e ty)) (hf : Hd (PE X f tx)) (hb : attributeBase o "get" X.env (eval o X.env) = eval o X.env := by rfl) (h1 : notStar e = true := by rfl) (h2 : notStar f = true := by rfl) (hline : (apos.endLine == cpos.line) = true := by rfl) :
    Hd (PE X (.Call (.Attribute o "get" apos) [e, f] [] cpos) (tDGet2N X.prog X.w td ty tx)) := ⟨pe_dget2N hu ho.out he.out hf.out (m2_of hb h1 h2 hline)⟩
end
end L2
end
section
set_option Elab.async false
set_option linter.all false
set_option maxRecDepth 100000
set_option maxHeartbeats 4000000
namespace L2
open PySem PySem.Spec PyProof.Rows PySem.W
open Kn (krun)
/-! ### d.items(): the view, walked and sorted -/
def ItemsV (v d : Addr) : Heap → Prop := fun h => h.IsItemsView v d
theorem itemsV_ok {P : Program} {w : World} {H : Hp} {h : Heap} {v d : Addr} (x : h.IsItemsView v d) : ObjOk P w H h v (.ext (ItemsV v d)) :=
  ⟨x, let ⟨o, ho, _⟩ := x; ⟨o, ho⟩, fun h1 h2 ⟨o, ho, c⟩ k => ⟨o, k _ ho, c⟩⟩
section
variable {X : Cx}
def rItems : V → List V → Hp → VK → Prop := fun x vs H Q => ∃ d kvs, x = .ref d ∧ vs = [] ∧ H d = some (.dK kvs) ∧ ∀ p, H p = none → Q (.ref p) (upd H p (.ext (ItemsV p d)))
theorem mt_items : MtR X "dict.items" rItems := by
  intro pins s σ H x xs v us Q I rx rxs h
  obtain ⟨d, kvs, rfl, rfl, hd, q⟩ := h
  cases rx
  cases rxs
  obtain ⟨z, lo, vs, rel, dd⟩ := dk_of I.hok hd
  refine call_meetsIn PySem.F.slot_dict_items dd.typeIs PySem.F.entry_dict_items (PySem.F.args_dict_items_1 _) (meets_dict_items (mixKind X.prog X.w) d lo) ⟨⟨vs, dd⟩, ?_⟩
  have fr : H s.heap.objs.size = none := I.hok.fresh (Nat.le_refl _)
  exact ⟨.ref s.heap.objs.size, _, I.laid (t' := s.toks) (o := .ext (ItemsV s.heap.objs.size d)) (fun b o e => Heap.get?_push_of_some _ e) (Nat.le_refl _) (itemsV_ok ⟨_, Heap.get?_push_size _ rfl, rfl, rfl⟩), rfl, q _ fr⟩
theorem Inv.freeze {pins : List (Addr × Obj)} {s : Shared} {σ : St} {H : Hp} {d : Addr} {o : Obj} {kvs : List (Key × V)} (I : Inv X pins σ H s) (hd : H d = some (.dK kvs)) (ho : s.heap.get? d = some o) : Inv X pins σ (upd H d (.frz o (.dK kvs))) s := by
  have ne : ∀ {b : Addr} {u : HO}, H b = some u → u ≠ .dK kvs → b ≠ d := fun e n z => by subst z; rw [hd] at e; cases e; exact n rfl
  have un : Un X.fs [] H (upd H d (.frz o (.dK kvs))) s.heap s.heap := {
    keep := fun b o' q n _ _ => q
    slot := fun b o' q n _ _ => ⟨o'.slots, q⟩
    free := fun b o' q n _ => by rw [upd_ne (by rintro rfl; rw [hd] at n; cases n)]; exact n
    there := fun b o' q _ => ⟨o', q⟩
    tups := fun b xs e => by rw [upd_ne (ne e (by intro z; cases z))]; exact e
    frzs := fun b o' u e => by rw [upd_ne (ne e (by intro z; cases z))]; exact e
    tbls := fun b ps e => ⟨#[], by rw [upd_ne (ne e (by intro z; cases z))]; simpa using e⟩ }
  have ok : HOk X.prog X.w (upd H d (.frz o (.dK kvs))) s.heap := fun b u e => by
    by_cases hb : b = d
    · subst hb
      rw [upd_same] at e
      cases e
      exact ⟨ho, I.hok b _ hd⟩
    · rw [upd_ne hb] at e
      exact (I.hok b u e).stay (fun _ _ _ q => q) (fun c q => by rw [upd_ne (ne q (by intro z; cases z))]; exact q) fun c xs q => by rw [upd_ne (ne q (by intro z; cases z))]; exact q
  exact I.un (t' := s.toks) un ok
theorem relV_key {P : Program} {w : World} {k : Key} {u : Value} (h : (mixKind P w).is k u = true) : RelV (kV k) u := by
  rcases keyIs_shape (k := k) (v := u) h with ⟨i, t, rfl, rfl⟩ | ⟨x, t, rfl, rfl⟩
  · exact ⟨t, rfl⟩
  · exact ⟨t, rfl⟩
/-- what the items of the dict at d, known as o, yield -/
def Itm (d : Addr) (o : Obj) (kvs : List (Key × V)) : It :=
  ⟨fun i H => H d = some (.frz o (.dK kvs)) ∧ i < kvs.length,
   fun i H v H' => ∃ p kv, v = .ref p ∧ H p = none ∧ kvs[i]? = some kv ∧ H' = upd H p (.tup [kV kv.1, kv.2]),
   fun i H => H d = some (.frz o (.dK kvs)) ∧ kvs.length ≤ i⟩
theorem frz_at {pins : List (Addr × Obj)} {s : Shared} {σ : St} {H : Hp} {d : Addr} {o : Obj} {kvs : List (Key × V)} {es : Array DictEntry} {ep : Nat} (I : Inv X pins σ H s) (hd : H d = some (.frz o (.dK kvs))) (he : o.data = .dict es ep) : ∃ vs, KV kvs vs ∧ s.heap.DictAt (mixKind X.prog X.w) d vs ep := by
  obtain ⟨ho, _, _, vs, rel, o', es', ep', e1, e2, e3, e4⟩ := (show ObjOk X.prog X.w H s.heap d (.frz o (.dK kvs)) from I.hok d _ hd)
  rw [ho] at e1
  cases e1
  rw [he] at e3
  cases e3
  exact ⟨vs, rel, o, es, ho, e2, he, e4⟩
theorem turn_items {P : Program} {w : World} {K : PySem.W.Frag} {elts : List Expr} {kk : Nat} {tp : Pos} {it d : Addr} {o : Obj} {kvs : List (Key × V)} {es : Array DictEntry} {ep : Nat} (he : o.data = .dict es ep) :
    Turn P w K (.Tuple elts kk tp) (Itm d o kvs) [it] it (fun i h => ∃ ok ov, IsItemIter h it d i kvs.length ep ok ov) where
  mem := by simp
  obj := fun i h st c hc => by
    obtain ⟨ok, ov, q1⟩ := st
    have e : c = it := by simpa using hc
    subst e
    exact ⟨_, q1, fun v z => by cases z⟩
  keep := fun i h h' st k => by
    obtain ⟨ok, ov, q1⟩ := st
    exact ⟨ok, ov, k it (by simp) _ q1⟩
  item := by
    intro X hP hw hK hc i pins s σ H E I hf st hg
    subst hP hw hK
    obtain ⟨hd, hi⟩ := hg
    obtain ⟨vs, rel, da⟩ := frz_at I hd he
    obtain ⟨ok0, ov0, q1⟩ := st
    have lv : kvs.length = vs.length := rel.length
    rw [lv] at q1
    have hv : vs[i]? = some vs[i] := List.getElem?_eq_getElem (by omega)
    obtain ⟨kv, hkv, e1, rv⟩ := paired_get (l := kvs) (m := vs) rel hv
    have hit : it < s.heap.objs.size := Heap.lt_size q1
    refine wpAny_pyNext_items_item (k := vs[i].1) (v := vs[i].2) q1 da hv fun key h' hk Z' T' n' keep => ⟨_, rfl, ?_⟩
    refine wpAny_letOwnedTupleGo_items Z' fun h'' z'' sb => ?_
    have rk : RelV (kV kv.1) key := by rw [e1]; exact relV_key hk
    have hT : h''.get? s.heap.objs.size = some { cls := .type "tuple", data := .seq #[key, vs[i].2] } := sb.extBut _ _ (Nat.ne_of_gt hit) T'
    have k2 : ∀ c o, c ∉ [it] → s.heap.get? c = some o → h''.get? c = some o := fun c o hc q => by
      simp only [List.mem_cons, List.not_mem_nil, or_false] at hc
      exact sb.extBut _ _ hc (keep c o hc q)
    have fresh : H s.heap.objs.size = none := I.hok.fresh (Nat.le_refl _)
    have none' : ∀ c ∈ [it], H c = none := fun c hc => (hf c hc).1
    have tne : ∀ c o, H c = some o → c ≠ s.heap.objs.size := fun c o q => ne_of_none q fresh
    have new : ObjOk X.prog X.w (upd H s.heap.objs.size (.tup [kV kv.1, kv.2])) h'' s.heap.objs.size (.tup [kV kv.1, kv.2]) :=
      ⟨tupD_at (by show 2 ≤ sizeLine; decide) hT rfl, [key, vs[i].2], .cons rk (.cons rv .nil), ⟨_, hT, rfl, 0, rfl⟩⟩
    have ok : HOk X.prog X.w (upd H s.heap.objs.size (.tup [kV kv.1, kv.2])) h'' := fun c o q => by
      by_cases hc : c = s.heap.objs.size
      · subst hc
        rw [upd_same] at q
        cases q
        exact new
      · rw [upd_ne hc] at q
        refine (I.hok c o q).stay (fun d v hd e => k2 d v (fun m => ?_) e) (fun d e => ?_) fun d zs e => ?_
        · rcases hd with rfl | hd
          · rw [none' _ m] at q; cases q
          · rw [none' _ m] at hd; cases hd
        · rw [upd_ne (tne _ _ e)]; exact e
        · rw [upd_ne (tne _ _ e)]; exact e
    have hL : ∀ c ∈ [it], c ≠ X.env.locals := fun c hc => (hf c hc).2.1
    have I' : Inv X pins σ (upd H s.heap.objs.size (.tup [kV kv.1, kv.2])) { s with heap := h'' } := by
      refine I.step (g' := s.gens) (t' := s.toks) (d' := s.drawn) (ch := [it]) (fun c hc => ⟨(hf c hc).2.2.2.1, (hf c hc).2.1, (hf c hc).2.2.2.2.1, (hf c hc).2.2.2.2.2⟩)
        (fun c o _ _ hc q _ => k2 c o hc q) (fun c o _ _ hc q _ => ⟨o.slots, k2 c o hc q⟩) (fun c o hc q n => ?_) (fun c o hc q => ⟨o, k2 c o hc q⟩) (fun c zs q => ?_) (fun c o v q => ?_) (fun c ps q => ⟨#[], ?_⟩) (fun m' hm' => ?_) ok I.bare
      · rw [upd_ne (Nat.ne_of_lt (Heap.lt_size q))]; exact n
      · rw [upd_ne (tne _ _ q)]; exact q
      · rw [upd_ne (tne _ _ q)]; exact q
      · rw [upd_ne (tne _ _ q)]; simpa using q
      · obtain ⟨o, es, ep, e, rr⟩ := hm'
        exact ⟨o, es, ep, k2 _ _ (fun hc => hL _ hc rfl) e, rr⟩
    refine ⟨.ref s.heap.objs.size, _, I', rfl, ⟨_, kv, rfl, fresh, hkv, rfl⟩, ?_, fun c hc => ?_⟩
    · rw [lv]
      exact ⟨_, _, z''⟩
    · have e : c = it := by simpa using hc
      rw [upd_ne (by rw [e]; exact Nat.ne_of_lt hit)]
      exact (hf c hc).1
  done := by
    intro X hP hw hK hc i pins s σ H E I hf st hg
    subst hP hw hK
    obtain ⟨hd, hi⟩ := hg
    obtain ⟨vs, rel, da⟩ := frz_at I hd he
    obtain ⟨ok0, ov0, q1⟩ := st
    have lv : kvs.length = vs.length := rel.length
    rw [lv] at q1
    obtain ⟨f0, f1, f2, f3, f4, f5⟩ := hf it (by simp)
    exact wpAny_pyNext_items_end (I.ok.hd hc) q1 da (by simp; omega) fun h' eb => ⟨rfl, I.turned (t' := s.toks) (fun b o hb e => eb b o hb e) f0 f1 f3 f4 f5⟩
  self := fun _ _ _ _ _ st h => by
    obtain ⟨ok, ov, q1⟩ := st
    exact kcp_self q1 h
/-- for k, x in d.items() -/
def iView (te : TE) : TI := fun σ H R => te σ H fun x H1 => ∃ v d kvs, x = .ref v ∧ H1 v = some (.ext (ItemsV v d)) ∧ H1 d = some (.dK kvs) ∧ ∀ o, R (Itm d o kvs) (upd H1 d (.frz o (.dK kvs)))
theorem pi_view {e : Expr} {te : TE} {elts : List Expr} {kk : Nat} {tp : Pos} (he : PE X e te) : PI X (.Tuple elts kk tp) e (iView te) := by
  intro pins s σ H R I h
  refine thn (he pins s σ H _ I h) fun u s1 ⟨x, H1, I1, rx, v, d, kvs, ex, hv, hd, q⟩ => ?_
  subst ex
  obtain rfl : u = Value.ref v := rx
  obtain ⟨z, lo, vs, rel, o, es, ep, e1, e2, e3, e4⟩ := dk_of I1.hok hd
  obtain ⟨iv, _⟩ := (show ObjOk X.prog X.w H1 s1.heap v (.ext (ItemsV v d)) from I1.hok v _ hv)
  refine wpAny_pyIter_items (knd := mixKind X.prog X.w) iv ⟨o, es, e1, e2, e3, e4⟩ ?_
  have I2 := (I1.freeze hd e1).kept (t' := s1.toks) (h' := s1.heap.push { cls := .type "dict_itemiterator", data := .fields #[.none, .bool false, .ref d, .int 0 0, .int vs.length 0, .int ep 0, .none, .none] }) fun b o e => Heap.get?_push_of_some _ e
  refine ⟨s1.heap.objs.size, [s1.heap.objs.size], _, Itm d o kvs, _, rfl, I2, turn_items e3, ⟨.none, .none, ?_⟩, fun c hc => ?_, q o⟩
  · rw [rel.length]; exact Heap.get?_push_size _ rfl
  · have e : c = s1.heap.objs.size := by simpa using hc
    subst e
    exact (I1.freeze hd e1).fpOk (Nat.le_refl _) ((I1.freeze hd e1).hok.fresh (Nat.le_refl _))
theorem wi_view {e : Expr} {te : TE} {elts : List Expr} {kk : Nat} {tp : Pos} (he : Hd (PE X e te)) : Hd (PI X (.Tuple elts kk tp) e (iView te)) := ⟨pi_view he.out⟩
/-- the data of a key -/
def kD : Key → Dt
  | .inl i => .int i
  | .inr x => .str x
/-- many new tuples -/
def addT (H : Hp) (m : List (Addr × (Key × V))) : Hp := fun b => match m.lookup b with | some kv => some (.tup [kV kv.1, kv.2]) | none => H b
/-- sorted(d.items()) -/
def rSortI : List V → Hp → VK → Prop := fun ws H Q => ∃ (v d : Addr) (kvs : List (Key × V)) (es : List Dt) (T : String), ws = [.ref v] ∧ H v = some (.ext (ItemsV v d)) ∧ H d = some (.dK kvs) ∧ IsDts H es (kvs.map (·.2)) ∧ Sortable T ((kvs.zip es).map fun p => [kD p.1.1, p.2]) ∧ kvs.length < 64 ∧
  ∀ (a : Addr) (H' : Hp) (bs : List V) (p : List Nat), H a = none → (∀ b u, H b = some u → H' b = some u) → H' a = some (.lst bs) → p.Perm (List.range kvs.length) → (2 ≤ kvs.length → p = (krun (ltB ((kvs.zip es).map fun p => [kD p.1.1, p.2])) (kas_sort kvs.length)).toList) → (kvs.length < 2 → p = List.range kvs.length) →
    IsDts H' ((p.map fun i => ((kvs.zip es).map fun p => [kD p.1.1, p.2]).getD i []).map Dt.tup) bs → Q (.ref a) H'
theorem isDts_perm {H : Hp} {ds : List (List Dt)} {bs : List V} (h : IsDts H (ds.map Dt.tup) bs) : ∀ (p : List Nat), (∀ i ∈ p, i < ds.length) → IsDts H ((p.map fun i => ds.getD i []).map Dt.tup) (p.map fun i => bs.getD i V.non)
  | [], _ => .nil
  | i :: p, hp => by
    have hi : i < ds.length := hp i List.mem_cons_self
    refine .cons ?_ (isDts_perm h p fun j hj => hp j (List.mem_cons_of_mem _ hj))
    obtain ⟨y, e1, e2⟩ := h.get (i := i) (d := .tup ds[i]) (by rw [List.getElem?_map, List.getElem?_eq_getElem hi]; rfl)
    show IsDt H (Dt.tup (ds.getD i [])) (bs.getD i V.non)
    rw [List.getD_eq_getElem?_getD, List.getElem?_eq_getElem hi, List.getD_eq_getElem?_getD, e1]
    exact e2
end
end L2
end
section
set_option Elab.async false
set_option linter.all false
set_option maxRecDepth 100000
set_option maxHeartbeats 4000000
namespace L2
open PySem PySem.Spec PyProof.Rows PySem.W
section
variable {X : Cx}
/-- name *= e -/
def ipM : TIp := fun x y H Q => ∃ i j, x = .int i ∧ y = .int j ∧ CMul i j ∧ Q (.int (i * j)) H
theorem ip_mul : PIp X .Mult ipM := by
  intro pins s σ H x y v u Q I r1 r2 h
  obtain ⟨i, j, e1, e2, c, q⟩ := h
  subst e1; subst e2
  obtain ⟨t, rfl⟩ := r1
  obtain ⟨t', rfl⟩ := r2
  exact PyProof.Rows.imul_int ⟨.int _, H, I.tok _, ⟨_, rfl⟩, q⟩ c.ok
theorem ws_aug {i : Nat} {x : Str} {e : Expr} {te : TE} {op : Operator} {ti : TIp} {pos pos' : Pos} (hN : X.N.Nodup) (hi : X.N[i]? = some x) (hx : Loc X.env.scope x) (he : Hd (PE X e te)) (ho : PIp X op ti) (hf : X.fn x = true ∨ X.env.scope.names.lookup x = some .local := by first | exact .inl rfl | exact .inr rfl | assumption) :
    Hd (PS X (.AugAssign (.Name x pos') op e pos) (tAug i te ti)) := ⟨ps_aug hN hi hx he.out ho hf⟩
end
end L2
end
section
set_option Elab.async false
set_option linter.all false
namespace Kn
open PySem L2
mutual
def dat : Val → Dt
  | .num i => .tup [.str "num", .int i]
  | .word s => .tup [.str "word", .str s]
  | .row ps => .tup [.str "row", .tup (datR ps)]
  | .bag ps => .tup [.str "bag", .tup (datB ps)]
def datR : List (Str × Val) → List Dt
  | [] => []
  | p :: ps => .tup [.str p.1, dat p.2] :: datR ps
def datB : List (Val × Int) → List Dt
  | [] => []
  | p :: ps => .tup [dat p.1, .int p.2] :: datB ps
end
theorem datR_map (ps : List (Str × Val)) : datR ps = ps.map fun p => .tup [.str p.1, dat p.2] := by
  induction ps with
  | nil => rw [datR]; rfl
  | cons p ps ih => rw [datR, ih]; rfl
theorem datB_map (ps : List (Val × Int)) : datB ps = ps.map fun p => .tup [dat p.1, .int p.2] := by
  induction ps with
  | nil => rw [datB]; rfl
  | cons p ps ih => rw [datB, ih]; rfl

/-- bounds: at most b parts a knot, d levels, short texts -/
def Bd (b : Nat) : Nat → Val → Prop
  | _, .num _ => True
  | _, .word s => s.length ≤ 100
  | 0, .row ps => ps = []
  | 0, .bag ps => ps = []
  | d + 1, .row ps => ps.length ≤ b ∧ ∀ p ∈ ps, p.1.length ≤ 100 ∧ Bd b d p.2
  | d + 1, .bag ps => ps.length ≤ b ∧ ∀ p ∈ ps, Bd b d p.1
theorem Bd.mono {b c : Nat} (h : b ≤ c) : ∀ {d : Nat} {x : Val}, Bd b d x → Bd c d x
  | 0, .num _, _ => by simp only [Bd]
  | _ + 1, .num _, _ => by simp only [Bd]
  | 0, .word s, q => by simp only [Bd] at q ⊢; exact q
  | _ + 1, .word s, q => by simp only [Bd] at q ⊢; exact q
  | 0, .row ps, q => by simp only [Bd] at q ⊢; exact q
  | 0, .bag ps, q => by simp only [Bd] at q ⊢; exact q
  | d + 1, .row ps, q => by simp only [Bd] at q ⊢; exact ⟨Nat.le_trans q.1 h, fun p hp => ⟨(q.2 p hp).1, Bd.mono h (q.2 p hp).2⟩⟩
  | d + 1, .bag ps, q => by simp only [Bd] at q ⊢; exact ⟨Nat.le_trans q.1 h, fun p hp => Bd.mono h (q.2 p hp)⟩
theorem Bd.up {b : Nat} : ∀ {d : Nat} {x : Val}, Bd b d x → Bd b (d + 1) x
  | 0, .num _, _ => by simp only [Bd]
  | _ + 1, .num _, _ => by simp only [Bd]
  | 0, .word s, q => by simp only [Bd] at q ⊢; exact q
  | _ + 1, .word s, q => by simp only [Bd] at q ⊢; exact q
  | 0, .row ps, q => by simp only [Bd] at q; subst q; simp [Bd]
  | 0, .bag ps, q => by simp only [Bd] at q; subst q; simp [Bd]
  | d + 1, .row ps, q => by
    simp only [Bd] at q
    rw [Bd]
    exact ⟨q.1, fun p hp => ⟨(q.2 p hp).1, Bd.up (q.2 p hp).2⟩⟩
  | d + 1, .bag ps, q => by
    simp only [Bd] at q
    rw [Bd]
    exact ⟨q.1, fun p hp => Bd.up (q.2 p hp)⟩
theorem depL_le {ds : List Dt} {n : Nat} (h : ∀ d ∈ ds, d.dep ≤ n) : depL ds ≤ n := by
  induction ds with
  | nil => rw [depL]; exact Nat.zero_le _
  | cons d ds ih =>
    rw [depL]
    have h1 := h d List.mem_cons_self
    have h2 := ih fun e he => h e (List.mem_cons_of_mem _ he)
    omega
theorem dep_two (a b : Dt) : (Dt.tup [a, b]).dep = max a.dep b.dep + 1 := by simp only [Dt.dep, depL]; omega
theorem dep_dat {b : Nat} : ∀ {d : Nat} {x : Val}, Bd b d x → (dat x).dep ≤ 3 * d + 2
  | d, .num _, _ => by rw [dat, dep_two, Dt.dep, Dt.dep]; omega
  | d, .word _, _ => by rw [dat, dep_two, Dt.dep, Dt.dep]; omega
  | 0, .row ps, q => by simp only [Bd] at q; subst q; rw [dat, dep_two, Dt.dep, datR, Dt.dep, depL]; omega
  | 0, .bag ps, q => by simp only [Bd] at q; subst q; rw [dat, dep_two, Dt.dep, datB, Dt.dep, depL]; omega
  | d + 1, .row ps, q => by
    simp only [Bd] at q
    have h : depL (datR ps) ≤ 3 * d + 3 := by
      rw [datR_map]
      refine depL_le fun e he => ?_
      obtain ⟨p, hp, rfl⟩ := List.mem_map.mp he
      have := dep_dat (q.2 p hp).2
      rw [dep_two, Dt.dep]
      omega
    rw [dat, dep_two, Dt.dep, Dt.dep]
    omega
  | d + 1, .bag ps, q => by
    simp only [Bd] at q
    have h : depL (datB ps) ≤ 3 * d + 3 := by
      rw [datB_map]
      refine depL_le fun e he => ?_
      obtain ⟨p, hp, rfl⟩ := List.mem_map.mp he
      have := dep_dat (q.2 p hp)
      rw [dep_two, Dt.dep]
      omega
    rw [dat, dep_two, Dt.dep, Dt.dep]
    omega
theorem keyR_len {ps : List (Str × Val)} {n : Nat} (h : ∀ p ∈ ps, (key p.2).length ≤ n) : (keyR ps).length ≤ 1 + ps.length * (n + 2) := by
  induction ps with
  | nil => simp [keyR]
  | cons p ps ih =>
    have h1 := h p List.mem_cons_self
    have h2 := ih fun e he => h e (List.mem_cons_of_mem _ he)
    rw [keyR]
    simp only [List.length_cons, List.length_append]
    rw [Nat.succ_mul]
    omega
theorem keyB_len {ps : List (Val × Int)} {n : Nat} (h : ∀ p ∈ ps, (key p.1).length ≤ n) : (keyB ps).length ≤ 1 + ps.length * (n + 2) := by
  induction ps with
  | nil => simp [keyB]
  | cons p ps ih =>
    have h1 := h p List.mem_cons_self
    have h2 := ih fun e he => h e (List.mem_cons_of_mem _ he)
    rw [keyB]
    simp only [List.length_cons, List.length_append]
    rw [Nat.succ_mul]
    omega
theorem pow8 (d : Nat) : 1 ≤ 8 ^ d := Nat.one_le_pow _ _ (by decide)
theorem key_len : ∀ {d : Nat} {x : Val}, Bd 7 d x → (key x).length ≤ 16 * 8 ^ d
  | d, .num _, _ => by have := pow8 d; rw [key]; show 2 ≤ _; omega
  | d, .word _, _ => by have := pow8 d; rw [key]; show 2 ≤ _; omega
  | 0, .row ps, q => by simp only [Bd] at q; subst q; simp [key, keyR]
  | 0, .bag ps, q => by simp only [Bd] at q; subst q; simp [key, keyB]
  | d + 1, .row ps, q => by
    simp only [Bd] at q
    have h := keyR_len (n := 16 * 8 ^ d) fun p hp => key_len (q.2 p hp).2
    have h2 : ps.length * (16 * 8 ^ d + 2) ≤ 7 * (16 * 8 ^ d + 2) := Nat.mul_le_mul_right _ q.1
    have h3 := pow8 d
    have h4 : 8 ^ (d + 1) = 8 ^ d * 8 := Nat.pow_succ ..
    rw [key, List.length_cons]
    omega
  | d + 1, .bag ps, q => by
    simp only [Bd] at q
    have h := keyB_len (n := 16 * 8 ^ d) fun p hp => key_len (q.2 p hp)
    have h2 : ps.length * (16 * 8 ^ d + 2) ≤ 7 * (16 * 8 ^ d + 2) := Nat.mul_le_mul_right _ q.1
    have h3 := pow8 d
    have h4 : 8 ^ (d + 1) = 8 ^ d * 8 := Nat.pow_succ ..
    rw [key, List.length_cons]
    omega
def IsVal (H : Hp) (x : Val) (v : V) : Prop := IsDt H (dat x) v
end Kn
end
section
set_option Elab.async false
set_option linter.all false
namespace Kn
open PySem L2
/-- what lies on the pile: an item of a key, or a value still to be unfolded -/
inductive Pt where
  | k (e : KE)
  | v (x : Val)
def Pt.key : Pt → List KE
  | .k e => [e]
  | .v x => Kn.key x
def flatK (ps : List Pt) : List KE := ps.flatMap Pt.key
def ptsR : List (Str × Val) → List Pt
  | [] => [.k (.i 0)]
  | p :: ps => .k (.i 1) :: .k (.s p.1) :: .v p.2 :: ptsR ps
def ptsB : List (Val × Int) → List Pt
  | [] => [.k (.i 0)]
  | p :: ps => .k (.i 1) :: .v p.1 :: .k (.i p.2) :: ptsB ps
def pts : Val → List Pt
  | .num i => [.k (.i 0), .k (.i i)]
  | .word s => [.k (.i 1), .k (.s s)]
  | .row ps => .k (.i 2) :: ptsR ps
  | .bag ps => .k (.i 3) :: ptsB ps
theorem flat_R (ps : List (Str × Val)) : flatK (ptsR ps) = keyR ps := by
  induction ps with
  | nil => rw [ptsR, keyR]; rfl
  | cons p ps ih => rw [ptsR, keyR, ← ih]; simp [flatK, Pt.key]
theorem flat_B (ps : List (Val × Int)) : flatK (ptsB ps) = keyB ps := by
  induction ps with
  | nil => rw [ptsB, keyB]; rfl
  | cons p ps ih => rw [ptsB, keyB, ← ih]; simp [flatK, Pt.key]
theorem flat_pts (x : Val) : flatK (pts x) = key x := by
  cases x with
  | num i => rw [pts, key]; rfl
  | word s => rw [pts, key]; rfl
  | row ps => rw [pts, key, ← flat_R]; rfl
  | bag ps => rw [pts, key, ← flat_B]; rfl
theorem key_pos (x : Val) : 1 ≤ (key x).length := by cases x <;> rw [key] <;> simp
def Pt.ms : Pt → Nat
  | .k _ => 1
  | .v x => 2 * (Kn.key x).length
def msL (ps : List Pt) : Nat := (ps.map Pt.ms).sum
theorem msL_app (a b : List Pt) : msL (a ++ b) = msL a + msL b := by simp [msL]
theorem msL_rev (a : List Pt) : msL a.reverse = msL a := by simp [msL]
theorem msL_le (ps : List Pt) : msL ps ≤ 2 * (flatK ps).length := by
  induction ps with
  | nil => simp [msL, flatK]
  | cons p ps ih =>
    have e1 : msL (p :: ps) = p.ms + msL ps := by simp [msL]
    have e2 : (flatK (p :: ps)).length = p.key.length + (flatK ps).length := by simp [flatK]
    have e3 : p.ms ≤ 2 * p.key.length := by cases p <;> simp [Pt.ms, Pt.key]
    omega
theorem ms_pts (x : Val) : msL (pts x) < 2 * (key x).length := by
  have h : ∀ (e : KE) (r : List Pt), pts x = .k e :: r → msL (pts x) < 2 * (key x).length := fun e r q => by
    have e0 := flat_pts x
    rw [q] at e0 ⊢
    have e1 : msL (.k e :: r) = 1 + msL r := by simp [msL, Pt.ms]
    have e2 : (flatK (.k e :: r)).length = 1 + (flatK r).length := by simp [flatK, Pt.key]; omega
    have e3 := msL_le r
    rw [← e0, e1, e2]
    omega
  cases x with
  | num i => exact h _ _ (by rw [pts])
  | word s => exact h _ _ (by rw [pts])
  | row ps => exact h _ _ (by rw [pts])
  | bag ps => exact h _ _ (by rw [pts])
theorem pts_len (ps : List Pt) : ps.length ≤ (flatK ps).length := by
  induction ps with
  | nil => simp [flatK]
  | cons p ps ih =>
    have e2 : (flatK (p :: ps)).length = p.key.length + (flatK ps).length := by simp [flatK]
    have e3 : 1 ≤ p.key.length := by cases p with | k e => simp [Pt.key] | v x => exact key_pos x
    rw [List.length_cons]
    omega
def IsPt (H : Hp) : Pt → V → Prop
  | .k e, v => v = kv e
  | .v x, v => IsVal H x v
def IsPts (H : Hp) : List Pt → List V → Prop
  | [], us => us = []
  | p :: ps, us => ∃ y ys, us = y :: ys ∧ IsPt H p y ∧ IsPts H ps ys
theorem IsPt.mono {H H' : Hp} (t : Tups H H') {p : Pt} {v : V} (h : IsPt H p v) : IsPt H' p v := by
  cases p with
  | k e => exact h
  | v x => exact IsDt.mono t h
theorem IsPts.mono {H H' : Hp} (t : Tups H H') : ∀ {ps : List Pt} {us : List V}, IsPts H ps us → IsPts H' ps us
  | [], us, h => h
  | p :: ps, us, h => let ⟨y, ys, e, h1, h2⟩ := h; ⟨y, ys, e, h1.mono t, h2.mono t⟩
theorem IsPts.append {H : Hp} : ∀ {ps qs : List Pt} {us vs : List V}, IsPts H ps us → IsPts H qs vs → IsPts H (ps ++ qs) (us ++ vs)
  | [], qs, us, vs, h, h' => by rw [show us = [] from h]; exact h'
  | p :: ps, qs, us, vs, h, h' => by
    obtain ⟨y, ys, rfl, h1, h2⟩ := h
    exact ⟨y, ys ++ vs, rfl, h1, h2.append h'⟩
theorem IsPts.reverse {H : Hp} : ∀ {ps : List Pt} {us : List V}, IsPts H ps us → IsPts H ps.reverse us.reverse
  | [], us, h => by rw [show us = [] from h]; rfl
  | p :: ps, us, h => by
    obtain ⟨y, ys, rfl, h1, h2⟩ := h
    rw [List.reverse_cons, List.reverse_cons]
    exact h2.reverse.append ⟨y, [], rfl, h1, rfl⟩
theorem IsPts.length {H : Hp} : ∀ {ps : List Pt} {us : List V}, IsPts H ps us → us.length = ps.length
  | [], us, h => by rw [show us = [] from h]; rfl
  | p :: ps, us, h => by
    obtain ⟨y, ys, rfl, h1, h2⟩ := h
    simp [h2.length]
theorem IsPts.last {H : Hp} {ps : List Pt} {p : Pt} {us : List V} (h : IsPts H (ps ++ [p]) us) : ∃ ys y, us = ys ++ [y] ∧ IsPts H ps ys ∧ IsPt H p y := by
  induction ps generalizing us with
  | nil =>
    obtain ⟨y, ys, rfl, h1, h2⟩ := h
    rw [show ys = [] from h2]
    exact ⟨[], y, rfl, rfl, h1⟩
  | cons q ps ih =>
    obtain ⟨y, ys, rfl, h1, h2⟩ := h
    obtain ⟨zs, z, rfl, a, b⟩ := ih h2
    exact ⟨y :: zs, z, rfl, ⟨y, zs, rfl, h1, a⟩, b⟩
def rankS (s : Str) : Option Int := if s = "num" then some 0 else if s = "word" then some 1 else if s = "row" then some 2 else if s = "bag" then some 3 else none
/-- the table of ranks at a -/
def rRank (a : Addr) : R2 := fun x y H Q => ∃ s i, x = .ref a ∧ y = .str s ∧ rankS s = some i ∧ Q (.int i) H
/-- the first word and what stands behind it -/
def tagS : Val → Str
  | .num _ => "num"
  | .word _ => "word"
  | .row _ => "row"
  | .bag _ => "bag"
def restD : Val → Dt
  | .num i => .int i
  | .word s => .str s
  | .row ps => .tup (datR ps)
  | .bag ps => .tup (datB ps)
theorem dat_two (x : Val) : dat x = .tup [.str (tagS x), restD x] := by cases x <;> rw [dat] <;> rfl
theorem IsVal.two {H : Hp} {x : Val} {v : V} (h : IsVal H x v) : ∃ a w, v = .ref a ∧ H a = some (.tup [.str (tagS x), w]) ∧ IsDt H (restD x) w := by
  unfold IsVal at h
  rw [dat_two, IsDt] at h
  obtain ⟨a, xs, e, h1, h2⟩ := h
  rw [IsDts] at h2
  obtain ⟨y, ys, rfl, h3, h4⟩ := h2
  rw [IsDts] at h4
  obtain ⟨w, zs, rfl, h5, h6⟩ := h4
  rw [IsDts] at h6
  subst h6
  rw [IsDt] at h3
  subst h3
  exact ⟨a, w, e, h1, h5⟩
theorem rank_tag (x : Val) : rankS (tagS x) = some (rank x) := by
  cases x with
  | num i => show rankS "num" = some 0; decide +kernel
  | word i => show rankS "word" = some 1; decide +kernel
  | row i => show rankS "row" = some 2; decide +kernel
  | bag i => show rankS "bag" = some 3; decide +kernel
end Kn
end
section
set_option Elab.async false
set_option linter.all false
set_option maxRecDepth 100000
set_option maxHeartbeats 4000000
namespace K74
open PySem L2 Kn
def top (i : Nat) : Stmt := PySem.Challenge.pw_keptnest_k74_worth.main.body.getD i (.Pass ⟨0, 0, 0, 0⟩)
def bd (i j : Nat) : Stmt := (defBody (top i)).getD j (.Pass ⟨0, 0, 0, 0⟩)
/-- what the text leaves to Python -/
structure Tx (mg : Str → Option Value) : Prop where
  z_len : mg "len" = none
  z_int : mg "int" = none
  z_tuple : mg "tuple" = none
  z_range : mg "range" = none
  z_isinstance : mg "isinstance" = none
  z_sorted : mg "sorted" = none
  z_bool : mg "bool" = none
  z_dict : mg "dict" = none
/-- the deck at p, drawn from at most n times -/
def Dk (H : Hp) (p c : Addr) (n : Int) : Prop := ∃ (m : Int) (cs : List Int), H p = some (.lst [.ref c, .int m]) ∧ H c = some (.lst (cs.map V.int)) ∧ c ≠ p ∧ 0 ≤ m ∧ m ≤ n
/-- all but p as it was -/
def Ex (p : Addr) (H H' : Hp) : Prop := ∀ b o, b ≠ p → H b = some o → H' b = some o
theorem Ex.refl (p : Addr) (H : Hp) : Ex p H H := fun _ _ _ h => h
theorem Ex.trans {p : Addr} {H H1 H2 : Hp} (a : Ex p H H1) (b : Ex p H1 H2) : Ex p H H2 := fun c o n h => b c o n (a c o n h)
theorem ex_upd {p : Addr} {H : Hp} {o : HO} : Ex p H (upd H p o) := fun b u n h => by rw [upd_ne n]; exact h
theorem ex_new {p q : Addr} {H : Hp} {o : HO} (h : H q = none) : Ex p H (upd H q o) := fun b u n e => by rw [upd_ne (ne_of_none e h)]; exact e
theorem Same.ex {p : Addr} {H H' : Hp} (s : Same H H') : Ex p H H' := fun b o _ h => s b o h
theorem Ex.upd' {p c : Addr} {H H' : Hp} {o : HO} (e : Ex p H H') (h : H c = none) : Ex p H (upd H' c o) := fun b q n z => by rw [upd_ne (ne_of_none z h)]; exact e b q n z
theorem Dk.mono {H : Hp} {p c : Addr} {n m : Int} (h : Dk H p c n) (l : n ≤ m) : Dk H p c m := by
  obtain ⟨k, cs, e, r, ne, a, b⟩ := h; exact ⟨k, cs, e, r, ne, a, by omega⟩
theorem Dk.keep {H H' : Hp} {p c : Addr} {n : Int} (h : Dk H p c n) (s : Same H H') : Dk H' p c n := by
  obtain ⟨k, cs, e, r, ne, a, b⟩ := h; exact ⟨k, cs, s _ _ e, s _ _ r, ne, a, b⟩
theorem Dk.new {H : Hp} {p c q : Addr} {n : Int} {o : HO} (h : Dk H p c n) (hq : H q = none) : Dk (upd H q o) p c n := h.keep fun b u e => by rw [upd_ne (ne_of_none e hq)]; exact e
theorem Dk.tups {H H' : Hp} {p c : Addr} {n : Int} (h : Dk H p c n) (x : Ex p H H') : Tups H H' := fun b xs e => by
  obtain ⟨k, cs, e', _⟩ := h
  exact x b _ (ne_of e e' (by intro z; cases z)) e
theorem Dk.ne {H : Hp} {p c q : Addr} {n : Int} (h : Dk H p c n) (hq : H q = none) : q ≠ p ∧ q ≠ c := by
  obtain ⟨k, cs, e, r, _⟩ := h
  exact ⟨fun z => (by rw [z, e] at hq; cases hq), fun z => (by rw [z, r] at hq; cases hq)⟩
theorem Dk.upd {H : Hp} {p c q : Addr} {n : Int} {o : HO} (h : Dk H p c n) (hp : q ≠ p) (hc : q ≠ c) : Dk (upd H q o) p c n := by
  obtain ⟨k, cs, e, r, ne, a, b⟩ := h
  exact ⟨k, cs, by rw [upd_ne (Ne.symm hp)]; exact e, by rw [upd_ne (Ne.symm hc)]; exact r, ne, a, b⟩
theorem same_new {H : Hp} {p : Addr} (h : H p = none) (o : HO) : Same H (upd H p o) := fun b u q => by rw [upd_ne (ne_of_none q h)]; exact q
theorem bm (a k : Int) (h : 0 < k) (h2 : k < 2 ^ 64) : -(2 ^ 64) < a % k ∧ a % k < 2 ^ 64 := by
  have h1 := Int.emod_nonneg a (by omega : k ≠ 0)
  have h3 := Int.emod_lt_of_pos a h
  omega
section
variable {P : Program} {w : World} {K : PySem.W.Frag} {mg : Str → Option Value} {base : Heap} {f : Addr} {fd : FuncData}
theorem u110 {k : Nat} {A : Around} (hr : Room k A) : A.units + 110 < cLine := by have := hr.un; omega
theorem u0 {k : Nat} {A : Around} (hr : Room k A) : A.units < cLine := by have := hr.un; omega
theorem sc__law_next : FnScope ["deck", "cells", "at", "mixed"] ["deck"] (defScope (top 11)) := ⟨rfl, rfl, rfl, by decide +kernel, rfl, by decide +kernel, by decide +kernel⟩
def spNext : Sp := fun vs H Q _ => ∃ (p c : Addr) (n : Int), vs = [.ref p] ∧ Dk H p c n ∧ n < 1000000000000 ∧
  ∀ (r : Int) (H' : Hp), Ex p H H' → Dk H' p c (n + 1) → Q (.int r) H'
theorem ok_next (T : Tx mg) (D : Df K mg "_law_next" (top 11) f fd ["deck"]) : FnOk P w K mg base CX0 1 f fd ["deck"] spNext := by
  refine D.fn.okH sc__law_next (fun vs H Q E h => ?_) (fun cdv A outer s H vs Q E hr h => ?_)
  · obtain ⟨p, c, n, rfl, _⟩ := h; rfl
  obtain ⟨p, c, n, rfl, ⟨m, cs, hp, hc, ne, hm0, hmn⟩, hn, q⟩ := h
  have hu := u110 hr
  have hu0 := u0 hr
  have hu1 := hu_of hr
  refine ⟨_, (wss_cons (ws_set (i := 1) sc__law_next.nd rfl (Or.inl rfl) (we_ix (ix_U hu1) (wv 0) we_int (fun _ _ => rfl)))
      (wss_cons (ws_set (i := 2) sc__law_next.nd rfl (Or.inl rfl) (we_ix (ix_U hu1) (wv 0) we_int (fun _ _ => rfl)))
      (wss_cons (ws_asg (we_op op_plus (wv 2) we_int) (wg_sub (wv 0) we_int (set_U hu1)))
      (wss_cons (ws_if (wt_cmpR (op_ltU hu0) (wv 2) (we_callB call_lenU rfl T.z_len bt_len (wa_cons (wv 1) wa_nil)) (nomark _)) (wss_one (ws_ret (we_ix (ix_U hu1) (wv 1) (wv 2) (fun _ _ => rfl)))) wss_nil)
      (wss_cons (ws_if (wt_cmpR (op_eqU hu) (we_callB call_lenU rfl T.z_len bt_len (wa_cons (wv 1) wa_nil)) we_int (nomark _)) (wss_one (ws_ret (we_op op_plus (we_op op_mul (we_op op_mul (wv 2) (wv 2)) we_int) (wv 2)))) wss_nil)
      (wss_cons (ws_set (i := 3) sc__law_next.nd rfl (Or.inl rfl) (we_op op_mod (we_op op_mul (we_op op_plus (we_op op_plus (we_op op_mod (we_ix (ix_U hu1) (wv 1) (we_op op_mod (wv 2) (we_callB call_lenU rfl T.z_len bt_len (wa_cons (wv 1) wa_nil))) (fun _ _ => rfl)) we_int) (we_op op_mul (wv 2) we_int)) we_int) we_int) we_int))
      (wss_one (ws_ret (we_op op_mod (we_op op_mul (wv 3) (wv 3)) we_int))))))))), ?_⟩
  refine ⟨_, rfl, .inl ⟨p, _, _, _, rfl, rfl, SqL.of hp, rfl, ?_⟩⟩
  refine ⟨_, rfl, .inl ⟨p, _, _, _, rfl, rfl, SqL.of hp, rfl, ?_⟩⟩
  refine ⟨_, rfl, .inl ⟨_, _, rfl, rfl, _, rfl, .inl ⟨p, _, _, 1, rfl, rfl, hp, rfl, ?_⟩⟩⟩
  have hp1 : (upd H p (.lst ([V.ref c, .int m].set 1 (.int (m + 1))))) p = some (.lst [V.ref c, .int (m + 1)]) := upd_same
  have hc1 : (upd H p (.lst ([V.ref c, .int m].set 1 (.int (m + 1))))) c = some (.lst (cs.map V.int)) := by rw [upd_ne ne]; exact hc
  have ex1 : Ex p H (upd H p (.lst ([V.ref c, .int m].set 1 (.int (m + 1))))) := ex_upd
  generalize upd H p (.lst ([V.ref c, .int m].set 1 (.int (m + 1)))) = H1 at hp1 hc1 ex1 ⊢
  have dk1 : Dk H1 p c (n + 1) := ⟨m + 1, cs, hp1, hc1, ne, by omega, by omega⟩
  have get : ∀ i : Int, 0 ≤ i → i < cs.length → ∃ z : Int, atI (cs.map V.int) i = some (.int z) := fun i h0 h1 => by
    obtain ⟨k, rfl⟩ : ∃ k : Nat, i = (k : Int) := ⟨i.toNat, by omega⟩
    have hk : k < cs.length := by omega
    exact ⟨cs[k], atI_nat (by rw [List.getElem?_map, List.getElem?_eq_getElem hk]; rfl)⟩
  refine ⟨_, rfl, _, rfl, .inl ⟨c, _, rfl, .inl (SqL.of hc1), .inl ⟨_, _, rfl, rfl, _, rfl, ?_⟩⟩⟩
  refine ite2 (fun e1 => ?a) (fun e1 => ?b)
  case a =>
    have e1' : m < ((cs.map V.int).length : Int) := of_decide_eq_true e1
    rw [List.length_map] at e1'
    obtain ⟨z, hz⟩ := get m hm0 e1'
    exact ⟨_, rfl, _, rfl, .inl ⟨c, _, _, _, rfl, rfl, SqL.of hc1, hz, q z H1 ex1 dk1⟩⟩
  case b =>
    refine ⟨_, rfl, .inl ⟨c, _, rfl, .inl (SqL.of hc1), .inl ⟨rfl, _, rfl, ?_⟩⟩⟩
    refine ite2 (fun e2 => ?d) (fun e2 => ?e)
    case d =>
      exact ⟨_, rfl, _, rfl, _, _, rfl, rfl, .inl ⟨by omega, by omega⟩, _, _, rfl, rfl, .inr ⟨by decide, by decide⟩, _, rfl, .inl ⟨_, _, rfl, rfl, q _ H1 ex1 dk1⟩⟩
    case e =>
      have pos : (0 : Int) < cs.length := by
        have : ¬ V.int ((cs.map V.int).length : Int) = V.int 0 := fun z => e2 (decide_eq_true z)
        rw [List.length_map] at this
        have h0 : cs.length ≠ 0 := fun z => this (by rw [z]; rfl)
        omega
      have hl : ((cs.map V.int).length : Int) = cs.length := by rw [List.length_map]
      obtain ⟨z, hz⟩ := get (m % (cs.length : Int)) (Int.emod_nonneg _ (by omega)) (Int.emod_lt_of_pos _ pos)
      refine ⟨_, rfl, _, rfl, _, rfl, .inl ⟨c, _, rfl, .inl (SqL.of hc1), _, _, rfl, rfl, (by rw [hl]; exact pos), .inl ⟨c, _, _, .int z, rfl, rfl, SqL.of hc1, (by rw [hl]; exact hz), ?_⟩⟩⟩
      refine ⟨_, _, rfl, rfl, (by show (0 : Int) < 2147483629; decide), _, rfl, _, _, rfl, rfl, .inl ⟨by omega, by omega⟩, .inl ⟨_, _, rfl, rfl, .inl ⟨_, _, rfl, rfl, _, _, rfl, rfl, .inr ⟨by decide, by decide⟩, _, _, rfl, rfl, (by show (0 : Int) < 2147483587; decide), ?_⟩⟩⟩
      exact ⟨_, rfl, _, rfl, _, _, rfl, rfl, .inl (bm _ _ (by decide) (by decide)), _, _, rfl, rfl, (by show (0 : Int) < 2147483563; decide), q _ H1 ex1 dk1⟩
end
end K74
end
section
set_option Elab.async false
set_option linter.all false
set_option maxRecDepth 100000
set_option maxHeartbeats 4000000
namespace K74
open PySem L2 Kn
theorem iteP {c A B : Prop} [Decidable c] (h : c) (x : A) : if c then A else B := by rw [if_pos h]; exact x
section
variable {P : Program} {w : World} {K : PySem.W.Frag} {mg : Str → Option Value} {base : Heap} {f f_parts f_unf f_key aR : Addr} {fd fd_parts fd_unf fd_key : FuncData} {tG tE : Tok}
theorem sc_order_parts : FnScope ["value", "parts", "pair"] ["value"] (defScope (top 5)) := ⟨rfl, rfl, rfl, by decide +kernel, rfl, by decide +kernel, by decide +kernel⟩
/-- its parts, in a new list -/
def spParts : Sp := fun vs H Q _ => ∃ (v : V) (x : Val), vs = [v] ∧ IsVal H x v ∧ (pts x).length ≤ 10000000 ∧
  ∀ (p : Addr) (us : List V) (H' : Hp), Same H H' → H p = none → H' p = some (.lst us) → IsPts H' (pts x) us → Q (.ref p) H'
theorem isPts_R {H : Hp} : ∀ {ps : List (Str × Val)} {ys : List V} {i : Nat} {y : V}, IsDts H (datR ps) ys → ys[i]? = some y → ∃ f x c w, ps[i]? = some (f, x) ∧ y = .ref c ∧ H c = some (.tup [.str f, w]) ∧ IsVal H x w := fun {ps ys i y} h e => by
  have hl := h.length
  have hi : i < ys.length := (List.getElem?_eq_some_iff.mp e).1
  have hp : i < ps.length := by rw [datR_map, List.length_map] at hl; omega
  obtain ⟨z, e1, d1⟩ := h.get (i := i) (d := .tup [.str ps[i].1, dat ps[i].2]) (by rw [datR_map, List.getElem?_map, List.getElem?_eq_getElem hp]; rfl)
  rw [e] at e1
  cases e1
  rw [IsDt] at d1
  obtain ⟨c, xs, rfl, h1, h2⟩ := d1
  rw [IsDts] at h2
  obtain ⟨y1, r1, rfl, h3, h4⟩ := h2
  rw [IsDts] at h4
  obtain ⟨y2, r2, rfl, h5, h6⟩ := h4
  rw [IsDts] at h6
  subst h6
  rw [IsDt] at h3
  subst h3
  exact ⟨ps[i].1, ps[i].2, c, y2, List.getElem?_eq_getElem hp, rfl, h1, h5⟩
theorem isPts_B {H : Hp} : ∀ {ps : List (Val × Int)} {ys : List V} {i : Nat} {y : V}, IsDts H (datB ps) ys → ys[i]? = some y → ∃ x n c w, ps[i]? = some (x, n) ∧ y = .ref c ∧ H c = some (.tup [w, .int n]) ∧ IsVal H x w := fun {ps ys i y} h e => by
  have hl := h.length
  have hi : i < ys.length := (List.getElem?_eq_some_iff.mp e).1
  have hp : i < ps.length := by rw [datB_map, List.length_map] at hl; omega
  obtain ⟨z, e1, d1⟩ := h.get (i := i) (d := .tup [dat ps[i].1, .int ps[i].2]) (by rw [datB_map, List.getElem?_map, List.getElem?_eq_getElem hp]; rfl)
  rw [e] at e1
  cases e1
  rw [IsDt] at d1
  obtain ⟨c, xs, rfl, h1, h2⟩ := d1
  rw [IsDts] at h2
  obtain ⟨y1, r1, rfl, h3, h4⟩ := h2
  rw [IsDts] at h4
  obtain ⟨y2, r2, rfl, h5, h6⟩ := h4
  rw [IsDts] at h6
  subst h6
  rw [IsDt] at h5
  subst h5
  exact ⟨ps[i].1, ps[i].2, c, y1, List.getElem?_eq_getElem hp, rfl, h1, h3⟩
/-- the pairs gone through so far -/
def ptsR0 (ps : List (Str × Val)) : List Pt := ps.flatMap fun p => [.k (.i 1), .k (.s p.1), .v p.2]
def ptsB0 (ps : List (Val × Int)) : List Pt := ps.flatMap fun p => [.k (.i 1), .v p.1, .k (.i p.2)]
theorem ptsR_eq (ps : List (Str × Val)) : ptsR ps = ptsR0 ps ++ [.k (.i 0)] := by
  induction ps with
  | nil => rw [ptsR]; rfl
  | cons p ps ih => rw [ptsR, ih]; rfl
theorem ptsB_eq (ps : List (Val × Int)) : ptsB ps = ptsB0 ps ++ [.k (.i 0)] := by
  induction ps with
  | nil => rw [ptsB]; rfl
  | cons p ps ih => rw [ptsB, ih]; rfl
theorem flat_range {α : Type} (h : α → List Pt) (ps : List α) : ps.flatMap h = (List.range ps.length).flatMap fun i => ((ps[i]?).map h).getD [] := by
  have key : ∀ n, n ≤ ps.length → (ps.take n).flatMap h = (List.range n).flatMap fun i => ((ps[i]?).map h).getD [] := by
    intro n
    induction n with
    | zero => intro _; rfl
    | succ n ih =>
      intro hn
      rw [List.take_add_one, List.flatMap_append, ih (by omega), List.range_succ, List.flatMap_append, List.getElem?_eq_getElem (by omega : n < ps.length)]
      simp [List.getElem?_eq_getElem (by omega : n < ps.length)]
  have := key ps.length (Nat.le_refl _)
  rw [List.take_length] at this
  exact this
theorem ok_parts (T : Tx mg) (D : Df K mg "order_parts" (top 5) f fd ["value"]) (g_RANKS : mg "RANKS" = some (.ref aR)) (g_GOES_ON : mg "GOES_ON" = some (.int 1 tG)) (g_ENDS : mg "ENDS" = some (.int 0 tE))
    (ix_RANKS : ∀ X : Cx, X.K = K → X.w = w → X.A.units + 1 < cLine → IxR X (rRank aR)) : FnOk P w K mg base CX0 1 f fd ["value"] spParts := by
  refine D.fn.okH sc_order_parts (fun vs H Q E h => ?_) (fun cdv A outer s H vs Q E hr h => ?_)
  · obtain ⟨v, x, rfl, _⟩ := h; rfl
  obtain ⟨v, x, rfl, hx, hlen, q⟩ := h
  have hu := u110 hr
  have hu0 := u0 hr
  have hu1 := hu_of hr
  refine ⟨_, (wss_cons (ws_set (i := 1) sc_order_parts.nd rfl (Or.inl rfl) (we_lst (wa_cons (we_ix (ix_RANKS _ rfl rfl hu1) (we_glob rfl g_RANKS (relv_ref _)) (we_ix (ix_U hu1) (wv 0) we_int (fun _ _ => rfl)) (fun _ _ => rfl)) wa_nil)))
      (wss_cons (ws_if (wt_cmpR (op_inU hu) (we_ix (ix_U hu1) (wv 0) we_int (fun _ _ => rfl)) (we_tup (wa_consts rfl)) (by with_unfolding_all rfl)) (wss_one (ws_ret (we_op op_plus (wv 1) (we_lst (wa_cons (we_ix (ix_U hu1) (wv 0) we_int (fun _ _ => rfl)) wa_nil))))) wss_nil)
      (wss_cons (ws_for PassesOwn.never rfl (wi_U (we_ix (ix_U hu1) (wv 0) we_int (fun _ _ => rfl))) (wg_name (i := 2) sc_order_parts.nd rfl (Or.inl rfl)) (wss_one (ws_expr (we_bm PySem.F.plainAttrs_list PySem.F.slot_list_extend PySem.F.type_list_extend mt_extend (wv 1) (wa_cons (we_lst (wa_cons (we_glob rfl g_GOES_ON (relv_int _ _)) (wa_cons (we_ix (ix_U hu1) (wv 2) we_int (fun _ _ => rfl)) (wa_cons (we_ix (ix_U hu1) (wv 2) we_int (fun _ _ => rfl)) wa_nil)))) wa_nil)))))
      (wss_one (ws_ret (we_op op_plus (wv 1) (we_lst (wa_cons (we_glob rfl g_ENDS (relv_int _ _)) wa_nil)))))))), ?_⟩
  obtain ⟨a, y, rfl, ha, hy⟩ := hx.two
  refine ⟨_, rfl, .inr (.inl ⟨a, _, 0, _, rfl, rfl, SqT.of ha, rfl, _, _, rfl, rfl, rank_tag x, (by show 1 ≤ sizeLine; decide), fun p hp => ?_⟩)⟩
  have s1 : Same H (upd H p (.lst [.int (rank x)])) := same_new hp _
  have ha1 := s1 _ _ ha
  refine ⟨_, rfl, .inr (.inl ⟨a, _, 0, _, rfl, rfl, SqT.of ha1, rfl, (by show 2 ≤ sizeLine; decide), fun c hc => ?_⟩)⟩
  have s2 : Same H (upd (upd H p (.lst [.int (rank x)])) c (.tup [.str "num", .str "word"])) := s1.trans (same_new hc _)
  have ha2 := s2 _ _ ha
  have hpc : p ≠ c := fun z => by subst z; rw [upd_same] at hc; cases hc
  have hp2 : (upd (upd H p (.lst [.int (rank x)])) c (.tup [.str "num", .str "word"])) p = some (.lst [.int (rank x)]) := by rw [upd_ne hpc]; exact upd_same
  generalize hH2 : upd (upd H p (.lst [.int (rank x)])) c (.tup [.str "num", .str "word"]) = H2 at s2 ha2 hp2 ⊢
  refine .inl ⟨c, [.str "num", .str "word"], rfl, .inr (SqT.of (by rw [← hH2]; exact upd_same)), rfl, rfl, _, rfl, ?_⟩
  have t2 : Tups H H2 := s2.tups
  -- a number, a word
  refine ite2 (fun hin0 => ?_) (fun hin0 => ?_)
  · have hin : inV (V.str (tagS x)) [.str "num", .str "word"] = true := hin0
    obtain ⟨z, e1, e2⟩ : ∃ z : KE, pts x = [.k (.i (rank x)), .k z] ∧ y = kv z := by
      cases x with
      | num i => exact ⟨.i i, by rw [pts]; rfl, by rw [restD, IsDt] at hy; exact hy⟩
      | word i => exact ⟨.s i, by rw [pts]; rfl, by rw [restD, IsDt] at hy; exact hy⟩
      | row ps => exact absurd (show inV (V.str "row") [.str "num", .str "word"] = true from hin) (by decide +kernel)
      | bag ps => exact absurd (show inV (V.str "bag") [.str "num", .str "word"] = true from hin) (by decide +kernel)
    refine ⟨_, rfl, _, rfl, .inr (.inl ⟨a, _, 1, _, rfl, rfl, SqT.of ha2, rfl, (by show 1 ≤ sizeLine; decide), fun l hl => ?_⟩)⟩
    have hl2 : (upd H2 l (.lst [y])) p = some (.lst [.int (rank x)]) := by rw [upd_ne (ne_of_none hp2 hl)]; exact hp2
    refine .inr (.inr (.inl ⟨p, l, _, _, rfl, rfl, hl2, upd_same, (by show 1 + 1 ≤ sizeLine; decide), fun o ho => ?_⟩))
    have s4 := (s2.trans (same_new hl _)).trans (same_new ho (.lst ([V.int (rank x)] ++ [y])))
    refine q o _ _ s4 ((s2.trans (same_new hl _)).free ho) upd_same ?_
    rw [e1, e2]
    exact ⟨_, _, rfl, rfl, _, _, rfl, rfl, rfl⟩
  -- a row, a bag
  · have hin : ¬ inV (V.str (tagS x)) [.str "num", .str "word"] = true := hin0
    obtain ⟨b, ys, g, e1, hb, hg, e2⟩ : ∃ (b : Addr) (ys : List V) (g : Nat → List Pt), y = .ref b ∧ H b = some (.tup ys) ∧ (∀ i z, ys[i]? = some z → ∃ c u1 u2, z = .ref c ∧ H c = some (.tup [u1, u2]) ∧ (g i).length = 3 ∧ IsPts H (g i) [.int 1, u1, u2]) ∧
        pts x = .k (.i (rank x)) :: (List.range ys.length).flatMap g ++ [.k (.i 0)] := by
      cases x with
      | num i => exact absurd (show inV (V.str "num") [.str "num", .str "word"] = true by decide +kernel) hin
      | word i => exact absurd (show inV (V.str "word") [.str "num", .str "word"] = true by decide +kernel) hin
      | row ps =>
        rw [restD, IsDt] at hy
        obtain ⟨b, ys, e, hb, hd⟩ := hy
        have hl : ys.length = ps.length := by rw [hd.length, datR_map, List.length_map]
        refine ⟨b, ys, (fun i => ((ps[i]?).map fun q => [Pt.k (.i 1), .k (.s q.1), .v q.2]).getD []), e, hb, fun i z hz => ?_, ?_⟩
        · obtain ⟨f1, x1, c1, w1, h1, h2, h3, h4⟩ := isPts_R hd hz
          refine ⟨c1, _, _, h2, h3, by show (((ps[i]?).map _).getD []).length = 3; rw [h1]; rfl, ?_⟩
          show IsPts H (((ps[i]?).map _).getD []) _
          rw [h1]
          exact ⟨_, _, rfl, rfl, _, _, rfl, rfl, _, _, rfl, h4, rfl⟩
        · rw [pts, ptsR_eq, hl]
          show _ = Pt.k (.i 2) :: _
          congr 1
          congr 1
          show ps.flatMap _ = _
          exact flat_range _ ps
      | bag ps =>
        rw [restD, IsDt] at hy
        obtain ⟨b, ys, e, hb, hd⟩ := hy
        have hl : ys.length = ps.length := by rw [hd.length, datB_map, List.length_map]
        refine ⟨b, ys, (fun i => ((ps[i]?).map fun q => [Pt.k (.i 1), .v q.1, .k (.i q.2)]).getD []), e, hb, fun i z hz => ?_, ?_⟩
        · obtain ⟨x1, n1, c1, w1, h1, h2, h3, h4⟩ := isPts_B hd hz
          refine ⟨c1, _, _, h2, h3, by show (((ps[i]?).map _).getD []).length = 3; rw [h1]; rfl, ?_⟩
          show IsPts H (((ps[i]?).map _).getD []) _
          rw [h1]
          exact ⟨_, _, rfl, rfl, _, _, rfl, h4, _, _, rfl, rfl, rfl⟩
        · rw [pts, ptsB_eq, hl]
          show _ = Pt.k (.i 3) :: _
          congr 1
          congr 1
          show ps.flatMap _ = _
          exact flat_range _ ps
    subst e1
    have hlen3 : ∀ i, i ≤ ys.length → ((List.range i).flatMap g).length = 3 * i := fun i => by
      induction i with
      | zero => intro _; rfl
      | succ i ih =>
        intro hi
        obtain ⟨_, _, _, _, _, h3, _⟩ := hg i ys[i] (List.getElem?_eq_getElem hi)
        rw [List.range_succ, List.flatMap_append, List.length_append, ih (by omega)]
        simp [h3]
        omega
    have hys : 3 * ys.length + 2 ≤ 10000000 := by
      rw [e2] at hlen
      simp only [List.length_cons, List.length_append, hlen3 ys.length (Nat.le_refl _), List.length_nil] at hlen
      omega
    refine .inr ⟨_, rfl, .inr (.inl ⟨a, _, 1, _, rfl, rfl, SqT.of ha2, rfl, b, rfl, ⟨ys, SqT.of (s2 _ _ hb)⟩, for_tup (K := K) (a := b) (xs := ys) (fun i σ H' => ∃ (us : List V) (vp : Option V), σ = [some (.ref a), some (.ref p), vp] ∧ Ex p H2 H' ∧ H' p = some (.lst us) ∧ IsPts H' (.k (.i (rank x)) :: (List.range i).flatMap g) us)
      ⟨[.int (rank x)], none, rfl, .refl _ _, hp2, ⟨_, _, rfl, rfl, rfl⟩⟩ (fun i σ H' _ ⟨us, vp, _, ex, _, _⟩ => SqT.of (ex _ _ (ne_of (s2 _ _ hb) hp2 (by intro z; cases z)) (s2 _ _ hb))) ?_ ?_⟩)⟩
    · rintro i z σ H' hz ⟨us, vp, rfl, ex, hus, hpt⟩
      have hi : i < ys.length := (List.getElem?_eq_some_iff.mp hz).1
      obtain ⟨c', u1, u2, rfl, hc', h3, hg3⟩ := hg i z hz
      have hc2 : H' c' = some (.tup [u1, u2]) := ex _ _ (ne_of (s2 _ _ hc') hp2 (by intro z; cases z)) (s2 _ _ hc')
      have tH : Tups H H' := fun d xs e => ex _ _ (ne_of (s2 _ _ e) hp2 (by intro z; cases z)) (s2 _ _ e)
      have hul : us.length = 1 + 3 * i := by rw [hpt.length, List.length_cons, hlen3 i (by omega)]; omega
      refine ⟨_, rfl, .inl ⟨rfl, us, SqL.of hus⟩, _, rfl, .inr (.inl ⟨c', _, 0, _, rfl, rfl, SqT.of hc2, rfl, _, rfl, .inr (.inl ⟨c', _, 1, _, rfl, rfl, SqT.of hc2, rfl, (by show 3 ≤ sizeLine; decide), fun l hl => ?_⟩)⟩)⟩
      have hl2 : (upd H' l (.lst [.int 1, u1, u2])) p = some (.lst us) := by rw [upd_ne (ne_of_none hus hl)]; exact hus
      refine ⟨p, l, us, _, rfl, rfl, hl2, upd_same, by rw [hul]; exact Nat.le_trans (show 1 + 3 * i + 3 ≤ 10000000 by omega) (by decide), ?_⟩
      have tN : Tups H' (upd (upd H' l (.lst [.int 1, u1, u2])) p (.lst (us ++ [.int 1, u1, u2]))) := (Tups.new hl _).trans (Tups.lst hl2)
      refine ⟨us ++ [.int 1, u1, u2], _, rfl, ex.trans ((ex_new hl).trans ex_upd), upd_same, ?_⟩
      rw [List.range_succ, List.flatMap_append, ← List.cons_append]
      refine (hpt.mono tN).append ?_
      simpa using hg3.mono (tH.trans tN)
    · rintro σ H' ⟨us, vp, rfl, ex, hus, hpt⟩
      have hul : us.length = 1 + 3 * ys.length := by rw [hpt.length, List.length_cons, hlen3 ys.length (Nat.le_refl _)]; omega
      refine ⟨_, rfl, (by show 1 ≤ sizeLine; decide), fun l hl => ?_⟩
      have hl2 : (upd H' l (.lst [.int 0])) p = some (.lst us) := by rw [upd_ne (ne_of_none hus hl)]; exact hus
      refine .inr (.inr (.inl ⟨p, l, us, _, rfl, rfl, hl2, upd_same, by rw [hul]; exact Nat.le_trans (show 1 + 3 * ys.length + 1 ≤ 10000000 by omega) (by decide), fun o ho => ?_⟩))
      have sH : Same H H' := fun d od e => ex d od (fun z => by subst z; rw [hp] at e; cases e) (s2 d od e)
      have s4 := (sH.trans (same_new hl _)).trans (same_new ho (.lst (us ++ [V.int 0])))
      refine q o _ _ s4 ((sH.trans (same_new hl _)).free ho) upd_same ?_
      rw [e2]
      refine IsPts.append (IsPts.mono ((Tups.new hl _).trans (Tups.new ho _)) hpt) ⟨_, _, rfl, rfl, rfl⟩

theorem sc_unfolded : FnScope ["whole", "parts_of", "found", "waiting", "part"] ["whole", "parts_of"] (defScope (top 4)) := ⟨rfl, rfl, rfl, by decide +kernel, rfl, by decide +kernel, by decide +kernel⟩
/-- a value, unfolded by its parts: its key, in a new list -/
def spUnf (fP : Addr) : Sp := fun vs H Q _ => ∃ (v : V) (x : Val), vs = [v, .ref fP] ∧ IsVal H x v ∧ (key x).length ≤ 5000000 ∧
  ∀ (p : Addr) (H' : Hp), Same H H' → H p = none → H' p = some (.lst ((key x).map kv)) → Q (.ref p) H'
theorem dat_tup {H : Hp} {x : Val} {v : V} (h : IsVal H x v) : ∃ a xs, v = .ref a ∧ H a = some (.tup xs) := by
  obtain ⟨a, w, e, h1, _⟩ := h.two; exact ⟨a, _, e, h1⟩
theorem ok_unf (T : Tx mg) (D : Df K mg "unfolded" (top 4) f fd ["whole", "parts_of"]) (D_parts : Df K mg "order_parts" (top 5) f_parts fd_parts ["value"]) (GV : FnOk P w K mg base CX0 1 f_parts fd_parts ["value"] spParts) :
    FnOk P w K mg base CX0 2 f fd ["whole", "parts_of"] (spUnf f_parts) := by
  refine D.fn.okH sc_unfolded (fun vs H Q E h => ?_) (fun cdv A outer s H vs Q E hr h => ?_)
  · obtain ⟨v, x, rfl, _⟩ := h; rfl
  obtain ⟨v, x, rfl, hx, hlen, q⟩ := h
  have hu := u110 hr
  have hu0 := u0 hr
  have hu1 := hu_of hr
  have kV := D_parts.kp
  have bV := D_parts.b
  have hrV := hr
  refine ⟨_, (wss_cons (ws_set (i := 2) sc_unfolded.nd rfl (Or.inl rfl) (we_lst wa_nil))
      (wss_cons (ws_set (i := 3) sc_unfolded.nd rfl (Or.inl rfl) (we_lst (wa_cons (wv 0) wa_nil)))
      (wss_cons (ws_while PassesOwn.never (wt_truth (wv 3) (fun _ => rfl)) (wss_cons (ws_set (i := 4) sc_unfolded.nd rfl (Or.inl rfl) (we_bm0 PySem.F.plainAttrs_list PySem.F.slot_list_pop PySem.F.type_list_pop mt_pop (wv 3)))
      (wss_one (ws_if (wt_val (we_callB call_isi rfl T.z_isinstance bt_isinstance (wa_cons (wv 4) (wa_cons (we_bltn rfl T.z_tuple bt_tuple (relv_ty _)) wa_nil)))) (wss_one (ws_expr (we_bm PySem.F.plainAttrs_list PySem.F.slot_list_extend PySem.F.type_list_extend mt_extend (wv 3) (wa_cons (we_rev (we_callV (i := 1) GV hrV rfl (Or.inl rfl) kV bV .nil pass0 (wa_cons (wv 4) wa_nil))) wa_nil)))) (wss_one (ws_expr (we_bm PySem.F.plainAttrs_list PySem.F.slot_list_append PySem.F.type_list_append mt_append (wv 2) (wa_cons (wv 4) wa_nil))))))))
      (wss_one (ws_ret (wv 2)))))), ?_⟩
  refine ⟨(by show 0 ≤ sizeLine; decide), fun p hp => ?_⟩
  refine ⟨_, rfl, (by show 1 ≤ sizeLine; decide), fun l hl => ?_⟩
  have s1 : Same H (upd H p (.lst [])) := same_new hp _
  have s2 : Same H (upd (upd H p (.lst [])) l (.lst [v])) := s1.trans (same_new hl _)
  have hpl : p ≠ l := fun z => by subst z; rw [upd_same] at hl; cases hl
  have hl0 : H l = none := s1.free hl
  refine ⟨fun m σ H' => ∃ (ks : List KE) (pend : List Pt) (us : List V) (vp : Option V), σ = [some v, some (.ref f_parts), some (.ref p), some (.ref l), vp] ∧ Same H H' ∧ H' p = some (.lst (ks.map kv)) ∧ H' l = some (.lst us) ∧ IsPts H' pend us ∧ key x = ks ++ flatK pend.reverse ∧ m = msL pend,
    ⟨_, [], [.v x], [v], none, rfl, s2, by rw [upd_ne hpl]; exact upd_same, upd_same, ⟨v, [], rfl, IsDt.mono s2.tups hx, rfl⟩, by simp [flatK, Pt.key], rfl⟩, ?_⟩
  rintro m σ H' ⟨ks, pend, us, vp, rfl, sH, hP, hL, hpt, hkey, rfl⟩
  refine ⟨_, rfl, _, .inl ⟨us, SqL.of hL, rfl⟩, ?_⟩
  have hklen : ks.length + (flatK pend).length = (key x).length := by
    rw [hkey, List.length_append]
    congr 1
    unfold flatK
    simp [List.length_flatMap]
  have hpend := pts_len pend
  cases hpe : pend.reverse with
  | nil =>
    have e : pend = [] := by simpa using congrArg List.reverse hpe
    subst e
    rw [show us = [] from hpt]
    refine iteF ?_
    refine ⟨_, rfl, q p H' sH hp ?_⟩
    rw [hP, hkey]
    simp [flatK]
  | cons top rest =>
    have e : pend = rest.reverse ++ [top] := by simpa using congrArg List.reverse hpe
    subst e
    obtain ⟨ys, y, rfl, hys, hy⟩ := hpt.last
    have ne : (!(ys ++ [y]).isEmpty) = true := by simp
    refine iteP ne ?_
    refine ⟨fun σ' H'' => ∃ m', m' < msL (rest.reverse ++ [top]) ∧ ∃ (ks : List KE) (pend : List Pt) (us : List V) (vp : Option V), σ' = [some v, some (.ref f_parts), some (.ref p), some (.ref l), vp] ∧ Same H H'' ∧ H'' p = some (.lst (ks.map kv)) ∧ H'' l = some (.lst us) ∧ IsPts H'' pend us ∧ key x = ks ++ flatK pend.reverse ∧ m' = msL pend,
      fun σ' H'' z => z, ?_⟩
    have hylen : ys.length = rest.length := by rw [hys.length, List.length_reverse]
    refine ⟨_, rfl, .inl ⟨rfl, _, SqL.of hL⟩, l, ys ++ [y], y, rfl, rfl, hL, by simp, ?_⟩
    rw [List.dropLast_concat]
    have sH3 : Same H (upd H' l (.lst ys)) := fun b o e => by rw [upd_ne (ne_of_none e hl0)]; exact sH b o e
    have t3 : Tups H' (upd H' l (.lst ys)) := Tups.lst hL
    have hP3 : (upd H' l (.lst ys)) p = some (.lst (ks.map kv)) := by rw [upd_ne hpl]; exact hP
    have hL3 : (upd H' l (.lst ys)) l = some (.lst ys) := upd_same
    have hys3 := hys.mono t3
    have hy3 := hy.mono t3
    generalize upd H' l (.lst ys) = H3 at sH3 t3 hP3 hL3 hys3 hy3 ⊢
    cases top with
    | k e =>
      have hfalse : isiV H3 y "tuple" false := by
        rw [show y = kv e from hy3]
        cases e with
        | i n => exact .inl ⟨rfl, .inl ⟨⟨n, rfl⟩, rfl⟩⟩
        | s z => exact .inl ⟨rfl, .inr (.inl ⟨⟨z, rfl⟩, rfl⟩)⟩
      refine ⟨_, rfl, _, _, _, rfl, hfalse, _, rfl, ?_⟩
      refine iteF ?_
      refine ⟨_, rfl, .inl ⟨rfl, _, SqL.of hP3⟩, _, rfl, p, _, y, rfl, rfl, hP3, ?_, ?_⟩
      · rw [List.length_map]
        exact Nat.lt_of_le_of_lt (show ks.length ≤ 5000000 by omega) (by decide)
      · refine ⟨msL rest.reverse, ?_, ks ++ [e], rest.reverse, ys, _, rfl, fun b o z => by rw [upd_ne (ne_of_none z hp)]; exact sH3 b o z, ?_, by rw [upd_ne hpl.symm]; exact hL3, hys3.mono (Tups.lst hP3), ?_, rfl⟩
        · rw [msL_app]; show _ < _ + msL [.k e]; simp [msL, Pt.ms]
        · rw [upd_same, show y = kv e from hy3]; simp
        · rw [hkey]; simp [flatK, Pt.key]
    | v x' =>
      obtain ⟨a', xs', rfl, ha'⟩ := dat_tup hy3
      refine ⟨_, rfl, _, _, _, rfl, .inl ⟨rfl, .inr (.inr ⟨⟨a', xs', rfl, ha'⟩, rfl⟩)⟩, _, rfl, ?_⟩
      refine iteT ?_
      have hk' : (key x').length ≤ (key x).length := by
        rw [hkey]; simp [flatK, Pt.key]; omega
      have hpl' : (pts x').length ≤ (key x').length := by rw [← flat_pts]; exact pts_len _
      refine ⟨_, rfl, .inl ⟨rfl, _, SqL.of hL3⟩, rfl, _, rfl, _, x', rfl, hy3, by omega, fun p' us' H4 s4 hp' hus hpt' => ?_⟩
      refine ⟨p', us', rfl, SqL.of hus, fun r hr' => ?_⟩
      have hL5 : (upd H4 r (.lst us'.reverse)) l = some (.lst ys) := by rw [upd_ne (ne_of_none (s4 _ _ hL3) hr')]; exact s4 _ _ hL3
      have hP5 : (upd H4 r (.lst us'.reverse)) p = some (.lst (ks.map kv)) := by rw [upd_ne (ne_of_none (s4 _ _ hP3) hr')]; exact s4 _ _ hP3
      have t5 : Tups H3 (upd H4 r (.lst us'.reverse)) := s4.tups.trans (Tups.new hr' _)
      have hul : us'.length = (pts x').length := hpt'.length
      have hrest : ks.length + rest.length + (key x').length ≤ (key x).length := by
        have := pts_len rest
        rw [hkey]; simp [flatK, Pt.key] at *; omega
      refine ⟨l, r, ys, _, rfl, rfl, hL5, upd_same, ?_, ?_⟩
      · rw [List.length_reverse, hul, hylen]
        exact Nat.le_trans (show rest.length + (pts x').length ≤ 5000000 by omega) (by decide)
      · refine ⟨msL (rest.reverse ++ (pts x').reverse), ?_, ks, rest.reverse ++ (pts x').reverse, _, _, rfl, fun b o z => ?_, by rw [upd_ne hpl]; exact hP5, upd_same, ?_, ?_, rfl⟩
        · rw [msL_app, msL_app, msL_rev (pts x')]
          have := ms_pts x'
          show _ < _ + msL [.v x']
          simp only [msL, List.map_cons, List.map_nil, List.sum_cons, List.sum_nil, Pt.ms] at *
          omega
        · rw [upd_ne (ne_of_none z hl0), upd_ne (ne_of_none (s4 _ _ (sH3 b o z)) hr')]; exact s4 _ _ (sH3 b o z)
        · exact IsPts.append (hys3.mono (t5.trans (Tups.lst hL5))) (hpt'.reverse.mono ((Tups.new hr' _).trans (Tups.lst hL5)))
        · rw [hkey]
          simp only [List.reverse_append, List.reverse_reverse, List.reverse_cons, List.reverse_nil, List.nil_append]
          unfold flatK
          rw [List.flatMap_append, List.flatMap_append]
          have := flat_pts x'
          unfold flatK at this
          rw [this]
          simp [Pt.key]

theorem sc_order_key : FnScope ["value"] ["value"] (defScope (top 6)) := ⟨rfl, rfl, rfl, by decide +kernel, rfl, by decide +kernel, by decide +kernel⟩
def spKey : Sp := fun vs H Q _ => ∃ (v : V) (x : Val), vs = [v] ∧ IsVal H x v ∧ (key x).length ≤ 5000000 ∧
  ∀ (p : Addr) (H' : Hp), Same H H' → H' p = some (.tup ((key x).map kv)) → Q (.ref p) H'
theorem ok_key (T : Tx mg) (D : Df K mg "order_key" (top 6) f fd ["value"]) (D_order_parts : Df K mg "order_parts" (top 5) f_parts fd_parts ["value"]) (D_unfolded : Df K mg "unfolded" (top 4) f_unf fd_unf ["whole", "parts_of"])
    (G_unfolded : FnOk P w K mg base CX0 2 f_unf fd_unf ["whole", "parts_of"] (spUnf f_parts)) : FnOk P w K mg base CX0 3 f fd ["value"] spKey := by
  refine D.fn.okH sc_order_key (fun vs H Q E h => ?_) (fun cdv A outer s H vs Q E hr h => ?_)
  · obtain ⟨v, x, rfl, _⟩ := h; rfl
  obtain ⟨v, x, rfl, hx, hlen, q⟩ := h
  refine ⟨_, (wss_one (ws_ret (we_callTy call_tuple_of rfl T.z_tuple bt_tuple (wa_cons (we_call G_unfolded (hr.mono (by omega)) rfl D_unfolded.mg D_unfolded.kp D_unfolded.b .nil pass0 (wa_cons (wv 0) (wa_cons (we_glob rfl D_order_parts.mg (relv_ref _)) wa_nil))) wa_nil)))), ?_⟩
  refine ⟨_, rfl, v, x, rfl, hx, hlen, fun p H' s1 hp hP => ⟨p, _, rfl, .inl ⟨SqL.of hP, fun t ht => ?_⟩⟩⟩
  exact q t _ (s1.trans (same_new ht _)) upd_same

end
end K74
end
section
set_option Elab.async false
set_option linter.all false
set_option maxRecDepth 100000
set_option maxHeartbeats 4000000
namespace K74
open PySem L2 Kn
theorem atI_mem {α : Type} {xs : List α} {r : Int} (h0 : 0 ≤ r) (h1 : r < xs.length) : ∃ v, atI xs r = some v ∧ v ∈ xs := by
  obtain ⟨k, rfl⟩ : ∃ k : Nat, r = (k : Int) := ⟨r.toNat, by omega⟩
  have hk : k < xs.length := by omega
  exact ⟨xs[k], atI_nat (List.getElem?_eq_getElem hk), List.getElem_mem hk⟩
theorem mod_lt (a k : Int) (h : 0 < k) : 0 ≤ a % k ∧ a % k < k := ⟨Int.emod_nonneg a (by omega), Int.emod_lt_of_pos a h⟩
/-- the values of each table -/
inductive Sh : Str → Val → Prop
  | r (n : Int) : Sh "r" (.num n)
  | q (n : Int) (s : Str) : s.length ≤ 2 → Sh "q" (.row [("a", .num n), ("w", .word s)])
  | p (n m : Int) : Sh "p" (.row [("a", .num n), ("b", .row [("a", .num m)])])
def nm3 (s : Str) : Prop := s = "p" ∨ s = "q" ∨ s = "r"
theorem Sh.bd {s : Str} {x : Val} (h : Sh s x) : Bd 7 2 x := by
  cases h with
  | r n => simp only [Bd]
  | q n s hs =>
    simp only [Bd]
    refine ⟨by simp, fun p hp => ?_⟩
    simp only [List.mem_cons, List.not_mem_nil, or_false] at hp
    rcases hp with rfl | rfl
    · exact ⟨by show Str.length "a" ≤ 100; decide, by simp only [Bd]⟩
    · exact ⟨by show Str.length "w" ≤ 100; decide, by simp only [Bd]; omega⟩
  | p n m =>
    simp only [Bd]
    refine ⟨by simp, fun p hp => ?_⟩
    simp only [List.mem_cons, List.not_mem_nil, or_false] at hp
    rcases hp with rfl | rfl
    · exact ⟨by show Str.length "a" ≤ 100; decide, by simp only [Bd]⟩
    · refine ⟨by show Str.length "b" ≤ 100; decide, ?_⟩
      simp only [Bd]
      refine ⟨by simp, fun p hp => ?_⟩
      have e : p = ((Str.ofString "a", Val.num m) : Str × Val) := by simpa using hp
      subst e
      exact ⟨by show Str.length "a" ≤ 100; decide, by simp only [Bd]⟩
section
variable {P : Program} {w : World} {K : PySem.W.Frag} {mg : Str → Option Value} {base : Heap} {f f_next : Addr} {fd fd_next : FuncData}
theorem sc__law_value : FnScope ["deck", "name", "cell", "number", "other"] ["deck", "name"] (defScope (top 12)) := ⟨rfl, rfl, rfl, by decide +kernel, rfl, by decide +kernel, by decide +kernel⟩
def spValue : Sp := fun vs H Q _ => ∃ (p c : Addr) (n : Int) (s : Str), vs = [.ref p, .str s] ∧ Dk H p c n ∧ n < 1000000000000 ∧ nm3 s ∧
  ∀ (x : Val) (v : V) (H' : Hp), Ex p H H' → Dk H' p c (n + 1) → IsVal H' x v → Sh s x → Q v H'
theorem ok_value (T : Tx mg) (D : Df K mg "_law_value" (top 12) f fd ["deck", "name"]) (D__law_next : Df K mg "_law_next" (top 11) f_next fd_next ["deck"]) (G__law_next : FnOk P w K mg base CX0 1 f_next fd_next ["deck"] spNext) :
    FnOk P w K mg base CX0 2 f fd ["deck", "name"] spValue := by
  refine D.fn.okH sc__law_value (fun vs H Q E h => ?_) (fun cdv A outer s H vs Q E hr h => ?_)
  · obtain ⟨p, c, n, s, rfl, _⟩ := h; rfl
  obtain ⟨p, c, n, nm, rfl, dk, hn, h3, fin⟩ := h
  have hu := u110 hr
  have hu0 := u0 hr
  have hu1 := hu_of hr
  refine ⟨_, (wss_cons (ws_set (i := 2) sc__law_value.nd rfl (Or.inl rfl) (we_call G__law_next (hr.mono (by omega)) rfl D__law_next.mg D__law_next.kp D__law_next.b .nil pass0 (wa_cons (wv 0) wa_nil)))
      (wss_cons (ws_set (i := 3) sc__law_value.nd rfl (Or.inl rfl) (we_tup (wa_cons we_str (wa_cons (we_ix (ix_U hu1) (we_lst (wa_cons (we_op op_mod (wv 2) we_int) (wa_cons (we_op op_mod (wv 2) we_int) (wa_cons (we_op op_mod (wv 2) we_int) (wa_cons (we_op op_sub (we_op op_mod (we_op op_fdiv (wv 2) we_int) (we_op op_pow we_int we_int)) (we_op op_pow we_int we_int)) wa_nil))))) (we_op op_mod (we_op op_fdiv (wv 2) we_int) we_int) (fun _ _ => rfl)) wa_nil))))
      (wss_cons (ws_if (wt_cmpR (op_eqU hu) (wv 1) we_str (nomark _)) (wss_one (ws_ret (wv 3))) wss_nil)
      (wss_cons (ws_set (i := 4) sc__law_value.nd rfl (Or.inl rfl) (we_tup (wa_cons we_str (wa_cons (we_tup (wa_cons we_str (wa_cons (we_tup (wa_cons (we_tup (wa_cons we_str (wa_cons (we_tup (wa_cons we_str (wa_cons (we_op op_mod (we_op op_fdiv (wv 2) we_int) we_int) wa_nil))) wa_nil))) wa_nil)) wa_nil))) wa_nil))))
      (wss_cons (ws_if (wt_cmpR (op_eqU hu) (wv 1) we_str (nomark _)) (wss_one (ws_set (i := 4) sc__law_value.nd rfl (Or.inl rfl) (we_tup (wa_cons we_str (wa_cons (we_tup (wa_cons we_str (wa_cons (we_ix (ix_U hu1) (we_lst (wa_consts rfl)) (we_op op_mod (we_op op_fdiv (wv 2) we_int) we_int) (fun _ _ => rfl)) wa_nil))) wa_nil))))) wss_nil)
      (wss_one (ws_ret (we_tup (wa_cons we_str (wa_cons (we_tup (wa_cons (we_tup (wa_cons we_str (wa_cons (wv 3) wa_nil))) (wa_cons (wv 4) wa_nil))) wa_nil)))))))))), ?_⟩
  refine ⟨_, rfl, p, c, n, rfl, dk, hn, fun cell H1 ex1 dk1 => ?_⟩
  refine ⟨_, rfl, _, _, rfl, rfl, (by show (0 : Int) < 3; decide), ?_⟩
  refine ⟨_, rfl, _, _, rfl, rfl, (by show (0 : Int) < 3; decide), ?_⟩
  refine ⟨_, rfl, _, _, rfl, rfl, (by show (0 : Int) < 3; decide), ?_⟩
  refine ⟨_, rfl, _, _, rfl, rfl, ⟨by decide, by decide⟩, _, _, rfl, rfl, ⟨by decide, by decide, by decide⟩, _, _, rfl, rfl, (by show (0 : Int) < 10 ^ 12; decide), _, _, rfl, rfl, ⟨by decide, by decide, by decide⟩, _, _, rfl, rfl, (by show 4 ≤ sizeLine; decide), fun l hl => ?_⟩
  refine ⟨_, rfl, _, _, rfl, rfl, ⟨by decide, by decide⟩, _, _, rfl, rfl, (by show (0 : Int) < 4; decide), ?_⟩
  obtain ⟨b0, b1⟩ := mod_lt (cell / 7) 4 (by decide)
  obtain ⟨u, hu', hm⟩ := atI_mem (xs := [V.int (cell % 3), .int (cell % 3), .int (cell % 3), .int (cell / 3 % 10 ^ (12 : Int).toNat - 10 ^ (11 : Int).toNat)]) b0 b1
  have ui : ∃ i : Int, u = .int i := by
    simp only [List.mem_cons, List.not_mem_nil, or_false] at hm
    rcases hm with rfl | rfl | rfl | rfl <;> exact ⟨_, rfl⟩
  obtain ⟨i, rfl⟩ := ui
  refine .inl ⟨l, _, _, _, rfl, rfl, SqL.of upd_same, hu', (by show 2 ≤ sizeLine; decide), fun t ht => ?_⟩
  have s1 : Same H1 (upd (upd H1 l (.lst [V.int (cell % 3), .int (cell % 3), .int (cell % 3), .int (cell / 3 % 10 ^ (12 : Int).toNat - 10 ^ (11 : Int).toNat)])) t (.tup [.str "num", .int i])) := (same_new hl _).trans (same_new ht _)
  have it : (upd (upd H1 l (.lst [V.int (cell % 3), .int (cell % 3), .int (cell % 3), .int (cell / 3 % 10 ^ (12 : Int).toNat - 10 ^ (11 : Int).toNat)])) t (.tup [.str "num", .int i])) t = some (.tup [.str "num", .int i]) := upd_same
  generalize upd (upd H1 l (.lst [V.int (cell % 3), .int (cell % 3), .int (cell % 3), .int (cell / 3 % 10 ^ (12 : Int).toNat - 10 ^ (11 : Int).toNat)])) t (.tup [.str "num", .int i]) = H2 at s1 it ⊢
  have iv : IsVal H2 (.num i) (.ref t) := by unfold IsVal; rw [dat]; exact isDt_tup it (.cons (isDt_str _) (.one (isDt_int _)))
  have dk2 := dk1.keep s1
  have ex2 : Ex p H H2 := ex1.trans (Same.ex s1)
  refine ⟨_, rfl, .inl ⟨rfl, _, rfl, ?_⟩⟩
  refine ite2 (fun e1 => ?_) (fun e1 => ?_)
  · have : nm = "r" := by have := of_decide_eq_true e1; injection this
    subst this
    exact ⟨_, rfl, fin _ _ H2 ex2 dk2 iv (.r i)⟩
  have nr : nm ≠ "r" := fun z => e1 (by rw [z]; decide)
  refine ⟨_, rfl, _, _, rfl, rfl, ⟨by decide, by decide⟩, _, _, rfl, rfl, (by show (0 : Int) < 3; decide), (by show 2 ≤ sizeLine; decide), fun t1 h1 => ⟨(by show 2 ≤ sizeLine; decide), fun t2 h2 => ⟨(by show 1 ≤ sizeLine; decide), fun t3 h3' => ⟨(by show 2 ≤ sizeLine; decide), fun t4 h4 => ⟨(by show 2 ≤ sizeLine; decide), fun t5 h5 => ?_⟩⟩⟩⟩⟩
  have g1 := isDt_new (ds := [.str "num", .int (cell / 5 % 3)]) h1 (.cons (isDt_str _) (.one (isDt_int _)))
  have g2 := isDt_new (ds := [.str "a", .tup [.str "num", .int (cell / 5 % 3)]]) h2 (.cons (isDt_str _) (.one g1))
  have g3 := isDt_new h3' (.one g2)
  have g4 := isDt_new (ds := [.str "row", _]) h4 (.cons (isDt_str _) (.one g3))
  have g5 := isDt_new (ds := [.str "b", _]) h5 (.cons (isDt_str _) (.one g4))
  have s5 := ((((same_new h1 (.tup [.str "num", .int (cell / 5 % 3)])).trans (same_new h2 _)).trans (same_new h3' _)).trans (same_new h4 _)).trans (same_new h5 (.tup [.str "b", .ref t4]))
  generalize upd (upd (upd (upd (upd H2 t1 (.tup [.str "num", .int (cell / 5 % 3)])) t2 (.tup [.str "a", .ref t1])) t3 (.tup [.ref t2])) t4 (.tup [.str "row", .ref t3])) t5 (.tup [.str "b", .ref t4]) = H3 at g5 s5 ⊢
  have last : ∀ (u : V) (d : Dt) (H4 : Hp) (y : Str × Val), Same H2 H4 → IsDt H4 d u → d = .tup [.str y.1, dat y.2] → Sh nm (.row [("a", .num i), y]) →
      ∀ ta, H4 ta = none → ∀ tb, (upd H4 ta (.tup [.str "a", .ref t])) tb = none → ∀ tc, (upd (upd H4 ta (.tup [.str "a", .ref t])) tb (.tup [.ref ta, u])) tc = none → Q (.ref tc) (upd (upd (upd H4 ta (.tup [.str "a", .ref t])) tb (.tup [.ref ta, u])) tc (.tup [.str "row", .ref tb])) := by
    intro u d H4 y s4 iu ed sh ta ha tb hb tc hc
    have k1 := isDt_new (ds := [.str "a", dat (.num i)]) ha (.cons (isDt_str _) (.one (IsDt.mono s4.tups iv)))
    have k2 := isDt_new hb (.cons k1 (.one (IsDt.mono (same_new ha _).tups iu)))
    have k3 := isDt_new (ds := [.str "row", _]) hc (.cons (isDt_str _) (.one k2))
    have s6 := ((s4.trans (same_new ha (.tup [.str "a", .ref t]))).trans (same_new hb (.tup [.ref ta, u]))).trans (same_new hc (.tup [.str "row", .ref tb]))
    refine fin _ _ _ (ex2.trans (Same.ex s6)) (dk2.keep s6) ?_ sh
    show IsDt _ (dat (.row [("a", .num i), y])) _
    rw [dat, datR, datR, datR, ← ed]
    exact k3
  refine ⟨_, rfl, .inl ⟨rfl, _, rfl, ?_⟩⟩
  refine ite2 (fun e2 => ?_) (fun e2 => ?_)
  · have eq : nm = "q" := by have := of_decide_eq_true e2; injection this
    subst eq
    refine ⟨(by show 3 ≤ sizeLine; decide), fun l2 hl2 => ?_⟩
    obtain ⟨c0, c1⟩ := mod_lt (cell / 5) 3 (by decide)
    obtain ⟨u, hu2, hm2⟩ := atI_mem (xs := [V.str "ab", .str "c", .str "ba"]) c0 c1
    have us : ∃ z : Str, u = .str z ∧ z.length ≤ 2 := by
      simp only [List.mem_cons, List.not_mem_nil, or_false] at hm2
      rcases hm2 with rfl | rfl | rfl <;> exact ⟨_, rfl, by decide⟩
    obtain ⟨z, rfl, lz⟩ := us
    refine ⟨_, rfl, _, _, rfl, rfl, ⟨by decide, by decide⟩, _, _, rfl, rfl, (by show (0 : Int) < 3; decide), .inl ⟨l2, _, _, _, rfl, rfl, SqL.of upd_same, hu2, (by show 2 ≤ sizeLine; decide), fun t6 h6 => ⟨(by show 2 ≤ sizeLine; decide), fun t7 h7 => ?_⟩⟩⟩
    have j1 := isDt_new (ds := [.str "word", .str z]) h6 (.cons (isDt_str _) (.one (isDt_str _)))
    have j2 := isDt_new (ds := [.str "w", _]) h7 (.cons (isDt_str _) (.one j1))
    have s7 := ((s5.trans (same_new hl2 (.lst [V.str "ab", .str "c", .str "ba"]))).trans (same_new h6 (.tup [.str "word", .str z]))).trans (same_new h7 (.tup [.str "w", .ref t6]))
    exact ⟨_, rfl, (by show 2 ≤ sizeLine; decide), fun ta ha => ⟨_, rfl, (by show 2 ≤ sizeLine; decide), fun tb hb => ⟨(by show 2 ≤ sizeLine; decide), fun tc hc => last _ _ _ ("w", .word z) s7 j2 (by rw [dat]) (.q i z lz) ta ha tb hb tc hc⟩⟩⟩
  · have eq : nm = "p" := by
      rcases h3 with z | z | z
      · exact z
      · exact absurd (by rw [z]; decide) e2
      · exact absurd z nr
    subst eq
    exact ⟨_, rfl, (by show 2 ≤ sizeLine; decide), fun ta ha => ⟨_, rfl, (by show 2 ≤ sizeLine; decide), fun tb hb => ⟨(by show 2 ≤ sizeLine; decide), fun tc hc => last _ _ _ ("b", .row [("a", .num (cell / 5 % 3))]) s5 g5 (by rw [dat, datR, datR, dat]) (.p i _) ta ha tb hb tc hc⟩⟩⟩
end
end K74
end
section
set_option linter.all false
namespace Kn
open PySem
/-! two lists side by side: values and their counts -/
theorem cnt_filter (v : Val) (l : List (Val × Int)) : cnt v (l.filter fun q => decide (q.2 ≠ 0)) = cnt v l := by
  induction l with
  | nil => rfl
  | cons p l ih =>
    rw [List.filter_cons, cnt]
    by_cases c : p.2 = 0
    · rw [if_neg (by simp [c]), ih]
      split <;> omega
    · rw [if_pos (by simp [c]), cnt, ih]
theorem rise_zip {ys : List Val} {cs : List Int} (h : RiseV ys) : Rise (ys.zip cs) := by
  induction ys generalizing cs with
  | nil => exact .nil
  | cons y ys ih =>
    cases cs with
    | nil => exact .nil
    | cons c cs =>
      have h' := List.pairwise_cons.mp h
      refine List.pairwise_cons.mpr ⟨fun q hq => h'.1 q.1 (List.of_mem_zip hq).1, ih h'.2⟩
theorem bag_of_zip {xs : List (Val × Int)} {ys : List Val} {cs : List Int} (h : RiseV ys) (hc : ∀ v, cnt v (ys.zip cs) = cnt v xs) : IsBag xs ((ys.zip cs).filter fun q => decide (q.2 ≠ 0)) :=
  ⟨(rise_zip h).sublist List.filter_sublist, fun q hq => by have := (List.mem_filter.mp hq).2; simpa using this, fun v => by rw [cnt_filter, hc]⟩
/-- the keys once: values met, with their sums, in any order -/
theorem bag_of_perm {xs : List (Val × Int)} {vs ys : List Val} (f : Val → Int) (hp : ys.Perm vs) (hr : RiseV ys) (hf : ∀ v ∈ vs, f v = cnt v xs) (hn : ∀ v, v ∉ vs → cnt v xs = 0) : IsBag xs ((ys.map fun y => (y, f y)).filter fun q => decide (q.2 ≠ 0)) := by
  have e : (ys.map fun y => (y, f y)) = ys.zip (ys.map f) := by
    clear hp hr
    induction ys with
    | nil => rfl
    | cons y ys ih => simp [ih]
  rw [e]
  refine bag_of_zip hr fun v => ?_
  rw [← e]
  by_cases c : v ∈ vs
  · have hy : v ∈ ys := hp.mem_iff.mpr c
    have rs : Rise (ys.map fun y => (y, f y)) := by rw [e]; exact rise_zip hr
    have := rs.cnt (p := (v, f v)) (List.mem_map.mpr ⟨v, hy, rfl⟩)
    rw [this]
    exact hf v c
  · rw [hn v c]
    refine cnt_none fun p hp' e' => ?_
    obtain ⟨y, hy, rfl⟩ := List.mem_map.mp hp'
    exact c (e' ▸ hp.mem_iff.mp hy)
end Kn
end
section
set_option Elab.async false
set_option linter.all false
set_option maxRecDepth 100000
set_option maxHeartbeats 4000000
namespace K74
open PySem L2 Kn
section
variable {K : PySem.W.Frag}
theorem dt_two {H : Hp} {a b : Dt} {v : V} (h : IsDt H (.tup [a, b]) v) : ∃ c y z, v = .ref c ∧ H c = some (.tup [y, z]) ∧ IsDt H a y ∧ IsDt H b z := by
  rw [IsDt] at h
  obtain ⟨c, xs, e, h1, h2⟩ := h
  rw [IsDts] at h2
  obtain ⟨y, ys, rfl, h3, h4⟩ := h2
  rw [IsDts] at h4
  obtain ⟨z, zs, rfl, h5, h6⟩ := h4
  rw [IsDts] at h6
  subst h6
  exact ⟨c, y, z, e, h1, h3, h5⟩
/-- an iterator over the items us of the list or tuple at p, whatever is made beside -/
structure GoodIt (J : It) (p : Addr) (o : HO) (us : List V) : Prop where
  go : ∀ i H', H' p = some o → i < us.length → J.go i H'
  yl : ∀ i H' x H'', H' p = some o → J.yld i H' x H'' → H'' = H' ∧ us[i]? = some x
  st : ∀ i H', H' p = some o → us.length ≤ i → J.stop i H'
theorem iU {σ : St} {H : Hp} {i : Nat} {p : Addr} {o : HO} {us : List V} {R : It → Hp → Prop} (e : σ[i]? = some (some (.ref p))) (ho : o = .lst us ∨ o = .tup us) (h : H p = some o) (key : ∀ J, GoodIt J p o us → R J H) :
    iList K (tVar i) σ H R ∨ iTup K (tVar i) σ H R := by
  rcases ho with rfl | rfl
  · exact .inl ⟨_, e, p, rfl, ⟨us, SqL.of h⟩, key _ ⟨fun i H' h l => ⟨us, _, SqL.of h, List.getElem?_eq_getElem l⟩, fun i H' x H'' h y => ⟨y.1, y.2 us (SqL.of h)⟩, fun i H' h l => ⟨us, SqL.of h, l⟩⟩⟩
  · exact .inr ⟨_, e, p, rfl, ⟨us, SqT.of h⟩, key _ ⟨fun i H' h l => ⟨us, _, SqT.of h, List.getElem?_eq_getElem l⟩, fun i H' x H'' h y => ⟨y.1, y.2 us (SqT.of h)⟩, fun i H' h l => ⟨us, SqT.of h, l⟩⟩⟩
end
/-- the key of a value, as a dict has it -/
def kx (x : Val) : List Key := (key x).map kk
theorem kx_inj {x y : Val} (h : kx x = kx y) : x = y := key_inj (List.map_inj_right (fun a b e => kk_inj e) |>.mp h)
theorem kx_kv (x : Val) : (kx x).map kV = (key x).map kv := map_kk _
theorem put_keys {κ : Type} [DecidableEq κ] {kvs : List (κ × V)} {k : κ} {v w : V} (h : valV kvs k = some w) : (putK kvs k v).map (·.1) = kvs.map (·.1) := by
  unfold putK
  rw [valV_any, h]
  simp only [Option.isSome_some, if_true, List.map_map]
  refine List.map_congr_left fun p hp => ?_
  show (if p.1 = k then (p.1, v) else p).1 = p.1
  split <;> rfl
/-- the two dicts: of the values met their values, their counts -/
structure Met (H : Hp) (a1 a2 : Addr) (xs : List (Val × Int)) (ms : List Val) : Prop where
  dv : ∃ kvs, H a1 = some (.dT kvs) ∧ kvs.map (·.1) = ms.map kx ∧ ∀ x ∈ ms, ∃ v, valV kvs (kx x) = some v ∧ IsVal H x v
  dc : ∃ kvs, H a2 = some (.dT kvs) ∧ kvs.map (·.1) = ms.map kx ∧ ∀ x ∈ ms, valV kvs (kx x) = some (.int (cnt x xs))
  nd : ms.Nodup
  from' : ∀ x ∈ ms, ∃ q ∈ xs, x = q.1
  all : ∀ q ∈ xs, q.1 ∈ ms
theorem val_none {kvs : List (List Key × V)} {ms : List Val} (h : kvs.map (·.1) = ms.map kx) {x : Val} (hx : x ∉ ms) : valV kvs (kx x) = none := by
  cases e : valV kvs (kx x) with
  | none => rfl
  | some v =>
    exfalso
    have := valV_in e
    rw [h] at this
    obtain ⟨y, hy, ey⟩ := List.mem_map.mp this
    exact hx (kx_inj ey ▸ hy)
section
variable {P : Program} {w : World} {K : PySem.W.Frag} {mg : Str → Option Value} {base : Heap} {f f_key : Addr} {fd fd_key : FuncData}
theorem sc_bag_of : FnScope ["pairs", "values", "counts", "value", "count", "key"] ["pairs"] (defScope (top 7)) := ⟨rfl, rfl, rfl, by decide +kernel, rfl, by decide +kernel, by decide +kernel⟩
/-- the bag of the pairs -/
def spBagOf : Sp := fun vs H Q _ => ∃ (p : Addr) (us : List V) (xs : List (Val × Int)), vs = [.ref p] ∧ (∃ o : HO, H p = some o ∧ (o = .lst us ∨ o = .tup us)) ∧ IsDts H (datB xs) us ∧ xs.length ≤ 60 ∧ (∀ q ∈ xs, (key q.1).length ≤ 5000000) ∧
  ∀ (v : V) (H' : Hp) (qs : List (Val × Int)), Same H H' → IsVal H' (.bag qs) v → IsBag xs qs → (∀ q ∈ qs, ∃ r ∈ xs, q.1 = r.1) → Q v H'
theorem ok_bagOf (T : Tx mg) (D : Df K mg "bag_of" (top 7) f fd ["pairs"]) (D_order_key : Df K mg "order_key" (top 6) f_key fd_key ["value"]) (G_order_key : FnOk P w K mg base CX0 3 f_key fd_key ["value"] spKey) :
    FnOk P w K mg base CX0 4 f fd ["pairs"] spBagOf := by
  refine D.fn.okH sc_bag_of (fun vs H Q E h => ?_) (fun cdv A outer s H vs Q E hr h => ?_)
  · obtain ⟨p, us, xs, rfl, _⟩ := h; rfl
  obtain ⟨p, us, xs, rfl, ⟨o, hp, ho⟩, hus, lx, kl, fin⟩ := h
  have hu := u110 hr
  have hu0 := u0 hr
  have hu1 := hu_of hr
  refine ⟨_, (wss_cons (ws_set (i := 1) sc_bag_of.nd rfl (Or.inr rfl) we_dnewT)
      (wss_cons (ws_set (i := 2) sc_bag_of.nd rfl (Or.inr rfl) we_dnewT)
      (wss_cons (ws_for PassesOwn.never rfl (wi_U (wv 0)) (wg_tup rfl (wgs_cons (wg_name (i := 3) sc_bag_of.nd rfl (Or.inl rfl)) (wgs_cons (wg_name (i := 4) sc_bag_of.nd rfl (Or.inl rfl)) wgs_nil))) (wss_cons (ws_set (i := 5) sc_bag_of.nd rfl (Or.inl rfl) (we_call G_order_key (hr.mono (by omega)) rfl D_order_key.mg D_order_key.kp D_order_key.b .nil pass0 (wa_cons (wv 3) wa_nil)))
      (wss_cons (ws_asg (wv 3) (wg_sub (wv 1) (wv 5) (set_U hu1)))
      (wss_one (ws_asg (we_op op_plus (we_dget2 hu1 (wv 2) (wv 5) we_int) (wv 4)) (wg_sub (wv 2) (wv 5) (set_U hu1)))))))
      (wss_one (ws_ret (we_tup (wa_cons we_str (wa_cons (we_callTy call_tuple_of rfl T.z_tuple bt_tuple (wa_cons (we_lc (Nt := ["key"]) (fr := [("values", 1), ("counts", 2)]) (LcOk.of (sc := defScope (top 7)) (N := ["pairs", "values", "counts", "value", "count", "key"]) rfl rfl (by decide +kernel)) rfl (wi_U (we_callB (call_sortT rfl) rfl T.z_sorted bt_sorted (wa_cons (wv 2) wa_nil))) (fun z => wg_name (i := 0) (by show (["key", "values", "counts"] : List Str).Nodup; decide +kernel) rfl (Or.inl rfl) (.inr rfl)) (fun z => tgt_name (by decide)) (fun z => wif_one (wt_cmpR (op_neU hu) (we_ix (ix_U hu1) (wv 2) (wv 0) (fun _ _ => rfl)) we_int (nomark _))) (fun z => (we_tup (wa_cons (we_ix (ix_U hu1) (wv 1) (wv 0) (fun _ _ => rfl)) (wa_cons (we_ix (ix_U hu1) (wv 2) (wv 0) (fun _ _ => rfl)) wa_nil))))) wa_nil)) wa_nil)))))))), ?_⟩
  intro a1 h1
  intro a2 h2
  have n12 : a1 ≠ a2 := fun z => by rw [z, upd_same] at h2; cases h2
  have h20 : H a2 = none := by rw [upd_ne (fun z => n12 z.symm)] at h2; exact h2
  have s0 := (same_new h1 (.dT [])).trans (same_new h2 (.dT []))
  have nus : us.length = xs.length := by rw [hus.length, datB_map, List.length_map]
  have line : ∀ n : Nat, n ≤ 1000 → n < sizeLine := fun n h => Nat.lt_of_le_of_lt h (by decide)
  refine iU rfl ho (s0 _ _ hp) fun J hJ => ?_
  refine ⟨fun i m σ H' => Same H H' ∧ m + i = xs.length ∧ (∃ o3 o4 o5, σ = [some (.ref p), some (.ref a1), some (.ref a2), o3, o4, o5]) ∧ ∃ ms : List Val, Met H' a1 a2 (xs.take i) ms ∧ ms.length ≤ i,
    ⟨xs.length, s0, rfl, ⟨none, none, none, rfl⟩, [], ⟨⟨[], by rw [upd_ne n12]; exact upd_same, rfl, fun x hx => (nomatch hx)⟩, ⟨[], upd_same, rfl, fun x hx => (nomatch hx)⟩, .nil, fun x hx => (nomatch hx), fun q hq => by simp at hq⟩, Nat.le_refl _⟩, ?_⟩
  rintro i m σ H' ⟨sH, hm, ⟨o3, o4, o5, rfl⟩, ms, M, lm⟩
  by_cases hi : i < xs.length
  · refine .inr ⟨hJ.go i H' (sH _ _ hp) (by omega), fun σ' H'' => Same H H'' ∧ (m - 1) + (i + 1) = xs.length ∧ (∃ o3 o4 o5, σ' = [some (.ref p), some (.ref a1), some (.ref a2), o3, o4, o5]) ∧ ∃ ms : List Val, Met H'' a1 a2 (xs.take (i + 1)) ms ∧ ms.length ≤ i + 1, fun σ' H'' hW => ⟨m - 1, by omega, hW⟩, ?_⟩
    intro x H'' hy
    obtain ⟨e0, hx⟩ := hJ.yl i H' x _ (sH _ _ hp) hy
    rw [e0]
    obtain ⟨u, hu', du⟩ := hus.get (i := i) (d := .tup [dat xs[i].1, .int xs[i].2]) (by rw [datB_map, List.getElem?_map, List.getElem?_eq_getElem hi]; rfl)
    obtain rfl : u = x := by rw [hu'] at hx; injection hx
    obtain ⟨c, v, z, rfl, hc1, dv, dz⟩ := dt_two du
    rw [IsDt] at dz
    subst dz
    have hxm : xs[i] ∈ xs := List.getElem_mem hi
    have htk : xs.take (i + 1) = xs.take i ++ [xs[i]] := by rw [List.take_add_one, List.getElem?_eq_getElem hi]; rfl
    generalize xs[i] = xi at hxm dv hc1 du htk
    have dv' : IsVal H' xi.1 v := IsDt.mono sH.tups dv
    refine ⟨c, _, rfl, SqT.of (sH _ _ hc1), rfl, _, _, rfl, _, _, rfl, rfl, ?_⟩
    refine ⟨_, rfl, v, xi.1, rfl, dv', kl _ hxm, fun b H1 s1 hb => ?_⟩
    obtain ⟨⟨kvV, hV, kV1, kV2⟩, ⟨kvC, hC, kC1, kC2⟩, nd, frm, alls⟩ := M
    have hV1 := s1 _ _ hV
    have hC1 := s1 _ _ hC
    rw [← kx_kv] at hb
    have lV : kvV.length < sizeLine := line _ (by have := congrArg List.length kV1; simp at this; omega)
    have lC : kvC.length < sizeLine := line _ (by have := congrArg List.length kC1; simp at this; omega)
    -- values[key] = value
    refine ⟨_, rfl, _, rfl, _, rfl, .inr ⟨a1, _, rfl, DPut.t hV1 hb lV, ?_⟩⟩
    have t2 : Tups H1 (upd H1 a1 (.dT (putK kvV (kx xi.1) v))) := fun d ys e => by rw [upd_ne (fun q => by rw [q, hV1] at e; cases e)]; exact e
    have hV2 : (upd H1 a1 (.dT (putK kvV (kx xi.1) v))) a1 = some (.dT (putK kvV (kx xi.1) v)) := upd_same
    have hC2 : (upd H1 a1 (.dT (putK kvV (kx xi.1) v))) a2 = some (.dT kvC) := by rw [upd_ne (fun q => n12 q.symm)]; exact hC1
    have hb2 := t2 _ _ hb
    have s2 : Same H (upd H1 a1 (.dT (putK kvV (kx xi.1) v))) := fun d od e => by rw [upd_ne (ne_of_none e h1)]; exact s1 _ _ (sH _ _ e)
    generalize upd H1 a1 (.dT (putK kvV (kx xi.1) v)) = H2 at t2 hV2 hC2 hb2 s2 ⊢
    -- counts[key] = counts.get(key, 0) + count
    have hg : ((valV kvC (kx xi.1)).getD (.int 0)) = V.int (cnt xi.1 (xs.take i)) := by
      by_cases mm : xi.1 ∈ ms
      · rw [kC2 _ mm]; rfl
      · rw [val_none kC1 mm]
        show V.int 0 = _
        rw [cnt_none (v := xi.1) fun q hq e => mm (e ▸ alls q hq)]
    refine ⟨_, rfl, a2, rfl, .inr ⟨_, .inl hC2⟩, _, rfl, _, DGet.t hC2 hb2, _, rfl, .inl ⟨_, _, hg, rfl, ?_⟩⟩
    refine ⟨_, rfl, _, rfl, .inr ⟨a2, _, rfl, DPut.t hC2 hb2 lC, ?_⟩⟩
    have t3 : Tups H2 (upd H2 a2 (.dT (putK kvC (kx xi.1) (.int (cnt xi.1 (xs.take i) + xi.2))))) := fun d ys e => by rw [upd_ne (fun q => by rw [q, hC2] at e; cases e)]; exact e
    have hcx : ∀ y, cnt y (xs.take (i + 1)) = cnt y (xs.take i) + (if xi.1 = y then xi.2 else 0) := fun y => by rw [htk, cnt_append]; simp only [cnt]; omega
    refine ⟨fun d od e => by rw [upd_ne (ne_of_none e h20)]; exact s2 _ _ e, by omega, ⟨_, _, _, rfl⟩, ?_⟩
    have old : ∀ y, y ≠ xi.1 → kx y ≠ kx xi.1 := fun y ne e => ne (kx_inj e)
    have tA : Tups H' (upd H2 a2 (.dT (putK kvC (kx xi.1) (.int (cnt xi.1 (xs.take i) + xi.2))))) := fun d ys e => t3 _ _ (t2 _ _ (s1 _ _ e))
    have fromOld : ∀ x ∈ ms, ∃ q ∈ xs.take (i + 1), x = q.1 := fun x hx => by
      obtain ⟨q, hq, e⟩ := frm x hx
      exact ⟨q, by rw [htk]; exact List.mem_append_left _ hq, e⟩
    by_cases mm : xi.1 ∈ ms
    · refine ⟨ms, ⟨⟨_, by rw [upd_ne n12]; exact hV2, ?_, fun x hx => ?_⟩, ⟨_, upd_same, ?_, fun x hx => ?_⟩, nd, fromOld, fun q hq => ?_⟩, by omega⟩
      · obtain ⟨v0, e1, _⟩ := kV2 _ mm
        rw [put_keys e1]; exact kV1
      · by_cases ex : x = xi.1
        · subst ex
          exact ⟨v, by rw [valV_put, if_pos rfl], IsDt.mono tA dv'⟩
        · obtain ⟨v0, e1, e2⟩ := kV2 x hx
          exact ⟨v0, by rw [valV_put, if_neg (old x ex)]; exact e1, IsDt.mono tA e2⟩
      · rw [put_keys (kC2 _ mm)]; exact kC1
      · rw [valV_put, hcx]
        by_cases ex : x = xi.1
        · subst ex; rw [if_pos rfl, if_pos rfl]
        · rw [if_neg (old x ex), if_neg (fun e => ex e.symm), kC2 x hx]; simp
      · rw [htk] at hq
        rcases List.mem_append.mp hq with h | h
        · exact alls q h
        · rw [List.mem_singleton.mp h]; exact mm
    · have nV := val_none kV1 mm
      have nC := val_none kC1 mm
      refine ⟨ms ++ [xi.1], ⟨⟨_, by rw [upd_ne n12]; exact hV2, ?_, fun x hx => ?_⟩, ⟨_, upd_same, ?_, fun x hx => ?_⟩, ?_, fun x hx => ?_, fun q hq => ?_⟩, by rw [List.length_append]; show ms.length + 1 ≤ _; omega⟩
      · rw [putK_new _ nV, List.map_append, List.map_append, kV1]; rfl
      · by_cases ex : x = xi.1
        · subst ex
          exact ⟨v, by rw [valV_put, if_pos rfl], IsDt.mono tA dv'⟩
        · have hx' : x ∈ ms := (List.mem_append.mp hx).resolve_right fun h => ex (List.mem_singleton.mp h)
          obtain ⟨v0, e1, e2⟩ := kV2 x hx'
          exact ⟨v0, by rw [valV_put, if_neg (old x ex)]; exact e1, IsDt.mono tA e2⟩
      · rw [putK_new _ nC, List.map_append, List.map_append, kC1]; rfl
      · rw [valV_put, hcx]
        by_cases ex : x = xi.1
        · subst ex; rw [if_pos rfl, if_pos rfl]
        · have hx' : x ∈ ms := (List.mem_append.mp hx).resolve_right fun h => ex (List.mem_singleton.mp h)
          rw [if_neg (old x ex), if_neg (fun e => ex e.symm), kC2 x hx']; simp
      · refine List.nodup_append.mpr ⟨nd, by simp, fun a ha b hb e => ?_⟩
        rw [List.mem_singleton.mp hb] at e
        exact mm (e ▸ ha)
      · rcases List.mem_append.mp hx with h | h
        · exact fromOld x h
        · exact ⟨xi, by rw [htk]; exact List.mem_append_right _ (List.mem_singleton.mpr rfl), List.mem_singleton.mp h⟩
      · rw [htk] at hq
        rcases List.mem_append.mp hq with h | h
        · exact List.mem_append_left _ (alls q h)
        · rw [List.mem_singleton.mp h]; exact List.mem_append_right _ (List.mem_singleton.mpr rfl)
  -- the bag
  · refine .inl ⟨hJ.st i H' (sH _ _ hp) (by omega), ?_⟩
    rw [List.take_of_length_le (by omega)] at M
    obtain ⟨⟨kvV, hV, kV1, kV2⟩, ⟨kvC, hC, kC1, kC2⟩, nd, frm, alls⟩ := M
    refine .inl ⟨_, rfl, a2, kvC, ms, rfl, hC, kC1, nd, by omega, fun l bs ys hl perm rise lb get => ⟨l, rfl, ⟨_, SqL.of upd_same⟩, ?_⟩⟩
    have sA := same_new hl (.lst bs)
    have hA : (upd H' l (.lst bs)) l = some (.lst bs) := upd_same
    generalize upd H' l (.lst bs) = HA at sA hA ⊢
    have ly : ys.length = ms.length := perm.length_eq
    refine ⟨fun i2 m2 zs H2 => Same HA H2 ∧ m2 + i2 = ys.length ∧ ∃ qs : List (Val × Int), IsDts H2 (datB qs) zs ∧ qs.length ≤ i2 ∧ qs = ((ys.map fun y => (y, cnt y xs)).take i2).filter fun q => decide (q.2 ≠ 0), ⟨ys.length, .refl _, rfl, [], .nil, Nat.le_refl _, rfl⟩, ?_⟩
    rintro i2 m2 zs H2 ⟨s2, hm2, qs, iq, lq, eqs⟩
    have nz : zs.length = qs.length := by rw [iq.length, datB_map, List.length_map]
    refine ⟨line _ (by omega), ?_⟩
    have hA2 := s2 _ _ hA
    have sT := sA.trans s2
    by_cases hi2 : i2 < ys.length
    · obtain ⟨b, hbs, hb⟩ := get i2 ys[i2] (List.getElem?_eq_getElem hi2)
      refine .inr ⟨⟨_, _, SqL.of hA2, hbs⟩, fun z x H5 hy2 => ?_⟩
      obtain ⟨rfl, hx⟩ := hy2
      obtain rfl : V.ref b = x := by have := hx _ (SqL.of hA2); rw [hbs] at this; injection this
      have hym : ys[i2] ∈ ms := perm.mem_iff.mp (List.getElem_mem hi2)
      obtain ⟨v2, ev, iv2⟩ := kV2 _ hym
      have ec := kC2 _ hym
      have tkq : (ys.map fun y => (y, cnt y xs)).take (i2 + 1) = (ys.map fun y => (y, cnt y xs)).take i2 ++ [(ys[i2], cnt ys[i2] xs)] := by
        rw [List.take_add_one, List.getElem?_map, List.getElem?_eq_getElem hi2]; rfl
      rw [← kx_kv] at hb
      have gC : DGet H5 a2 (.ref b) (some (.int (cnt ys[i2] xs))) := by rw [← ec]; exact DGet.t (sT _ _ hC) (sT _ _ hb)
      have gV : DGet H5 a1 (.ref b) (some v2) := by rw [← ev]; exact DGet.t (sT _ _ hV) (sT _ _ hb)
      generalize ys[i2] = y at hym ev iv2 ec tkq gC gV
      refine ⟨_, rfl, _, rfl, .inr (.inr (.inr ⟨a2, _, rfl, gC, .inl ⟨rfl, _, rfl, ?_⟩⟩))⟩
      refine ite2 (fun e => ?_) (fun e => ?_)
      · have e0 : cnt y xs ≠ 0 := fun z => by rw [z] at e; revert e; decide
        refine ⟨_, rfl, _, rfl, .inr (.inr (.inr ⟨a1, _, rfl, gV, _, rfl, _, rfl, .inr (.inr (.inr ⟨a2, _, rfl, gC, (by show 2 ≤ sizeLine; decide), fun t ht => ?_⟩))⟩))⟩
        refine ⟨m2 - 1, by omega, s2.trans (same_new ht _), by omega, qs ++ [(y, cnt y xs)], ?_, by rw [List.length_append]; show qs.length + 1 ≤ _; omega, by rw [tkq, List.filter_append, ← eqs]; simp [e0]⟩
        rw [datB_map, List.map_append, ← datB_map]
        exact (IsDts.mono (same_new ht _).tups iq).append (.one (isDt_new ht (.cons (IsDt.mono sT.tups iv2) (.one (by rw [IsDt])))))
      · have e0 : cnt y xs = 0 := Classical.byContradiction fun z => e (by rw [decide_eq_false (fun w => z (by injection w))]; rfl)
        exact ⟨m2 - 1, by omega, s2, by omega, qs, iq, by omega, by rw [tkq, List.filter_append, ← eqs]; simp [e0]⟩
    · refine .inl ⟨⟨_, SqL.of hA2, by rw [lb]; omega⟩, fun l2 hl2 => ⟨l2, zs, rfl, .inl ⟨SqL.of upd_same, fun t ht => ⟨(by show 2 ≤ sizeLine; decide), fun b hb => ?_⟩⟩⟩⟩
      have bag : IsBag xs qs := by
        rw [eqs, List.take_of_length_le (by rw [List.length_map]; omega)]
        exact bag_of_perm (fun y => cnt y xs) perm rise (fun v _ => rfl) fun v hv => cnt_none fun q hq e => hv (e ▸ alls q hq)
      refine fin _ _ qs ((sH.trans sT).trans ((same_new hl2 _).trans ((same_new ht _).trans (same_new hb _)))) ?_ bag fun q hq => ?_
      · show IsDt _ (dat (.bag qs)) _
        rw [dat_two]
        exact isDt_new hb (.cons (by rw [IsDt]; rfl) (.one (isDt_tup upd_same (IsDts.mono ((same_new hl2 _).trans (same_new ht _)).tups iq))))
      · have hq' := hq
        rw [eqs] at hq'
        obtain ⟨y, hy, e⟩ := List.mem_map.mp (List.mem_of_mem_take (List.mem_filter.mp hq').1)
        obtain ⟨r, hr', e2⟩ := frm y (perm.mem_iff.mp hy)
        exact ⟨r, hr', by rw [← e, ← e2]⟩
end
end K74
end
section
set_option Elab.async false
set_option linter.all false
set_option maxRecDepth 100000
set_option maxHeartbeats 4000000
namespace K74
open PySem L2 Kn
theorem cnt_bound {B : Int} (v : Val) : ∀ (xs : List (Val × Int)), (∀ q ∈ xs, -B ≤ q.2 ∧ q.2 ≤ B) → 0 ≤ B → -(xs.length * B) ≤ cnt v xs ∧ cnt v xs ≤ xs.length * B
  | [], _, _ => by simp [cnt]
  | q :: xs, h, hB => by
    obtain ⟨h1, h2⟩ := cnt_bound v xs (fun z hz => h z (List.mem_cons_of_mem _ hz)) hB
    obtain ⟨h3, h4⟩ := h q List.mem_cons_self
    rw [cnt, List.length_cons]
    have e : ((xs.length + 1 : Nat) : Int) * B = xs.length * B + B := by rw [Int.natCast_add, Int.add_mul]; simp
    rw [e]
    split <;> omega
theorem nd_le {α : Type} [DecidableEq α] : ∀ {l m : List α}, l.Nodup → (∀ x ∈ l, x ∈ m) → l.length ≤ m.length
  | [], _, _, _ => Nat.zero_le _
  | a :: l, m, nd, h => by
    rw [List.nodup_cons] at nd
    have ha : a ∈ m := h a List.mem_cons_self
    have ih := nd_le (l := l) (m := m.erase a) nd.2 fun x hx => (List.mem_erase_of_ne (fun e : x = a => nd.1 (by rw [← e]; exact hx))).mpr (h x (List.mem_cons_of_mem _ hx))
    rw [List.length_erase_of_mem ha] at ih
    have : 0 < m.length := List.length_pos_of_mem ha
    rw [List.length_cons]
    omega
theorem bag_len {xs qs : List (Val × Int)} (h : IsBag xs qs) (a : ∀ q ∈ qs, ∃ r ∈ xs, q.1 = r.1) : qs.length ≤ xs.length := by
  have nd : (qs.map (·.1)).Nodup := List.pairwise_map.mpr (h.1.imp fun {p q} e z => by rw [z, ahead_irrefl] at e; cases e)
  have := nd_le nd (m := xs.map (·.1)) fun x hx => by
    obtain ⟨q, hq, rfl⟩ := List.mem_map.mp hx
    obtain ⟨r, hr, e⟩ := a q hq
    exact List.mem_map.mpr ⟨r, hr, e.symm⟩
  simpa using this
/-- the bag of a table -/
def OkB (s : Str) (qs : List (Val × Int)) : Prop := qs.length ≤ 60 ∧ ∀ q ∈ qs, Sh s q.1 ∧ -(10 ^ 12) ≤ q.2 ∧ q.2 ≤ 10 ^ 12
abbrev Rw := Str × V × List (Val × Int)
def kvR (rows : List Rw) : List (Key × V) := rows.map fun r => (Sum.inr r.1, r.2.1)
def names : List Str := ["p", "q", "r"]
/-- rows of a store: the names, the bags -/
def RowsOk (H : Hp) (rows : List Rw) : Prop := ∀ r ∈ rows, IsVal H (.bag r.2.2) r.2.1 ∧ OkB r.1 r.2.2
def Store (H : Hp) (d : Addr) (rows : List Rw) : Prop := H d = some (.dK (kvR rows)) ∧ rows.map (·.1) = names ∧ RowsOk H rows
theorem RowsOk.mono {H H' : Hp} {rows : List Rw} (t : Tups H H') (h : RowsOk H rows) : RowsOk H' rows := fun r hr => ⟨IsDt.mono t (h r hr).1, (h r hr).2⟩
theorem kvR_none {rows : List Rw} {s : Str} (h : s ∉ rows.map (·.1)) : valV (kvR rows) (Sum.inr s) = none := by
  induction rows with
  | nil => rfl
  | cons r rows ih =>
    rw [List.map_cons, List.mem_cons, not_or] at h
    show valV ((Sum.inr r.1, r.2.1) :: kvR rows) (Sum.inr s) = none
    rw [valV_neg (by intro z; injection z with z; exact h.1 z.symm)]
    exact ih h.2
theorem kvR_some {rows : List Rw} {s : Str} (h : s ∈ rows.map (·.1)) : ∃ r ∈ rows, r.1 = s ∧ rows.find? (fun r => decide (r.1 = s)) = some r ∧ valV (kvR rows) (Sum.inr s) = some r.2.1 := by
  induction rows with
  | nil => simp at h
  | cons r rows ih =>
    by_cases e : r.1 = s
    · exact ⟨r, List.mem_cons_self, e, by rw [List.find?_cons, decide_eq_true e], by show valV ((Sum.inr r.1, r.2.1) :: kvR rows) (Sum.inr s) = _; rw [valV_pos (by rw [e])]⟩
    · rw [List.map_cons, List.mem_cons] at h
      obtain ⟨r', h1, h2, h3, h4⟩ := ih (h.resolve_left fun z => e z.symm)
      refine ⟨r', List.mem_cons_of_mem _ h1, h2, by rw [List.find?_cons, decide_eq_false e]; exact h3, ?_⟩
      show valV ((Sum.inr r.1, r.2.1) :: kvR rows) (Sum.inr s) = _
      rw [valV_neg (by intro z; injection z with z; exact e z)]
      exact h4
theorem mem_names {s : Str} (h : s ∈ names) : nm3 s := by
  unfold names at h
  simp only [List.mem_cons, List.not_mem_nil, or_false] at h
  exact h
theorem nm_mem {s : Str} (h : nm3 s) : s ∈ names := by
  unfold names
  simp only [List.mem_cons, List.not_mem_nil, or_false]
  exact h
theorem names_nd : names.Nodup := by unfold names; decide
section
variable {P : Program} {w : World} {K : PySem.W.Frag} {mg : Str → Option Value} {base : Heap} {f f_next f_val f_of : Addr} {fd fd_next fd_val fd_of : FuncData}
theorem sc__law_store : FnScope ["deck", "store", "name", "pairs", "k", "cell"] ["deck"] (defScope (top 13)) := ⟨rfl, rfl, rfl, by decide +kernel, rfl, by decide +kernel, by decide +kernel⟩
def spStore : Sp := fun vs H Q _ => ∃ (p c : Addr) (n : Int), vs = [.ref p] ∧ Dk H p c n ∧ n < 1000000000 ∧
  ∀ (d : Addr) (H' : Hp) (rows : List Rw), H d = none → Ex p H H' → Dk H' p c (n + 100) → Store H' d rows → Q (.ref d) H'
theorem ok_store (T : Tx mg) (D : Df K mg "_law_store" (top 13) f fd ["deck"]) (D__law_next : Df K mg "_law_next" (top 11) f_next fd_next ["deck"]) (G__law_next : FnOk P w K mg base CX0 1 f_next fd_next ["deck"] spNext)
    (D__law_value : Df K mg "_law_value" (top 12) f_val fd_val ["deck", "name"]) (G__law_value : FnOk P w K mg base CX0 2 f_val fd_val ["deck", "name"] spValue)
    (D_bag_of : Df K mg "bag_of" (top 7) f_of fd_of ["pairs"]) (G_bag_of : FnOk P w K mg base CX0 4 f_of fd_of ["pairs"] spBagOf) :
    FnOk P w K mg base CX0 5 f fd ["deck"] spStore := by
  refine D.fn.okH (k := 4) sc__law_store (fun vs H Q E h => ?_) (fun cdv A outer s H vs Q E hr h => ?_)
  · obtain ⟨p, c, n, rfl, _⟩ := h; rfl
  obtain ⟨p, c, n, rfl, dk, hn, fin⟩ := h
  have hu := u110 hr
  have hu0 := u0 hr
  have hu1 := hu_of hr
  refine ⟨_, (wss_cons (ws_set (i := 1) sc__law_store.nd rfl (Or.inl rfl) we_dnewK)
      (wss_cons (ws_for PassesOwn.never rfl (wi_U (we_lst (wa_consts rfl))) (wg_name (i := 2) sc__law_store.nd rfl (Or.inl rfl)) (wss_cons (ws_set (i := 3) sc__law_store.nd rfl (Or.inl rfl) (we_lst wa_nil))
      (wss_cons (ws_for PassesOwn.never rfl (wi_range1 rfl T.z_range (wa_cons (we_op op_mod (we_call G__law_next (hr.mono (by omega)) rfl D__law_next.mg D__law_next.kp D__law_next.b .nil pass0 (wa_cons (wv 0) wa_nil)) we_int) wa_nil)) (wg_name (i := 4) sc__law_store.nd rfl (Or.inl rfl)) (wss_cons (ws_set (i := 5) sc__law_store.nd rfl (Or.inl rfl) (we_call G__law_next (hr.mono (by omega)) rfl D__law_next.mg D__law_next.kp D__law_next.b .nil pass0 (wa_cons (wv 0) wa_nil)))
      (wss_one (ws_expr (we_bm PySem.F.plainAttrs_list PySem.F.slot_list_append PySem.F.type_list_append mt_append (wv 3) (wa_cons (we_tup (wa_cons (we_call G__law_value (hr.mono (by omega)) rfl D__law_value.mg D__law_value.kp D__law_value.b .nil pass0 (wa_cons (wv 0) (wa_cons (wv 2) wa_nil))) (wa_cons (we_ix (ix_U hu1) (we_lst (wa_cons we_int (wa_cons we_int (wa_cons we_int (wa_cons (we_un un_neg we_int) (wa_cons we_int (wa_cons (we_un un_neg we_int) (wa_cons (we_op op_plus (we_op op_pow we_int we_int) (we_op op_mod (wv 5) we_int)) wa_nil)))))))) (we_op op_mod (wv 5) we_int) (fun _ _ => rfl)) wa_nil))) wa_nil))))))
      (wss_one (ws_asg (we_call G_bag_of (hr.mono (by omega)) rfl D_bag_of.mg D_bag_of.kp D_bag_of.b .nil pass0 (wa_cons (wv 3) wa_nil)) (wg_sub (wv 1) (wv 2) (set_U hu1)))))))
      (wss_one (ws_ret (wv 1))))), ?_⟩
  intro d hd
  obtain ⟨ndp, ndc⟩ := dk.ne hd
  have dk0 := dk.new (o := .dK []) hd
  refine .inl ⟨(by show 3 ≤ sizeLine; decide), fun l hl => ⟨l, rfl, ⟨_, SqL.of upd_same⟩, ?_⟩⟩
  have s0 := same_new hl (.lst [V.str "p", .str "q", .str "r"])
  have hl0 : (upd (upd H d (.dK [])) l (.lst [V.str "p", .str "q", .str "r"])) l = some (.lst [V.str "p", .str "q", .str "r"]) := upd_same
  have hd0 : (upd (upd H d (.dK [])) l (.lst [V.str "p", .str "q", .str "r"])) d = some (.dK []) := s0 _ _ upd_same
  have ndl : d ≠ l := fun z => by rw [z, upd_same] at hd0; cases hd0
  have hlH : H l = none := by rw [upd_ne (Ne.symm ndl)] at hl; exact hl
  obtain ⟨nlp, nlc⟩ := dk.ne hlH
  have dk1 := dk0.keep s0
  have ex1 : Ex p H (upd (upd H d (.dK [])) l (.lst [V.str "p", .str "q", .str "r"])) := (ex_new hd).trans (ex_new hl)
  generalize upd (upd H d (.dK [])) l (.lst [V.str "p", .str "q", .str "r"]) = H1 at hl0 hd0 dk1 ex1 ⊢
  refine for_list (K := K) (a := l) (xs := [V.str "p", .str "q", .str "r"]) (fun i σ H' => ∃ (o2 o3 o4 o5 : Option V) (rows : List Rw), σ = [some (.ref p), some (.ref d), o2, o3, o4, o5] ∧ Ex p H H' ∧ Dk H' p c (n + i * 30) ∧ H' l = some (.lst [V.str "p", .str "q", .str "r"]) ∧ H' d = some (.dK (kvR rows)) ∧ rows.map (·.1) = names.take i ∧ RowsOk H' rows)
    ⟨none, none, none, none, [], rfl, ex1, dk1.mono (by omega), hl0, hd0, rfl, fun r hr => (nomatch hr)⟩ (fun i σ H' _ ⟨_, _, _, _, _, _, _, _, h, _⟩ => SqL.of h) ?turn ?done
  case done =>
    rintro σ H' ⟨o2, o3, o4, o5, rows, rfl, ex, dk', _, hd', hn', hr'⟩
    exact ⟨_, rfl, fin d H' rows hd ex (dk'.mono (by show _ ≤ n + 100; have : (([V.str "p", V.str "q", V.str "r"].length : Nat) : Int) = 3 := rfl; omega)) ⟨hd', hn', hr'⟩⟩
  case turn =>
  rintro i z σ H' hz ⟨o2, o3, o4, o5, rows, rfl, ex, dk', hl', hd', hn', hro⟩
  have hi : i < 3 := (List.getElem?_eq_some_iff.mp hz).1
  obtain ⟨nm, rfl, hnm⟩ : ∃ nm : Str, z = .str nm ∧ names[i]? = some nm := by
    match i, hi with
    | 0, _ => cases hz; exact ⟨_, rfl, rfl⟩
    | 1, _ => cases hz; exact ⟨_, rfl, rfl⟩
    | 2, _ => cases hz; exact ⟨_, rfl, rfl⟩
  have h3 : nm3 nm := mem_names (List.mem_of_getElem? hnm)
  refine ⟨(by show 0 ≤ sizeLine; decide), fun b hb => ?_⟩
  obtain ⟨nbp, nbc⟩ := dk'.ne hb
  have nbl : b ≠ l := (ne_of_none hl' hb).symm
  have nbd : b ≠ d := (ne_of_none hd' hb).symm
  have hbH : H b = none := by
    cases e : H b with
    | none => rfl
    | some u => rw [ex b u nbp e] at hb; cases hb
  refine ⟨_, rfl, p, c, _, rfl, dk'.new hb, by omega, fun r H2 ex2 dk2 => ⟨_, _, rfl, rfl, (by show (0 : Int) < 5; decide), r % 5, rfl, by have := mod_lt r 5 (by decide); omega, by have := mod_lt r 5 (by decide); omega, ?_⟩⟩
  have hb2 : H2 b = some (.lst []) := ex2 _ _ nbp upd_same
  have exH2 : Ex p H H2 := ex.trans ((ex_new hb).trans ex2)
  have t2 : Tups H' H2 := fun x ys e => (dk'.new (o := .lst []) hb).tups ex2 x ys (same_new hb _ x _ e)
  have hl2 : H2 l = some (.lst [V.str "p", .str "q", .str "r"]) := ex2 _ _ nlp (same_new hb _ _ _ hl')
  have hd2 : H2 d = some (.dK (kvR rows)) := ex2 _ _ ndp (same_new hb _ _ _ hd')
  have hro2 := hro.mono t2
  have r5 := mod_lt r 5 (by decide)
  refine for_range (n := (r % 5).toNat) (fun j σ H' => ∃ (o4 o5 : Option V) (us : List V) (xs : List (Val × Int)), σ = [some (.ref p), some (.ref d), some (.str nm), some (.ref b), o4, o5] ∧ Ex p H H' ∧ Dk H' p c (n + i * 30 + 1 + j * 3) ∧ H' l = some (.lst [V.str "p", .str "q", .str "r"]) ∧ H' d = some (.dK (kvR rows)) ∧ RowsOk H' rows ∧ H' b = some (.lst us) ∧ IsDts H' (datB xs) us ∧ xs.length = j ∧ ∀ q ∈ xs, Sh nm q.1 ∧ -(10 ^ 10) ≤ q.2 ∧ q.2 ≤ 10 ^ 10)
    ⟨o4, o5, [], [], rfl, exH2, dk2.mono (by omega), hl2, hd2, hro2, hb2, .nil, rfl, fun q hq => (nomatch hq)⟩ ?_ ?_
  · rintro j σ H3 hj ⟨o4, o5, us, xs, rfl, ex3, dk3, hl3, hd3, hro3, hb3, iu, lx, bx⟩
    have nus : us.length = xs.length := by rw [iu.length, datB_map, List.length_map]
    refine ⟨_, rfl, p, c, _, rfl, dk3, by omega, fun cell H4 ex4 dk4 => ?_⟩
    have hb4 : H4 b = some (.lst us) := ex4 _ _ nbp hb3
    refine ⟨_, rfl, .inl ⟨rfl, _, SqL.of hb4⟩, _, rfl, _, rfl, p, c, _, nm, rfl, dk4, by omega, h3, fun x v H5 ex5 dk5 iv sh => ?_⟩
    refine ⟨_, rfl, _, rfl, _, _, rfl, rfl, ⟨by decide, by decide, by decide⟩, _, rfl, _, _, rfl, rfl, (by show (0 : Int) < 999; decide), .inl ⟨_, _, rfl, rfl, (by show 7 ≤ sizeLine; decide), fun l7 hl7 => ?_⟩⟩
    obtain ⟨m0, m1⟩ := mod_lt cell 7 (by decide)
    obtain ⟨m2, m3⟩ := mod_lt cell 999 (by decide)
    obtain ⟨u, hu', hm⟩ := atI_mem (xs := [V.int 1, .int 1, .int 2, .int (-1), .int 3, .int (-2), .int (10 ^ (9 : Int).toNat + cell % 999)]) m0 m1
    have ui : ∃ k : Int, u = .int k ∧ -(10 ^ 10) ≤ k ∧ k ≤ 10 ^ 10 := by
      have e9 : (10 : Int) ^ (9 : Int).toNat = 1000000000 := by decide
      simp only [List.mem_cons, List.not_mem_nil, or_false] at hm
      rcases hm with rfl | rfl | rfl | rfl | rfl | rfl | rfl
      all_goals first | exact ⟨_, rfl, by decide, by decide⟩ | exact ⟨_, rfl, by omega, by omega⟩
    obtain ⟨k, rfl, k0, k1⟩ := ui
    refine ⟨_, rfl, _, _, rfl, rfl, (by show (0 : Int) < 7; decide), .inl ⟨l7, _, _, _, rfl, rfl, SqL.of upd_same, hu', (by show 2 ≤ sizeLine; decide), fun t ht => ?_⟩⟩
    have hb5 : H5 b = some (.lst us) := ex5 _ _ nbp hb4
    have s6 : Same H5 (upd (upd H5 l7 (.lst [V.int 1, .int 1, .int 2, .int (-1), .int 3, .int (-2), .int (10 ^ (9 : Int).toNat + cell % 999)])) t (.tup [v, .int k])) := (same_new hl7 _).trans (same_new ht _)
    have it : (upd (upd H5 l7 (.lst [V.int 1, .int 1, .int 2, .int (-1), .int 3, .int (-2), .int (10 ^ (9 : Int).toNat + cell % 999)])) t (.tup [v, .int k])) t = some (.tup [v, .int k]) := upd_same
    generalize upd (upd H5 l7 (.lst [V.int 1, .int 1, .int 2, .int (-1), .int 3, .int (-2), .int (10 ^ (9 : Int).toNat + cell % 999)])) t (.tup [v, .int k]) = H6 at s6 it ⊢
    have hb6 : H6 b = some (.lst us) := s6 _ _ hb5
    refine ⟨b, us, _, rfl, rfl, hb6, Nat.lt_of_le_of_lt (show us.length ≤ 1000 by omega) (by decide), ?_⟩
    have t35 : Tups H3 H5 := fun x ys e => (dk4.tups ex5) x ys ((dk3.tups ex4) x ys e)
    have t7 : Tups H6 (upd H6 b (.lst (us ++ [.ref t]))) := Tups.lst hb6
    have t37 : Tups H3 (upd H6 b (.lst (us ++ [.ref t]))) := fun x ys e => t7 _ _ (s6.tups _ _ (t35 _ _ e))
    have t57 : Tups H5 (upd H6 b (.lst (us ++ [.ref t]))) := fun x ys e => t7 _ _ (s6.tups _ _ e)
    refine ⟨_, _, us ++ [.ref t], xs ++ [(x, k)], rfl, (ex3.trans (ex4.trans (ex5.trans (Same.ex s6)))).upd' hbH, ((dk5.keep s6).upd nbp nbc).mono (by omega), by rw [upd_ne nbl.symm]; exact s6 _ _ (ex5 _ _ nlp (ex4 _ _ nlp hl3)), by rw [upd_ne nbd.symm]; exact s6 _ _ (ex5 _ _ ndp (ex4 _ _ ndp hd3)), hro3.mono t37, upd_same, ?_, by rw [List.length_append, lx]; rfl, fun q hq => ?_⟩
    · rw [datB_map, List.map_append, ← datB_map]
      exact (IsDts.mono t37 iu).append (.one (isDt_tup (t7 _ _ it) (.cons (IsDt.mono t57 iv) (.one (isDt_int _)))))
    · rcases List.mem_append.mp hq with h | h
      · exact bx q h
      · rw [List.mem_singleton.mp h]; exact ⟨sh, k0, k1⟩
  · rintro σ H3 ⟨o4, o5, us, xs, rfl, ex3, dk3, hl3, hd3, hro3, hb3, iu, lx, bx⟩
    refine ⟨_, rfl, b, us, xs, rfl, ⟨_, hb3, .inl rfl⟩, iu, by omega, fun q hq => Nat.le_trans (key_len ((bx q hq).1.bd)) (by decide), fun v H4 qs s4 iv bag frm => ?_⟩
    have hd4 := s4 _ _ hd3
    have lr : rows.length = i := by
      have := congrArg List.length hn'
      rw [List.length_map, List.length_take] at this
      have : names.length = 3 := rfl
      omega
    have nin : nm ∉ rows.map (·.1) := fun z => by
      rw [hn'] at z
      obtain ⟨j, hj⟩ := List.mem_iff_getElem?.mp z
      have hji : j < i := by
        have := (List.getElem?_eq_some_iff.mp hj).1
        rw [List.length_take] at this
        omega
      rw [List.getElem?_take_of_lt hji] at hj
      have nd := names_nd
      obtain ⟨a1, a2⟩ := List.getElem?_eq_some_iff.mp hj
      obtain ⟨b1, b2⟩ := List.getElem?_eq_some_iff.mp hnm
      have := (List.getElem_inj nd).mp (a2.trans b2.symm)
      omega
    refine ⟨_, rfl, _, rfl, .inr ⟨d, _, rfl, DPut.k (k := Sum.inr nm) hd4 (Nat.lt_of_le_of_lt (show (kvR rows).length ≤ 1000 by unfold kvR; rw [List.length_map]; omega) (by decide)), ?_⟩⟩
    rw [putK_new _ (kvR_none nin)]
    have t5 : Tups H4 (upd H4 d (.dK (kvR rows ++ [(Sum.inr nm, v)]))) := fun x ys e => by rw [upd_ne (fun z => by rw [z, hd4] at e; cases e)]; exact e
    have e5 : kvR rows ++ [(Sum.inr nm, v)] = kvR (rows ++ [(nm, v, qs)]) := by unfold kvR; rw [List.map_append]; rfl
    rw [e5] at t5 ⊢
    refine ⟨_, _, _, _, rows ++ [(nm, v, qs)], rfl, (ex3.trans (Same.ex s4)).upd' hd, ((dk3.keep s4).upd ndp ndc).mono (by omega), by rw [upd_ne (Ne.symm ndl)]; exact s4 _ _ hl3, upd_same, ?_, fun r' hr' => ?_⟩
    · rw [List.map_append, hn', List.take_add_one, hnm]; rfl
    · rcases List.mem_append.mp hr' with h | h
      · exact hro3.mono (fun x ys e => t5 _ _ (s4.tups _ _ e)) r' h
      · have e := List.mem_singleton.mp h
        subst e
        refine ⟨IsDt.mono t5 iv, ?_, fun q hq => ?_⟩
        · have lq := bag_len bag frm
          show qs.length ≤ 60
          omega
        · obtain ⟨r1, hr1, er⟩ := frm q hq
          have b1 := cnt_bound (B := 10 ^ 10) q.1 xs (fun z hz => (bx z hz).2) (by decide)
          have c1 : cnt q.1 qs = q.2 := bag.1.cnt hq
          have c2 := bag.2.2 q.1
          have lx4 : (xs.length : Int) ≤ 5 := by omega
          have lx0 : (0 : Int) ≤ xs.length := by omega
          have e1 : (xs.length : Int) * 10 ^ 10 ≤ 5 * 10 ^ 10 := Int.mul_le_mul_of_nonneg_right lx4 (by decide)
          refine ⟨by rw [er]; exact (bx r1 hr1).1, ?_, ?_⟩
          · rw [← c1, c2]; omega
          · rw [← c1, c2]; omega
end
end K74
end
section
set_option Elab.async false
set_option linter.all false
set_option maxRecDepth 100000
set_option maxHeartbeats 4000000
namespace K74
open PySem L2 Kn
theorem tallT {σ : St} {H : Hp} {A B : Hp → Prop} (h : A H) : tAll σ H fun b H3 => if b = true then A H3 else B H3 := by
  show (if true = true then A H else B H)
  rw [if_pos rfl]; exact h
abbrev Tkn := Str × Val
def tokL (t : Tkn) : List Dt := [.str t.1, dat t.2]
def tokD (t : Tkn) : Dt := .tup (tokL t)
def TokOk (t : Tkn) : Prop := nm3 t.1 ∧ Sh t.1 t.2
abbrev Pq := List Tkn × Int
def pairD (q : Pq) : Dt := .tup [.tup (q.1.map tokD), .int q.2]
def PsOk (ps : List Pq) : Prop := ps.length ≤ 4 ∧ ∀ q ∈ ps, q.1.length ≤ 6 ∧ ∀ t ∈ q.1, TokOk t
theorem tok_map (ts : List Tkn) : ts.map tokD = (ts.map tokL).map Dt.tup := by rw [List.map_map]; rfl
theorem some_cons {d e : Dt} {ds es : List Dt} (h1 : (ltD d e).isSome = true) (h2 : (ltDs ds es).isSome = true) : (ltDs (d :: ds) (e :: es)).isSome = true := by
  rw [ltDs]
  split
  · exact h2
  · exact h1
theorem some_nil {es : List Dt} : (ltDs [] es).isSome = true := by rw [ltDs]; rfl
theorem some_int {i j : Int} : (ltD (.int i) (.int j)).isSome = true := by rw [ltD]; rfl
theorem some_str {i j : Str} : (ltD (.str i) (.str j)).isSome = true := by rw [ltD]; rfl
theorem some_tup {ds es : List Dt} (h : (ltDs ds es).isSome = true) : (ltD (.tup ds) (.tup es)).isSome = true := by rw [ltD]; exact h
theorem some_num {i j : Int} : (ltD (dat (.num i)) (dat (.num j))).isSome = true := by rw [dat, dat]; exact some_tup (some_cons some_str (some_cons some_int some_nil))
theorem lt_same {s : Str} {x y : Val} (hx : Sh s x) (hy : Sh s y) : (ltD (dat x) (dat y)).isSome = true := by
  cases hx with
  | r n =>
    cases hy with
    | r m => exact some_num
  | q n z hz =>
    cases hy with
    | q m z' hz' =>
      rw [dat, dat, datR, datR, datR, datR, datR, datR]
      refine some_tup (some_cons some_str (some_cons (some_tup (some_cons (some_tup (some_cons some_str (some_cons some_num some_nil))) (some_cons (some_tup (some_cons some_str (some_cons ?_ some_nil))) some_nil))) some_nil))
      show (ltD (dat (.word z)) (dat (.word z'))).isSome = true
      rw [dat, dat]
      exact some_tup (some_cons some_str (some_cons some_str some_nil))
  | p n m =>
    cases hy with
    | p n' m' =>
      rw [dat, dat, datR, datR, datR, datR, datR, datR]
      refine some_tup (some_cons some_str (some_cons (some_tup (some_cons (some_tup (some_cons some_str (some_cons some_num some_nil))) (some_cons (some_tup (some_cons some_str (some_cons ?_ some_nil))) some_nil))) some_nil))
      show (ltD (dat (.row [("a", .num m)])) (dat (.row [("a", .num m')]))).isSome = true
      rw [dat, dat, datR, datR, datR, datR]
      exact some_tup (some_cons some_str (some_cons (some_tup (some_cons (some_tup (some_cons some_str (some_cons some_num some_nil))) some_nil)) some_nil))
theorem lt_tok {t u : Tkn} (ht : TokOk t) (hu : TokOk u) : (ltDs (tokL t) (tokL u)).isSome = true := by
  unfold tokL
  rw [ltDs]
  split
  · rename_i e
    have e' : t.1 = u.1 := by injection e
    exact some_cons (lt_same ht.2 (by rw [e']; exact hu.2)) some_nil
  · exact some_str
theorem sortable_tok {ts : List Tkn} (h : ∀ t ∈ ts, TokOk t) : Sortable "str" (ts.map tokL) where
  first := fun d hd => by
    obtain ⟨t, ht, rfl⟩ := List.mem_map.mp hd
    exact ⟨_, _, rfl, rfl⟩
  tot := fun d hd e he => by
    obtain ⟨t, ht, rfl⟩ := List.mem_map.mp hd
    obtain ⟨u, hu, rfl⟩ := List.mem_map.mp he
    exact lt_tok (h t ht) (h u hu)
  dep := fun d hd => by
    obtain ⟨t, ht, rfl⟩ := List.mem_map.mp hd
    have := dep_dat (h t ht).2.bd
    show depL [.str t.1, dat t.2] ≤ 50
    simp only [depL, Dt.dep]
    omega
/-- the bag at v: its rows -/
theorem bag_at {H : Hp} {qs : List (Val × Int)} {v : V} (h : IsVal H (.bag qs) v) : ∃ a b us, v = .ref a ∧ H a = some (.tup [.str "bag", .ref b]) ∧ H b = some (.tup us) ∧ IsDts H (datB qs) us := by
  obtain ⟨a, w, rfl, h1, h2⟩ := h.two
  rw [show restD (.bag qs) = .tup (datB qs) from rfl, IsDt] at h2
  obtain ⟨b, us, rfl, h3, h4⟩ := h2
  exact ⟨a, b, us, rfl, h1, h3, h4⟩
section
variable {P : Program} {w : World} {K : PySem.W.Frag} {mg : Str → Option Value} {base : Heap} {f f_next f_val : Addr} {fd fd_next fd_val : FuncData}
theorem sc__law_pairs : FnScope ["deck", "store", "pairs", "k", "tokens", "j", "cell", "name", "rows"] ["deck", "store"] (defScope (top 14)) := ⟨rfl, rfl, rfl, by decide +kernel, rfl, by decide +kernel, by decide +kernel⟩
def spPairs : Sp := fun vs H Q _ => ∃ (p c d : Addr) (n : Int) (rows : List Rw), vs = [.ref p, .ref d] ∧ Dk H p c n ∧ n < 1000000000 ∧ d ≠ p ∧ Store H d rows ∧
  ∀ (v : V) (H' : Hp) (ps : List Pq), Ex p H H' → Dk H' p c (n + 100) → IsDt H' (.tup (ps.map pairD)) v → PsOk ps → Q v H'
theorem ok_pairs (T : Tx mg) (D : Df K mg "_law_pairs" (top 14) f fd ["deck", "store"]) (D__law_next : Df K mg "_law_next" (top 11) f_next fd_next ["deck"]) (G__law_next : FnOk P w K mg base CX0 1 f_next fd_next ["deck"] spNext)
    (D__law_value : Df K mg "_law_value" (top 12) f_val fd_val ["deck", "name"]) (G__law_value : FnOk P w K mg base CX0 2 f_val fd_val ["deck", "name"] spValue) :
    FnOk P w K mg base CX0 3 f fd ["deck", "store"] spPairs := by
  refine D.fn.okH (k := 2) sc__law_pairs (fun vs H Q E h => ?_) (fun cdv A outer s H vs Q E hr h => ?_)
  · obtain ⟨p, c, d, n, rows, rfl, _⟩ := h; rfl
  obtain ⟨p, c, d, n, rows, rfl, dk, hn, ndp, ⟨hd, hnm, hro⟩, fin⟩ := h
  have hu := u110 hr
  have hu0 := u0 hr
  have hu1 := hu_of hr
  have line : ∀ n : Nat, n ≤ 1000 → n < sizeLine := fun n h => Nat.lt_of_le_of_lt h (by decide)
  refine ⟨_, (wss_cons (ws_set (i := 2) sc__law_pairs.nd rfl (Or.inl rfl) (we_lst wa_nil))
      (wss_cons (ws_for PassesOwn.never rfl (wi_range1 rfl T.z_range (wa_cons (we_op op_mod (we_call G__law_next (hr.mono (by omega)) rfl D__law_next.mg D__law_next.kp D__law_next.b .nil pass0 (wa_cons (wv 0) wa_nil)) we_int) wa_nil)) (wg_name (i := 3) sc__law_pairs.nd rfl (Or.inl rfl)) (wss_cons (ws_set (i := 4) sc__law_pairs.nd rfl (Or.inl rfl) (we_lst wa_nil))
      (wss_cons (ws_for PassesOwn.never rfl (wi_range1 rfl T.z_range (wa_cons (we_op op_mod (we_call G__law_next (hr.mono (by omega)) rfl D__law_next.mg D__law_next.kp D__law_next.b .nil pass0 (wa_cons (wv 0) wa_nil)) we_int) wa_nil)) (wg_name (i := 5) sc__law_pairs.nd rfl (Or.inl rfl)) (wss_cons (ws_set (i := 6) sc__law_pairs.nd rfl (Or.inl rfl) (we_call G__law_next (hr.mono (by omega)) rfl D__law_next.mg D__law_next.kp D__law_next.b .nil pass0 (wa_cons (wv 0) wa_nil)))
      (wss_cons (ws_set (i := 7) sc__law_pairs.nd rfl (Or.inl rfl) (we_ix (ix_U hu1) (we_lst (wa_consts rfl)) (we_op op_mod (wv 6) we_int) (fun _ _ => rfl)))
      (wss_cons (ws_set (i := 8) sc__law_pairs.nd rfl (Or.inl rfl) (we_op op_plus (we_lc (Nt := ["value", "count"]) (fr := []) (LcOk.of (sc := defScope (top 14)) (N := ["deck", "store", "pairs", "k", "tokens", "j", "cell", "name", "rows"]) rfl rfl (by decide +kernel)) rfl (wi_U (we_ix (ix_U hu1) (we_ix (ix_U hu1) (wv 1) (wv 7) (fun _ _ => rfl)) we_int (fun _ _ => rfl))) (fun z => wg_tup rfl (wgs_cons (wg_name (i := 0) (by show (["value", "count"] : List Str).Nodup; decide +kernel) rfl (Or.inl rfl) (.inr rfl)) (wgs_cons (wg_name (i := 1) (by show (["value", "count"] : List Str).Nodup; decide +kernel) rfl (Or.inl rfl) (.inr rfl)) wgs_nil))) (fun z => tgt_two (by decide) (by decide)) (fun z => wif_nil) (fun z => (wv 0))) (we_lst (wa_cons (we_call G__law_value (hr.mono (by omega)) rfl D__law_value.mg D__law_value.kp D__law_value.b .nil pass0 (wa_cons (wv 0) (wa_cons (wv 7) wa_nil))) wa_nil))))
      (wss_cons (ws_expr (we_bm PySem.F.plainAttrs_list PySem.F.slot_list_append PySem.F.type_list_append mt_append (wv 4) (wa_cons (we_tup (wa_cons (wv 7) (wa_cons (we_ix (ix_U hu1) (wv 8) (we_op op_mod (we_op op_fdiv (wv 6) we_int) (we_callB call_lenU rfl T.z_len bt_len (wa_cons (wv 8) wa_nil))) (fun _ _ => rfl)) wa_nil))) wa_nil)))
      (wss_one (ws_if (wt_cmpR (op_eqU hu) (we_op op_mod (we_op op_fdiv (wv 6) we_int) we_int) we_int (nomark _)) (wss_one (ws_expr (we_bm PySem.F.plainAttrs_list PySem.F.slot_list_append PySem.F.type_list_append mt_append (wv 4) (wa_cons (we_ix (ix_U hu1) (wv 4) (we_un un_neg we_int) (fun _ _ => rfl)) wa_nil)))) wss_nil)))))))
      (wss_cons (ws_set (i := 6) sc__law_pairs.nd rfl (Or.inl rfl) (we_call G__law_next (hr.mono (by omega)) rfl D__law_next.mg D__law_next.kp D__law_next.b .nil pass0 (wa_cons (wv 0) wa_nil)))
      (wss_one (ws_expr (we_bm PySem.F.plainAttrs_list PySem.F.slot_list_append PySem.F.type_list_append mt_append (wv 2) (wa_cons (we_tup (wa_cons (we_callTy call_tuple_of rfl T.z_tuple bt_tuple (wa_cons (we_callB (call_sortL hu) rfl T.z_sorted bt_sorted (wa_cons (wv 4) wa_nil)) wa_nil)) (wa_cons (we_ix (ix_U hu1) (we_lst (wa_cons we_int (wa_cons (we_un un_neg we_int) (wa_cons we_int (wa_cons (we_op op_sub (we_op op_mod (we_op op_fdiv (wv 6) we_int) (we_op op_pow we_int we_int)) we_int) wa_nil))))) (we_op op_mod (wv 6) we_int) (fun _ _ => rfl)) wa_nil))) wa_nil))))))))
      (wss_one (ws_ret (we_callTy call_tuple_of rfl T.z_tuple bt_tuple (wa_cons (wv 2) wa_nil)))))), ?_⟩
  refine ⟨(by show 0 ≤ sizeLine; decide), fun b hb => ?_⟩
  obtain ⟨nbp, nbc⟩ := dk.ne hb
  have nbd : b ≠ d := (ne_of_none hd hb).symm
  refine ⟨_, rfl, p, c, _, rfl, dk.new hb, by omega, fun r H2 ex2 dk2 => ⟨_, _, rfl, rfl, (by show (0 : Int) < 5; decide), r % 5, rfl, by have := mod_lt r 5 (by decide); omega, by have := mod_lt r 5 (by decide); omega, ?_⟩⟩
  have r5 := mod_lt r 5 (by decide)
  have t2 : Tups H H2 := fun x ys e => (dk.new (o := .lst []) hb).tups ex2 x ys (same_new hb _ x _ e)
  refine for_range (n := (r % 5).toNat) (fun j σ H' => ∃ (o3 o4 o5 o6 o7 o8 : Option V) (us : List V) (ps : List Pq), σ = [some (.ref p), some (.ref d), some (.ref b), o3, o4, o5, o6, o7, o8] ∧ Ex p H H' ∧ Tups H H' ∧ Dk H' p c (n + 1 + j * 20) ∧ H' b = some (.lst us) ∧ IsDts H' (ps.map pairD) us ∧ ps.length = j ∧ ∀ q ∈ ps, q.1.length ≤ 6 ∧ ∀ t ∈ q.1, TokOk t)
    ⟨none, none, none, none, none, none, [], [], rfl, (ex_new hb).trans ex2, t2, dk2.mono (by omega), ex2 _ _ nbp upd_same, .nil, rfl, fun q hq => (nomatch hq)⟩ ?_ ?_
  · rintro j σ H3 hj ⟨o3, o4, o5, o6, o7, o8, us, ps, rfl, ex3, t3, dk3, hb3, iu, lp, bp⟩
    have nus : us.length = ps.length := by rw [iu.length, List.length_map]
    refine ⟨(by show 0 ≤ sizeLine; decide), fun g hg => ?_⟩
    obtain ⟨ngp, ngc⟩ := dk3.ne hg
    have ngb : g ≠ b := (ne_of_none hb3 hg).symm
    have hgH : H g = none := by
      cases e : H g with
      | none => rfl
      | some u => rw [ex3 g u ngp e] at hg; cases hg
    refine ⟨_, rfl, p, c, _, rfl, dk3.new hg, by omega, fun r4 H4 ex4 dk4 => ⟨_, _, rfl, rfl, (by show (0 : Int) < 4; decide), r4 % 4, rfl, by have := mod_lt r4 4 (by decide); omega, by have := mod_lt r4 4 (by decide); omega, ?_⟩⟩
    have m4 := mod_lt r4 4 (by decide)
    have t4 : Tups H3 H4 := fun x ys e => (dk3.new (o := .lst []) hg).tups ex4 x ys (same_new hg _ x _ e)
    refine for_range (n := (r4 % 4).toNat) (fun i σ H' => ∃ (o3 o5 o6 o7 o8 : Option V) (gs : List V) (ts : List Tkn), σ = [some (.ref p), some (.ref d), some (.ref b), o3, some (.ref g), o5, o6, o7, o8] ∧ Ex p H H' ∧ Tups H3 H' ∧ Dk H' p c (n + 1 + j * 20 + 1 + i * 3) ∧ H' b = some (.lst us) ∧ H' g = some (.lst gs) ∧ IsDts H' (ts.map tokD) gs ∧ ts.length ≤ 2 * i ∧ ∀ t ∈ ts, TokOk t)
      ⟨_, o5, o6, o7, o8, [], [], rfl, ex3.trans ((ex_new hg).trans ex4), t4, dk4.mono (by omega), ex4 _ _ nbp (same_new hg _ _ _ hb3), ex4 _ _ ngp upd_same, .nil, by simp, fun t ht => (nomatch ht)⟩ ?_ ?_
    · rintro i σ H5 hi ⟨o3, o5, o6, o7, o8, gs, ts, rfl, ex5, t5, dk5, hb5, hg5, ig, lt5, bt⟩
      have ngs : gs.length = ts.length := by rw [ig.length, List.length_map]
      refine ⟨_, rfl, p, c, _, rfl, dk5, by omega, fun cell H6 ex6 dk6 => ?_⟩
      refine ⟨(by show 3 ≤ sizeLine; decide), fun l3 hl3 => ?_⟩
      obtain ⟨m0, m1⟩ := mod_lt cell 3 (by decide)
      obtain ⟨u, hu', hm⟩ := atI_mem (xs := [V.str "p", .str "q", .str "r"]) m0 m1
      obtain ⟨nm, rfl, h3⟩ : ∃ nm : Str, u = .str nm ∧ nm3 nm := by
        simp only [List.mem_cons, List.not_mem_nil, or_false] at hm
        rcases hm with rfl | rfl | rfl
        · exact ⟨_, rfl, .inl rfl⟩
        · exact ⟨_, rfl, .inr (.inl rfl)⟩
        · exact ⟨_, rfl, .inr (.inr rfl)⟩
      refine ⟨_, rfl, _, _, rfl, rfl, (by show (0 : Int) < 3; decide), .inl ⟨l3, _, _, _, rfl, rfl, SqL.of upd_same, hu', ?_⟩⟩
      have s7 := same_new hl3 (.lst [V.str "p", .str "q", .str "r"])
      generalize upd H6 l3 (.lst [V.str "p", .str "q", .str "r"]) = H7 at s7 ⊢
      have dk7 := dk6.keep s7
      have ex7 : Ex p H H7 := ex5.trans (ex6.trans (Same.ex s7))
      have t67 : Tups H5 H7 := fun x ys e => s7.tups _ _ (dk5.tups ex6 _ _ e)
      have tH7 : Tups H H7 := fun x ys e => t67 _ _ (t5 _ _ (t3 _ _ e))
      have hd7 : H7 d = some (.dK (kvR rows)) := ex7 _ _ ndp hd
      have hb7 : H7 b = some (.lst us) := s7 _ _ (ex6 _ _ nbp hb5)
      have hg7 : H7 g = some (.lst gs) := s7 _ _ (ex6 _ _ ngp hg5)
      obtain ⟨rw', rm, re, _, rv⟩ := kvR_some (rows := rows) (s := nm) (by rw [hnm]; exact nm_mem h3)
      obtain ⟨iv, ob⟩ := hro.mono tH7 rw' rm
      obtain ⟨a1, b1, vs, e1, ha1, hb1, ivs⟩ := bag_at iv
      rw [re] at ob
      have nvs : vs.length = rw'.2.2.length := by rw [ivs.length, datB_map, List.length_map]
      refine .inr ⟨_, rfl, _, rfl, .inr (.inr (.inr ⟨d, _, rfl, (by rw [← rv]; exact DGet.k (k := Sum.inr nm) hd7), .inr (.inl ⟨a1, _, 1, _, e1, rfl, SqT.of ha1, rfl, b1, rfl, ⟨_, SqT.of hb1⟩, ?_⟩)⟩))⟩
      refine ⟨fun i2 m2 zs H8 => Same H7 H8 ∧ m2 + i2 = rw'.2.2.length ∧ i2 ≤ rw'.2.2.length ∧ IsDts H8 ((rw'.2.2.take i2).map fun q => dat q.1) zs, ⟨rw'.2.2.length, .refl _, rfl, Nat.zero_le _, .nil⟩, ?_⟩
      rintro i2 m2 zs H8 ⟨s8, hm2, li2, iz⟩
      have nz : zs.length = i2 := by rw [iz.length, List.length_map, List.length_take]; omega
      have lq : rw'.2.2.length ≤ 60 := ob.1
      refine ⟨line _ (by omega), ?_⟩
      by_cases hi2 : i2 < rw'.2.2.length
      · obtain ⟨u, hu2, du⟩ := ivs.get (i := i2) (d := .tup [dat rw'.2.2[i2].1, .int rw'.2.2[i2].2]) (by rw [datB_map, List.getElem?_map, List.getElem?_eq_getElem hi2]; rfl)
        refine .inr ⟨⟨_, _, SqT.of (s8 _ _ hb1), hu2⟩, fun zc x H9 hy => ?_⟩
        obtain ⟨rfl, hx⟩ := hy
        obtain rfl : u = x := by have := hx _ (SqT.of (s8 _ _ hb1)); rw [hu2] at this; injection this
        obtain ⟨cc, y1, z1, rfl, hc1, iy1, iz1⟩ := dt_two du
        rw [IsDt] at iz1
        subst iz1
        refine ⟨cc, _, rfl, SqT.of (s8 _ _ hc1), rfl, _, _, rfl, _, _, rfl, rfl, ?_⟩
        refine tallT ?_
        refine ⟨_, rfl, m2 - 1, by omega, s8, by omega, by omega, ?_⟩
        have tk : (rw'.2.2.take (i2 + 1)).map (fun q => dat q.1) = (rw'.2.2.take i2).map (fun q => dat q.1) ++ [dat rw'.2.2[i2].1] := by rw [List.take_add_one, List.getElem?_eq_getElem hi2, List.map_append]; rfl
        rw [tk]
        exact iz.append (.one (IsDt.mono s8.tups iy1))
      · refine .inl ⟨⟨_, SqT.of (s8 _ _ hb1), by omega⟩, fun l8 hl8 => ?_⟩
        rw [List.take_of_length_le (by omega)] at iz
        have s9 := s8.trans (same_new hl8 (.lst zs))
        have hl9 : (upd H8 l8 (.lst zs)) l8 = some (.lst zs) := upd_same
        have iz9 := IsDts.mono (same_new hl8 (.lst zs)).tups iz
        generalize upd H8 l8 (.lst zs) = H9 at s9 hl9 iz9 ⊢
        have dk9 := dk7.keep s9
        obtain ⟨nl8p, nl8c⟩ : l8 ≠ p ∧ l8 ≠ c := by
          have := (dk7.keep s8).ne hl8
          exact this
        refine ⟨_, rfl, _, rfl, p, c, _, nm, rfl, dk9, by omega, h3, fun x v Ha exa dka ivx shx => ⟨(by show 1 ≤ sizeLine; decide), fun l9 hl9' => ?_⟩⟩
        have hla : Ha l8 = some (.lst zs) := exa _ _ nl8p hl9
        have iza := IsDts.mono (dk9.tups exa) iz9
        have sb := same_new hl9' (.lst [v])
        refine .inr (.inr (.inl ⟨l8, l9, zs, [v], rfl, rfl, sb _ _ hla, upd_same, (by show zs.length + 1 ≤ sizeLine; exact Nat.le_of_lt (line _ (by omega))), fun la hla' => ?_⟩))
        have sc := sb.trans (same_new hla' (.lst (zs ++ [v])))
        have hlc : (upd (upd Ha l9 (.lst [v])) la (.lst (zs ++ [v]))) la = some (.lst (zs ++ [v])) := upd_same
        have izc : IsDts (upd (upd Ha l9 (.lst [v])) la (.lst (zs ++ [v]))) ((rw'.2.2.map fun q => dat q.1) ++ [dat x]) (zs ++ [v]) := (IsDts.mono sc.tups iza).append (.one (IsDt.mono sc.tups ivx))
        generalize upd (upd Ha l9 (.lst [v])) la (.lst (zs ++ [v])) = Hc at sc hlc izc ⊢
        have dkc := dka.keep sc
        have tc : Tups H5 Hc := fun x ys e => sc.tups _ _ (dk9.tups exa _ _ (s9.tups _ _ (t67 _ _ e)))
        have exc : Ex p H Hc := ex7.trans ((Same.ex s9).trans (exa.trans (Same.ex sc)))
        have hbc : Hc b = some (.lst us) := sc _ _ (exa _ _ nbp (s9 _ _ hb7))
        have hgc : Hc g = some (.lst gs) := sc _ _ (exa _ _ ngp (s9 _ _ hg7))
        refine ⟨_, rfl, .inl ⟨rfl, _, SqL.of hgc⟩, _, rfl, _, rfl, _, rfl, _, _, rfl, rfl, ⟨by decide, by decide⟩, _, rfl, .inl ⟨la, _, rfl, .inl (SqL.of hlc), _, _, rfl, rfl, ?pos, ?_⟩⟩
        case pos => rw [List.length_append]; show (0 : Int) < ((zs.length + 1 : Nat) : Int); omega
        obtain ⟨j0, j1⟩ := mod_lt (cell / 3) ((zs ++ [v]).length : Int) (by rw [List.length_append]; show (0 : Int) < ((zs.length + 1 : Nat) : Int); omega)
        obtain ⟨jn, hjn⟩ : ∃ jn : Nat, cell / 3 % ((zs ++ [v]).length : Int) = (jn : Int) := ⟨(cell / 3 % ((zs ++ [v]).length : Int)).toNat, by omega⟩
        have hjl : jn < (zs ++ [v]).length := by omega
        -- the drawn value
        obtain ⟨y, iy, shy⟩ : ∃ y : Val, IsVal Hc y ((zs ++ [v])[jn]) ∧ Sh nm y := by
          by_cases hz : jn < zs.length
          · have hq : jn < rw'.2.2.length := by omega
            obtain ⟨u, e1, e2⟩ := izc.get (i := jn) (d := dat rw'.2.2[jn].1) (by rw [List.getElem?_append_left (by rw [List.length_map]; exact hq), List.getElem?_map, List.getElem?_eq_getElem hq]; rfl)
            rw [List.getElem?_eq_getElem hjl] at e1
            cases e1
            exact ⟨rw'.2.2[jn].1, e2, (ob.2 _ (List.getElem_mem hq)).1⟩
          · have hq : jn = zs.length := by rw [List.length_append] at hjl; simp at hjl; omega
            subst hq
            refine ⟨x, ?_, shx⟩
            have e : (zs ++ [v])[zs.length] = v := by simp
            rw [e]
            exact IsDt.mono sc.tups ivx
        refine .inl ⟨la, _, _, _, rfl, rfl, SqL.of hlc, (by rw [hjn]; exact atI_nat (List.getElem?_eq_getElem hjl)), (by show 2 ≤ sizeLine; decide), fun tt htt => ?_⟩
        refine ⟨g, gs, _, rfl, rfl, same_new htt _ _ _ hgc, line _ (by omega), ?_⟩
        have itt := isDt_new (ds := tokL (nm, y)) htt (.cons (isDt_str nm) (.one iy))
        have std := same_new htt (.tup [V.str nm, (zs ++ [v])[jn]])
        have hgd : (upd Hc tt (.tup [V.str nm, (zs ++ [v])[jn]])) g = some (.lst gs) := std _ _ hgc
        have hbd := std _ _ hbc
        have dkd := dkc.keep std
        have exd := exc.trans (Same.ex (p := p) std)
        have td : Tups H5 (upd Hc tt (.tup [V.str nm, (zs ++ [v])[jn]])) := fun x ys e => std.tups _ _ (tc _ _ e)
        generalize upd Hc tt (.tup [V.str nm, (zs ++ [v])[jn]]) = Hd at itt std hgd hbd dkd exd td ⊢
        have te : Tups Hd (upd Hd g (.lst (gs ++ [.ref tt]))) := Tups.lst hgd
        have hge : (upd Hd g (.lst (gs ++ [.ref tt]))) g = some (.lst (gs ++ [.ref tt])) := upd_same
        have hbe : (upd Hd g (.lst (gs ++ [.ref tt]))) b = some (.lst us) := by rw [upd_ne ngb.symm]; exact hbd
        have dke := dkd.upd (o := .lst (gs ++ [.ref tt])) ngp ngc
        have exe := exd.upd' (o := .lst (gs ++ [.ref tt])) hgH
        have ige : IsDts (upd Hd g (.lst (gs ++ [.ref tt]))) ((ts ++ [(nm, y)]).map tokD) (gs ++ [.ref tt]) := by
          rw [List.map_append]
          exact (IsDts.mono (fun x ys e => te _ _ (td _ _ e)) ig).append (.one (IsDt.mono te itt))
        have tE : Tups H3 (upd Hd g (.lst (gs ++ [.ref tt]))) := fun x ys e => te _ _ (td _ _ (t5 _ _ e))
        have itE := IsDt.mono te itt
        have btE : ∀ t ∈ ts ++ [(nm, y)], TokOk t := fun t ht => by
          rcases List.mem_append.mp ht with h | h
          · exact bt t h
          · rw [List.mem_singleton.mp h]; exact ⟨h3, shy⟩
        generalize upd Hd g (.lst (gs ++ [.ref tt])) = He at te hge hbe dke exe ige tE itE ⊢
        refine ⟨_, rfl, _, _, rfl, rfl, ⟨by decide, by decide⟩, _, _, rfl, rfl, (by show (0 : Int) < 5; decide), .inl ⟨rfl, _, rfl, ?_⟩⟩
        refine ite2 (fun e2 => ?_) (fun e2 => ?_)
        · refine ⟨_, rfl, .inl ⟨rfl, _, SqL.of hge⟩, _, rfl, _, rfl, .inl ⟨g, _, _, .ref tt, rfl, rfl, SqL.of hge, ?_, ?_⟩⟩
          · show atI (gs ++ [V.ref tt]) (-1) = _
            unfold atI ixN
            have hl1 : (gs ++ [V.ref tt]).length = gs.length + 1 := by rw [List.length_append]; rfl
            rw [if_neg (by decide), if_pos (by rw [hl1]; omega)]
            have : (-1 + ((gs ++ [V.ref tt]).length : Int)).toNat = gs.length := by rw [hl1]; omega
            rw [this]
            simp
          · refine ⟨g, _, _, rfl, rfl, hge, line _ (by rw [List.length_append]; show gs.length + 1 ≤ 1000; omega), ?_⟩
            have tf : Tups He (upd He g (.lst (gs ++ [.ref tt] ++ [.ref tt]))) := Tups.lst hge
            refine ⟨_, _, _, _, _, gs ++ [.ref tt] ++ [.ref tt], ts ++ [(nm, y)] ++ [(nm, y)], rfl, exe.upd' hgH, fun x ys e => tf _ _ (tE _ _ e), (dke.upd ngp ngc).mono (by omega), by rw [upd_ne ngb.symm]; exact hbe, upd_same, ?_, ?_, fun t ht => ?_⟩
            · rw [List.map_append]
              exact (IsDts.mono tf ige).append (.one (IsDt.mono tf itE))
            · rw [List.length_append, List.length_append]; show ts.length + 1 + 1 ≤ _; omega
            · rcases List.mem_append.mp ht with h | h
              · exact btE t h
              · exact btE t (by rw [List.mem_singleton.mp h]; simp)
        · refine ⟨_, _, _, _, _, gs ++ [.ref tt], ts ++ [(nm, y)], rfl, exe, tE, dke.mono (by omega), hbe, hge, ige, ?_, btE⟩
          rw [List.length_append]; show ts.length + 1 ≤ _; omega
    · rintro σ H5 ⟨o3, o5, o6, o7, o8, gs, ts, rfl, ex5, t5, dk5, hb5, hg5, ig, lt5, bt⟩
      have ngs : gs.length = ts.length := by rw [ig.length, List.length_map]
      refine ⟨_, rfl, p, c, _, rfl, dk5, by omega, fun cell H6 ex6 dk6 => ?_⟩
      have hb6 : H6 b = some (.lst us) := ex6 _ _ nbp hb5
      have hg6 : H6 g = some (.lst gs) := ex6 _ _ ngp hg5
      have ig6 := IsDts.mono (dk5.tups ex6) ig
      have ig6' := ig6
      rw [tok_map] at ig6'
      have lt7 : (ts.map tokL).length ≤ 6 := by rw [List.length_map]; omega
      refine ⟨_, rfl, .inl ⟨rfl, _, SqL.of hb6⟩, _, rfl, g, gs, ts.map tokL, "str", rfl, hg6, ig6', sortable_tok bt, by omega, fun a pm ha pp _ _ => ?_⟩
      have pl : ∀ i ∈ pm, i < ts.length := fun i hi => by have := pp.mem_iff.mp hi; simpa using this
      have isd := isDts_perm ig6' pm (fun i hi => by rw [List.length_map]; exact pl i hi)
      have et : (pm.map fun i => (ts.map tokL).getD i []).map Dt.tup = (pm.map fun i => ts.getD i ("", .num 0)).map tokD := by
        rw [List.map_map, List.map_map]
        refine List.map_congr_left fun i hi => ?_
        have hl := pl i hi
        show Dt.tup ((ts.map tokL).getD i []) = tokD (ts.getD i ("", .num 0))
        rw [List.getD_eq_getElem?_getD, List.getD_eq_getElem?_getD, List.getElem?_map, List.getElem?_eq_getElem hl]
        rfl
      rw [et] at isd
      have bt' : ∀ t ∈ pm.map (fun i => ts.getD i ("", .num 0)), TokOk t := fun t ht => by
        obtain ⟨i, hi, rfl⟩ := List.mem_map.mp ht
        have hl := pl i hi
        rw [List.getD_eq_getElem?_getD, List.getElem?_eq_getElem hl]
        exact bt _ (List.getElem_mem hl)
      have lt' : (pm.map fun i => ts.getD i ("", Val.num 0)).length ≤ 6 := by rw [List.length_map, pp.length_eq, List.length_range]; exact lt7
      generalize pm.map (fun i => ts.getD i ("", .num 0)) = ts' at isd bt' lt'
      generalize pm.map (fun i => gs.getD i V.non) = gs' at isd ⊢
      have s7 := same_new ha (.lst gs')
      refine ⟨a, gs', rfl, .inl ⟨SqL.of upd_same, fun t1 ht1 => ?_⟩⟩
      have s8 := s7.trans (same_new ht1 (.tup gs'))
      have i8 : IsDt (upd (upd H6 a (.lst gs')) t1 (.tup gs')) (.tup (ts'.map tokD)) (.ref t1) := isDt_new ht1 (IsDts.mono s7.tups isd)
      generalize upd (upd H6 a (.lst gs')) t1 (.tup gs') = H8 at s8 i8 ⊢
      refine ⟨_, rfl, _, rfl, _, _, rfl, rfl, ⟨by decide, by decide⟩, _, _, rfl, rfl, ⟨by decide, by decide, by decide⟩, _, _, rfl, rfl, (by show (0 : Int) < 10 ^ 20; decide), _, _, rfl, rfl, (by show 4 ≤ sizeLine; decide), fun l4 hl4 => ?_⟩
      obtain ⟨m0, m1⟩ := mod_lt cell 4 (by decide)
      obtain ⟨u, hu', hm⟩ := atI_mem (xs := [V.int 1, .int (-1), .int 2, .int (cell / 5 % 10 ^ (20 : Int).toNat - 7)]) m0 m1
      obtain ⟨k, rfl⟩ : ∃ k : Int, u = .int k := by
        simp only [List.mem_cons, List.not_mem_nil, or_false] at hm
        rcases hm with rfl | rfl | rfl | rfl <;> exact ⟨_, rfl⟩
      refine ⟨_, rfl, _, _, rfl, rfl, (by show (0 : Int) < 4; decide), .inl ⟨l4, _, _, _, rfl, rfl, SqL.of upd_same, hu', (by show 2 ≤ sizeLine; decide), fun t2 ht2 => ?_⟩⟩
      have s9 := (s8.trans (same_new hl4 (.lst [V.int 1, .int (-1), .int 2, .int (cell / 5 % 10 ^ (20 : Int).toNat - 7)]))).trans (same_new ht2 (.tup [.ref t1, .int k]))
      have i9 : IsDt (upd (upd H8 l4 (.lst [V.int 1, .int (-1), .int 2, .int (cell / 5 % 10 ^ (20 : Int).toNat - 7)])) t2 (.tup [.ref t1, .int k])) (pairD (ts', k)) (.ref t2) := isDt_new ht2 (.cons (IsDt.mono (same_new hl4 _).tups i8) (.one (isDt_int k)))
      generalize upd (upd H8 l4 (.lst [V.int 1, .int (-1), .int 2, .int (cell / 5 % 10 ^ (20 : Int).toNat - 7)])) t2 (.tup [.ref t1, .int k]) = H9 at s9 i9 ⊢
      have hb9 := s9 _ _ hb6
      refine ⟨b, us, _, rfl, rfl, hb9, line _ (by omega), ?_⟩
      have ta : Tups H9 (upd H9 b (.lst (us ++ [.ref t2]))) := Tups.lst hb9
      have t39 : Tups H3 H9 := fun x ys e => s9.tups _ _ (dk5.tups ex6 _ _ (t5 _ _ e))
      refine ⟨_, _, _, _, _, _, us ++ [.ref t2], ps ++ [(ts', k)], rfl, (ex5.trans (ex6.trans (Same.ex s9))).upd' hb, fun x ys e => ta _ _ (t39 _ _ (t3 _ _ e)), (((dk6.keep s9).upd nbp nbc)).mono (by omega), upd_same, ?_, by rw [List.length_append, lp]; rfl, fun q hq => ?_⟩
      · rw [List.map_append]
        exact (IsDts.mono (fun x ys e => ta _ _ (t39 _ _ e)) iu).append (.one (IsDt.mono ta i9))
      · rcases List.mem_append.mp hq with h | h
        · exact bp q h
        · rw [List.mem_singleton.mp h]; exact ⟨lt', bt'⟩
  · rintro σ H3 ⟨o3, o4, o5, o6, o7, o8, us, ps, rfl, ex3, t3, dk3, hb3, iu, lp, bp⟩
    refine ⟨_, rfl, b, us, rfl, .inl ⟨SqL.of hb3, fun t ht => ?_⟩⟩
    exact fin _ _ ps (ex3.trans (ex_new ht)) ((dk3.new ht).mono (by omega)) (isDt_new ht iu) ⟨by omega, bp⟩
end
end K74
end
section
set_option Elab.async false
set_option linter.all false
set_option maxRecDepth 100000
set_option maxHeartbeats 4000000
namespace K74
open PySem L2 Kn
def datL : Val → List Dt
  | .num i => [.str "num", .int i]
  | .word s => [.str "word", .str s]
  | .row ps => [.str "row", .tup (datR ps)]
  | .bag ps => [.str "bag", .tup (datB ps)]
theorem dat_L (x : Val) : dat x = .tup (datL x) := by cases x <;> rw [dat] <;> rfl
def dvs (qs : List (Val × Int)) : List (List Dt × V) := qs.map fun q => (datL q.1, .int q.2)
noncomputable def cntV (qs : List (Val × Int)) (x : Val) : V := (valV (mergeG [] (dvs qs)) (datL x)).getD (.int 0)
noncomputable def cntOf (qs : List (Val × Int)) (x : Val) : Int := match cntV qs x with | .int k => k | _ => 0
theorem valV_mem {κ : Type} [DecidableEq κ] {kvs : List (κ × V)} {k : κ} {v : V} (h : valV kvs k = some v) : ∃ p ∈ kvs, p.1 = k ∧ p.2 = v := by
  induction kvs with
  | nil => cases h
  | cons p r ih =>
    by_cases e : p.1 = k
    · rw [valV_pos e] at h; cases h; exact ⟨p, List.mem_cons_self, e, rfl⟩
    · rw [valV_neg e] at h
      obtain ⟨q, h1, h2⟩ := ih h
      exact ⟨q, List.mem_cons_of_mem _ h1, h2⟩
theorem cnt_int {qs : List (Val × Int)} (h : ∀ q ∈ qs, -(10 ^ 12) ≤ q.2 ∧ q.2 ≤ 10 ^ 12) (x : Val) : cntV qs x = .int (cntOf qs x) ∧ -(10 ^ 12) ≤ cntOf qs x ∧ cntOf qs x ≤ 10 ^ 12 := by
  unfold cntOf
  have key : ∃ k : Int, cntV qs x = .int k ∧ -(10 ^ 12) ≤ k ∧ k ≤ 10 ^ 12 := by
    unfold cntV
    rw [valV_merge]
    cases e : valV (dvs qs).reverse (datL x) with
    | none => exact ⟨0, rfl, by decide, by decide⟩
    | some v =>
      obtain ⟨p, hp, _, rfl⟩ := valV_mem e
      obtain ⟨q, hq, rfl⟩ := List.mem_map.mp (List.mem_reverse.mp hp)
      exact ⟨q.2, rfl, h q hq⟩
  obtain ⟨k, e, h1, h2⟩ := key
  rw [e]
  exact ⟨rfl, h1, h2⟩
noncomputable def qsOf (rows : List Rw) (s : Str) : List (Val × Int) := match rows.find? (fun r => decide (r.1 = s)) with | some r => r.2.2 | none => []
noncomputable def prodOf (rows : List Rw) (f : Int) (ts : List Tkn) : Int := ts.foldl (fun acc t => acc * cntOf (qsOf rows t.1) t.2) f
noncomputable def totOf (rows : List Rw) (ps : List Pq) : Int := ps.foldl (fun acc q => acc + prodOf rows q.2 q.1) 0
theorem prod_take {rows : List Rw} {f : Int} {ts : List Tkn} {i : Nat} {t : Tkn} (h : ts[i]? = some t) : prodOf rows f (ts.take (i + 1)) = prodOf rows f (ts.take i) * cntOf (qsOf rows t.1) t.2 := by
  unfold prodOf
  rw [List.take_add_one, h, List.foldl_append]
  rfl
theorem tot_take {rows : List Rw} {ps : List Pq} {i : Nat} {q : Pq} (h : ps[i]? = some q) : totOf rows (ps.take (i + 1)) = totOf rows (ps.take i) + prodOf rows q.2 q.1 := by
  unfold totOf
  rw [List.take_add_one, h, List.foldl_append]
  rfl
theorem merge_new {κ : Type} [DecidableEq κ] : ∀ (more acc : List (κ × V)), ((acc ++ more).map (·.1)).Nodup → mergeG acc more = acc ++ more
  | [], acc, _ => by simp [mergeG]
  | p :: more, acc, nd => by
    have e : mergeG acc (p :: more) = mergeG (putK acc p.1 p.2) more := rfl
    have hn : valV acc p.1 = none := by
      cases h : valV acc p.1 with
      | none => rfl
      | some v =>
        obtain ⟨q, hq, e1, _⟩ := valV_mem h
        rw [List.map_append, List.map_cons, List.nodup_append] at nd
        exact absurd rfl (nd.2.2 p.1 (List.mem_map.mpr ⟨q, hq, e1⟩) p.1 List.mem_cons_self)
    rw [e, putK_new _ hn, merge_new more _ (by simpa using nd)]
    simp
/-- a bag's pairs as pairs for a dict -/
theorem pairsN_of {H : Hp} {s : Str} : ∀ {qs : List (Val × Int)} {us : List V}, IsDts H (datB qs) us → (∀ q ∈ qs, Sh s q.1) → PairsN H (dvs qs) us
  | [], _, h, _ => by rw [datB, IsDts] at h; subst h; exact .nil
  | q :: qs, _, h, hs => by
    rw [datB_map, List.map_cons, IsDts] at h
    obtain ⟨y, ys, rfl, h1, h2⟩ := h
    rw [← datB_map] at h2
    obtain ⟨c, y1, z1, rfl, hc1, iy1, iz1⟩ := dt_two h1
    rw [IsDt] at iz1
    subst iz1
    refine .cons ⟨c, y1, rfl, hc1, by rw [← dat_L]; exact iy1, ?_⟩ (pairsN_of h2 fun z hz => hs z (List.mem_cons_of_mem _ hz))
    have sh := hs q List.mem_cons_self
    show depL (datL q.1) ≤ 7
    generalize q.1 = x at sh
    cases sh <;> simp [datL, datR, dat, depL, Dt.dep]
theorem dep_L {s : Str} {x : Val} (sh : Sh s x) : depL (datL x) ≤ 7 := by cases sh <;> simp [datL, datR, dat, depL, Dt.dep]
/-- the dicts of the bags -/
def DNs (P : Program) (w : World) (H : Hp) : List Rw → List V → Prop := Paired fun r z => ∃ t a, z = .ref t ∧ H t = some (.tup [.str r.1, .ref a]) ∧ IsDN P w H a (mergeG [] (dvs r.2.2))
theorem isDN_same {P : Program} {w : World} {H H' : Hp} {a : Addr} {l : List (List Dt × V)} (s : Same H H') (h : IsDN P w H a l) : IsDN P w H' a l := by
  obtain ⟨bs, h1, h2⟩ := id h
  exact h.mono s.tups (by rw [s _ _ h1, h1])
theorem DNs.mono {P : Program} {w : World} {H H' : Hp} {rows : List Rw} {zs : List V} (s : Same H H') (h : DNs P w H rows zs) : DNs P w H' rows zs :=
  Paired.mapP h fun _ _ ⟨t, a, e, h1, h2⟩ => ⟨t, a, e, s _ _ h1, isDN_same s h2⟩
def CtOk (P : Program) (w : World) (H : Hp) : List Rw → List (Key × V) → Prop := Paired fun r kv => kv.1 = Sum.inr r.1 ∧ ∃ a, kv.2 = .ref a ∧ IsDN P w H a (mergeG [] (dvs r.2.2))
theorem CtOk.mono {P : Program} {w : World} {H H' : Hp} {rows : List Rw} {kvs : List (Key × V)} (s : Same H H') (h : CtOk P w H rows kvs) : CtOk P w H' rows kvs :=
  Paired.mapP h fun _ _ ⟨e, a, h1, h2⟩ => ⟨e, a, h1, isDN_same s h2⟩
theorem ct_of {P : Program} {w : World} {H : Hp} {rows : List Rw} {zs : List V} (h : DNs P w H rows zs) : ∃ kvs, PairsK H kvs zs ∧ CtOk P w H rows kvs := by
  induction h with
  | nil => exact ⟨[], .nil, .nil⟩
  | @cons r z rs zs hr t ih =>
    obtain ⟨kvs, h1, h2⟩ := ih
    obtain ⟨t, a, rfl, e, d⟩ := hr
    exact ⟨(Sum.inr r.1, .ref a) :: kvs, .cons ⟨t, rfl, e⟩ h1, .cons ⟨rfl, a, rfl, d⟩ h2⟩
theorem ct_keys {P : Program} {w : World} {H : Hp} {rows : List Rw} {kvs : List (Key × V)} (h : CtOk P w H rows kvs) : kvs.map (·.1) = rows.map fun r => Sum.inr r.1 := by
  induction h with
  | nil => rfl
  | cons hr _ ih => rw [List.map_cons, List.map_cons, ih, hr.1]
theorem ct_get {P : Program} {w : World} {H : Hp} {rows : List Rw} {kvs : List (Key × V)} (h : CtOk P w H rows kvs) {s : Str} (hs : s ∈ rows.map (·.1)) : ∃ a, valV kvs (Sum.inr s) = some (.ref a) ∧ IsDN P w H a (mergeG [] (dvs (qsOf rows s))) := by
  induction h with
  | nil => simp at hs
  | @cons r kv rs kvs hr t ih =>
    obtain ⟨e, a, e2, d⟩ := hr
    by_cases c : r.1 = s
    · refine ⟨a, by rw [valV_pos (by rw [e, c]), e2], ?_⟩
      have : qsOf (r :: rs) s = r.2.2 := by unfold qsOf; rw [List.find?_cons, decide_eq_true c]
      rw [this]; exact d
    · rw [List.map_cons, List.mem_cons] at hs
      obtain ⟨a', h1, h2⟩ := ih (hs.resolve_left fun z => c z.symm)
      refine ⟨a', by rw [valV_neg (by rw [e]; intro z; injection z with z; exact c z)]; exact h1, ?_⟩
      have : qsOf (r :: rs) s = qsOf rs s := by unfold qsOf; rw [List.find?_cons, decide_eq_false c]
      rw [this]; exact h2
theorem qs_ok {H : Hp} {rows : List Rw} (h : RowsOk H rows) (s : Str) : ∀ q ∈ qsOf rows s, -(10 ^ 12) ≤ q.2 ∧ q.2 ≤ 10 ^ 12 := fun q hq => by
  unfold qsOf at hq
  split at hq
  · rename_i r e
    exact ((h r (List.mem_of_find?_eq_some e)).2.2 q hq).2
  · cases hq
section
variable {P : Program} {w : World} {K : PySem.W.Frag} {mg : Str → Option Value} {base : Heap} {f : Addr} {fd : FuncData}
theorem sc_worth : FnScope ["pairs", "store", "counts", "total", "tokens", "factor", "product", "table", "value"] ["pairs", "store"] (defScope (top 9)) := ⟨rfl, rfl, rfl, by decide +kernel, rfl, by decide +kernel, by decide +kernel⟩
def spWorth : Sp := fun vs H Q _ => ∃ (v : V) (d : Addr) (rows : List Rw) (ps : List Pq), vs = [v, .ref d] ∧ IsDt H (.tup (ps.map pairD)) v ∧ PsOk ps ∧ Store H d rows ∧
  ∀ (H' : Hp), Ex d H H' → Q (.int (totOf rows ps)) H'
theorem ok_worth (T : Tx mg) (D : Df K mg "worth" (top 9) f fd ["pairs", "store"]) : FnOk P w K mg base CX0 1 f fd ["pairs", "store"] spWorth := by
  refine D.fn.okH sc_worth (fun vs H Q E h => ?_) (fun cdv A outer s H vs Q E hr h => ?_)
  · obtain ⟨v, d, rows, ps, rfl, _⟩ := h; rfl
  obtain ⟨v, d, rows, ps, rfl, iv, pok, ⟨hd, hnm, hro⟩, fin⟩ := h
  have hu := u110 hr
  have hu0 := u0 hr
  have hu1 := hu_of hr
  have line : ∀ n : Nat, n ≤ 1000 → n < sizeLine := fun n h => Nat.lt_of_le_of_lt h (by decide)
  have lr : rows.length = 3 := by have := congrArg List.length hnm; rw [List.length_map] at this; exact this
  refine ⟨_, (wss_cons (ws_set (i := 2) sc_worth.nd rfl (Or.inl rfl) (we_callTy (call_dictK rfl) rfl T.z_dict bt_dict (wa_cons (we_lc (Nt := ["table", "bag"]) (fr := []) (LcOk.of (sc := defScope (top 9)) (N := ["pairs", "store", "counts", "total", "tokens", "factor", "product", "table", "value"]) rfl rfl (by decide +kernel)) rfl (wi_view (we_bm0 PySem.F.plainAttrs_dict PySem.F.slot_dict_items PySem.F.type_dict_items mt_items (wv 1))) (fun z => wg_tup rfl (wgs_cons (wg_name (i := 0) (by show (["table", "bag"] : List Str).Nodup; decide +kernel) rfl (Or.inl rfl) (.inr rfl)) (wgs_cons (wg_name (i := 1) (by show (["table", "bag"] : List Str).Nodup; decide +kernel) rfl (Or.inl rfl) (.inr rfl)) wgs_nil))) (fun z => tgt_two (by decide) (by decide)) (fun z => wif_nil) (fun z => (we_tup (wa_cons (wv 0) (wa_cons (we_callTy (call_dictN rfl hu) rfl T.z_dict bt_dict (wa_cons (we_ix (ix_U hu1) (wv 1) we_int (fun _ _ => rfl)) wa_nil)) wa_nil))))) wa_nil)))
      (wss_cons (ws_set (i := 3) sc_worth.nd rfl (Or.inl rfl) we_int)
      (wss_cons (ws_for PassesOwn.never rfl (wi_U (wv 0)) (wg_tup rfl (wgs_cons (wg_name (i := 4) sc_worth.nd rfl (Or.inl rfl)) (wgs_cons (wg_name (i := 5) sc_worth.nd rfl (Or.inl rfl)) wgs_nil))) (wss_cons (ws_set (i := 6) sc_worth.nd rfl (Or.inl rfl) (wv 5))
      (wss_cons (ws_for PassesOwn.never rfl (wi_U (wv 4)) (wg_tup rfl (wgs_cons (wg_name (i := 7) sc_worth.nd rfl (Or.inl rfl)) (wgs_cons (wg_name (i := 8) sc_worth.nd rfl (Or.inl rfl)) wgs_nil))) (wss_one (ws_aug (i := 6) sc_worth.nd rfl (Or.inl rfl) (we_dget2N hu (we_dget2 hu1 (wv 2) (wv 7) we_dnewK) (wv 8) we_int) ip_mul)))
      (wss_one (ws_aug (i := 3) sc_worth.nd rfl (Or.inl rfl) (wv 6) ip_add)))))
      (wss_one (ws_ret (wv 3)))))), ?_⟩
  refine ⟨_, rfl, .inr (.inr (.inl ⟨rfl, .inl ⟨_, hd⟩⟩)), d, _, rfl, rfl, hd, fun vw hvw => ?_⟩
  have ndv : d ≠ vw := ne_of_none hd hvw
  refine ⟨vw, d, _, rfl, upd_same, (by rw [upd_ne ndv]; exact hd), fun od => ?_⟩
  have hd1 : (upd (upd H vw (.ext (ItemsV vw d))) d (.frz od (.dK (kvR rows)))) d = some (.frz od (.dK (kvR rows))) := upd_same
  have ex1 : Ex d H (upd (upd H vw (.ext (ItemsV vw d))) d (.frz od (.dK (kvR rows)))) := fun b o nb e => by rw [upd_ne nb, upd_ne (ne_of_none e hvw)]; exact e
  generalize upd (upd H vw (.ext (ItemsV vw d))) d (.frz od (.dK (kvR rows))) = H1 at hd1 ex1 ⊢
  have t1 : Tups H H1 := fun b xs e => ex1 b _ (fun z => by rw [z, hd] at e; cases e) e
  have hro1 := hro.mono t1
  have lk : (kvR rows).length = 3 := by unfold kvR; rw [List.length_map]; exact lr
  refine ⟨fun i2 m2 zs H8 => Same H1 H8 ∧ m2 + i2 = 3 ∧ i2 ≤ 3 ∧ DNs P w H8 (rows.take i2) zs, ⟨3, .refl _, rfl, Nat.zero_le _, .nil⟩, ?_⟩
  rintro i2 m2 zs H8 ⟨s8, hm2, li2, iz⟩
  have nz : zs.length = i2 := by have := Paired.length iz; rw [List.length_take] at this; omega
  refine ⟨line _ (by omega), ?_⟩
  by_cases hi2 : i2 < 3
  · refine .inr ⟨⟨s8 _ _ hd1, by omega⟩, fun zc x H9 hy => ?_⟩
    obtain ⟨pt, kv, rfl, hpt, hkv, rfl⟩ := hy
    have hri : i2 < rows.length := by omega
    have ekv : kv = (Sum.inr rows[i2].1, rows[i2].2.1) := by
      unfold kvR at hkv
      rw [List.getElem?_map, List.getElem?_eq_getElem hri] at hkv
      exact (Option.some.inj hkv).symm
    subst ekv
    have s9 := s8.trans (same_new hpt (.tup [kV (Sum.inr rows[i2].1), rows[i2].2.1]))
    have hpt9 : (upd H8 pt (.tup [kV (Sum.inr rows[i2].1), rows[i2].2.1])) pt = some (.tup [kV (Sum.inr rows[i2].1), rows[i2].2.1]) := upd_same
    have s89 := same_new hpt (.tup [kV (Sum.inr rows[i2].1), rows[i2].2.1])
    generalize upd H8 pt (.tup [kV (Sum.inr rows[i2].1), rows[i2].2.1]) = H9 at s9 hpt9 s89 ⊢
    refine ⟨pt, _, rfl, SqT.of hpt9, rfl, _, _, rfl, _, _, rfl, rfl, ?_⟩
    refine tallT ?_
    obtain ⟨ivr, okr⟩ := hro1.mono s9.tups rows[i2] (List.getElem_mem hri)
    obtain ⟨a1, b1, us1, e1, ha1, hb1, ius1⟩ := bag_at ivr
    refine ⟨_, rfl, _, rfl, .inr (.inl ⟨a1, _, 1, _, e1, rfl, SqT.of ha1, rfl, b1, us1, dvs rows[i2].2.2, rfl, .inr hb1, pairsN_of ius1 (fun q hq => (okr.2 q hq).1), fun an φ han isn => ⟨(by show 2 ≤ sizeLine; decide), fun tn htn => ?_⟩⟩)⟩
    have sA := (same_new han (.ext φ)).trans (same_new htn (.tup [kV (Sum.inr rows[i2].1), .ref an]))
    refine ⟨m2 - 1, by omega, s9.trans sA, by omega, by omega, ?_⟩
    have tk : rows.take (i2 + 1) = rows.take i2 ++ [rows[i2]] := by rw [List.take_add_one, List.getElem?_eq_getElem hri]; rfl
    rw [tk]
    exact Paired.snoc (DNs.mono (s89.trans sA) iz) ⟨tn, an, rfl, upd_same, isDN_same (same_new htn _) isn⟩
  · refine .inl ⟨⟨s8 _ _ hd1, by omega⟩, fun l8 hl8 => ?_⟩
    rw [List.take_of_length_le (by omega)] at iz
    have s9 := s8.trans (same_new hl8 (.lst zs))
    have iz9 := DNs.mono (same_new hl8 (.lst zs)) iz
    obtain ⟨kvs, pk, ct⟩ := ct_of iz9
    refine ⟨l8, zs, kvs, rfl, .inl upd_same, pk, fun ac hac => ?_⟩
    have nk : (kvs.map (·.1)).Nodup := by
      rw [ct_keys ct]
      have : (rows.map fun r => (Sum.inr r.1 : Key)) = (rows.map (·.1)).map Sum.inr := by rw [List.map_map]; rfl
      rw [this, hnm]
      unfold names
      decide
    have em : mergeG [] kvs = kvs := merge_new kvs [] (by simpa using nk)
    rw [em]
    have sA := s9.trans (same_new hac (.dK kvs))
    have hac' : (upd (upd H8 l8 (.lst zs)) ac (.dK kvs)) ac = some (.dK kvs) := upd_same
    have ctA := CtOk.mono (same_new hac (.dK kvs)) ct
    generalize upd (upd H8 l8 (.lst zs)) ac (.dK kvs) = HA at sA hac' ctA ⊢
    have tA : Tups H HA := fun b xs e => sA.tups _ _ (t1 _ _ e)
    have exA : Ex d H HA := ex1.trans (Same.ex sA)
    have ivA := IsDt.mono tA iv
    have hroA := hro.mono tA
    have iv' := ivA
    rw [IsDt] at ivA
    obtain ⟨av, us, rfl, hav, ius⟩ := ivA
    have nus : us.length = ps.length := by rw [ius.length, List.length_map]
    refine iU rfl (.inr rfl) hav fun J hJ => ?_
    refine ⟨fun i m σ H' => Same HA H' ∧ m + i = ps.length ∧ (∃ o4 o5 o6 o7 o8, σ = [some (.ref av), some (.ref d), some (.ref ac), some (.int (totOf rows (ps.take i))), o4, o5, o6, o7, o8]), ⟨ps.length, .refl _, rfl, none, none, none, none, none, rfl⟩, ?_⟩
    rintro i m σ H' ⟨sH, hm, o4, o5, o6, o7, o8, rfl⟩
    by_cases hi : i < ps.length
    · refine .inr ⟨hJ.go i H' (sH _ _ hav) (by omega), fun σ' H'' => Same HA H'' ∧ (m - 1) + (i + 1) = ps.length ∧ (∃ o4 o5 o6 o7 o8, σ' = [some (.ref av), some (.ref d), some (.ref ac), some (.int (totOf rows (ps.take (i + 1)))), o4, o5, o6, o7, o8]), fun σ' H'' hW => ⟨m - 1, by omega, hW⟩, ?_⟩
      intro x H'' hy
      obtain ⟨e0, hx⟩ := hJ.yl i H' x _ (sH _ _ hav) hy
      rw [e0]
      obtain ⟨u, hu', du⟩ := ius.get (i := i) (d := pairD ps[i]) (by rw [List.getElem?_map, List.getElem?_eq_getElem hi]; rfl)
      obtain rfl : u = x := by rw [hu'] at hx; injection hx
      obtain ⟨cc, y1, z1, rfl, hc1, iy1, iz1⟩ := dt_two du
      rw [IsDt] at iz1
      subst iz1
      have hq := pok.2 _ (List.getElem_mem hi)
      have tt := tot_take (rows := rows) (List.getElem?_eq_getElem hi)
      generalize ps[i] = q at hc1 iy1 hq tt
      rw [IsDt] at iy1
      obtain ⟨at', ws, rfl, hat, iws⟩ := iy1
      refine ⟨cc, _, rfl, SqT.of (sH _ _ hc1), rfl, _, _, rfl, _, _, rfl, rfl, ?_⟩
      refine ⟨_, rfl, ?_⟩
      have nws : ws.length = q.1.length := by rw [iws.length, List.length_map]
      refine iU rfl (.inr rfl) (sH _ _ hat) fun J2 hJ2 => ?_
      refine ⟨fun i3 m3 σ H' => Same HA H' ∧ m3 + i3 = q.1.length ∧ (∃ o7 o8, σ = [some (.ref av), some (.ref d), some (.ref ac), some (.int (totOf rows (ps.take i))), some (.ref at'), some (.int q.2), some (.int (prodOf rows q.2 (q.1.take i3))), o7, o8]), ⟨q.1.length, sH, rfl, o7, o8, rfl⟩, ?_⟩
      rintro i3 m3 σ H3 ⟨s3, hm3, o7, o8, rfl⟩
      by_cases hi3 : i3 < q.1.length
      · refine .inr ⟨hJ2.go i3 H3 (s3 _ _ hat) (by omega), fun σ' H'' => Same HA H'' ∧ (m3 - 1) + (i3 + 1) = q.1.length ∧ (∃ o7 o8, σ' = [some (.ref av), some (.ref d), some (.ref ac), some (.int (totOf rows (ps.take i))), some (.ref at'), some (.int q.2), some (.int (prodOf rows q.2 (q.1.take (i3 + 1)))), o7, o8]), fun σ' H'' hW => ⟨m3 - 1, by omega, hW⟩, ?_⟩
        intro x H4 hy
        obtain ⟨e0, hx⟩ := hJ2.yl i3 H3 x _ (s3 _ _ hat) hy
        rw [e0]
        obtain ⟨u, hu', du⟩ := iws.get (i := i3) (d := tokD q.1[i3]) (by rw [List.getElem?_map, List.getElem?_eq_getElem hi3]; rfl)
        obtain rfl : u = x := by rw [hu'] at hx; injection hx
        obtain ⟨ct', y2, z2, rfl, hc2, iy2, iz2⟩ := dt_two du
        rw [IsDt] at iy2
        subst iy2
        have hk := hq.2 _ (List.getElem_mem hi3)
        have pt := prod_take (rows := rows) (f := q.2) (List.getElem?_eq_getElem hi3)
        generalize q.1[i3] = tk at hc2 iz2 hk pt
        refine ⟨ct', _, rfl, SqT.of (s3 _ _ hc2), rfl, _, _, rfl, _, _, rfl, rfl, ?_⟩
        obtain ⟨an, va, dn⟩ := ct_get ctA (s := tk.1) (by rw [hnm]; exact nm_mem hk.1)
        refine ⟨_, rfl, _, rfl, ac, rfl, .inl ⟨_, .inl (s3 _ _ hac')⟩, _, rfl, fun pn hpn => ⟨_, DGet.k (k := Sum.inr tk.1) (same_new hpn _ _ _ (s3 _ _ hac')), ?_⟩⟩
        have s4 := s3.trans (same_new hpn (.dK []))
        have dn4 := isDN_same s4 dn
        have iz4 := IsDt.mono s4.tups iz2
        generalize upd H3 pn (.dK []) = H5 at s4 dn4 iz4 ⊢
        rw [va]
        have ci := cnt_int (qs_ok hroA tk.1) tk.2
        rw [dat_L] at iz4
        refine ⟨an, rfl, ⟨_, dn4⟩, _, rfl, _, datL tk.2, dn4, iz4, dep_L hk.2, ?_⟩
        show ipM (.int (prodOf rows q.2 (q.1.take i3))) (cntV (qsOf rows tk.1) tk.2) H5 _
        rw [ci.1]
        refine ⟨_, _, rfl, rfl, .inr ⟨by omega, by omega⟩, ?_⟩
        rw [← pt]
        exact ⟨s4, by omega, _, _, rfl⟩
      · refine .inl ⟨hJ2.st i3 H3 (s3 _ _ hat) (by omega), ?_⟩
        have e3 : q.1.take i3 = q.1 := List.take_of_length_le (by omega)
        rw [e3]
        refine ⟨_, rfl, _, rfl, _, _, rfl, rfl, s3, by omega, some (.ref at'), some (.int q.2), some (.int (prodOf rows q.2 q.1)), o7, o8, ?_⟩
        rw [tt]
        rfl
    · refine .inl ⟨hJ.st i H' (sH _ _ hav) (by omega), ?_⟩
      rw [List.take_of_length_le (by omega)]
      exact ⟨_, rfl, fin _ (exA.trans (Same.ex sH))⟩
end
end K74
end
section
set_option Elab.async false
set_option linter.all false
set_option maxRecDepth 100000
set_option maxHeartbeats 4000000
namespace K74
open PySem L2 Kn
section
variable {P : Program} {w : World} {K : PySem.W.Frag} {mg : Str → Option Value} {base : Heap} {f f_store f_pairs f_worth : Addr} {fd fd_store fd_pairs fd_worth : FuncData}
def spLaw (K : PySem.W.Frag) : Sp := fun vs H Q _ => ∃ (a : Addr) (ns : List Int), vs = [.ref a] ∧ SqL K H a (ns.map V.int) ∧ ns.length ≤ 63 ∧ ∀ H', Q (.bl true) H'
theorem sc_law : FnScope ["script", "deck", "k", "store", "pairs", "due", "tokens", "factor", "name", "value", "found"] ["script"] (defScope (top 15)) := ⟨rfl, rfl, rfl, by decide +kernel, rfl, by decide +kernel, by decide +kernel⟩
theorem ok_law (T : Tx mg) (D : Df K mg "law" (top 15) f fd ["script"])
    (D__law_store : Df K mg "_law_store" (top 13) f_store fd_store ["deck"]) (G__law_store : FnOk P w K mg base CX0 5 f_store fd_store ["deck"] spStore)
    (D__law_pairs : Df K mg "_law_pairs" (top 14) f_pairs fd_pairs ["deck", "store"]) (G__law_pairs : FnOk P w K mg base CX0 3 f_pairs fd_pairs ["deck", "store"] spPairs)
    (D_worth : Df K mg "worth" (top 9) f_worth fd_worth ["pairs", "store"]) (G_worth : FnOk P w K mg base CX0 1 f_worth fd_worth ["pairs", "store"] spWorth) :
    FnOk P w K mg base CX0 20 f fd ["script"] (spLaw K) := by
  refine D.fn.okH (k := 19) sc_law (fun vs H Q E h => ?_) (fun cdv A outer s H vs Q E hr h => ?_)
  · obtain ⟨a, ns, rfl, _⟩ := h; rfl
  obtain ⟨a, ns, rfl, hS, h63, fin⟩ := h
  have hu := u110 hr
  have hu0 := u0 hr
  have hu1 := hu_of hr
  refine ⟨_, (wss_cons (ws_set (i := 1) sc_law.nd rfl (Or.inl rfl) (we_lst (wa_cons (we_slice sl_U (wv 0) wo_none (wo_some we_int)) (wa_cons we_int wa_nil))))
      (wss_cons (ws_for PassesOwn.never rfl (wi_range1 rfl T.z_range (wa_cons we_int wa_nil)) (wg_name (i := 2) sc_law.nd rfl (Or.inl rfl)) (wss_cons (ws_set (i := 3) sc_law.nd rfl (Or.inl rfl) (we_call G__law_store (hr.mono (by omega)) rfl D__law_store.mg D__law_store.kp D__law_store.b .nil pass0 (wa_cons (wv 1) wa_nil)))
      (wss_cons (ws_set (i := 4) sc_law.nd rfl (Or.inl rfl) (we_call G__law_pairs (hr.mono (by omega)) rfl D__law_pairs.mg D__law_pairs.kp D__law_pairs.b .nil pass0 (wa_cons (wv 1) (wa_cons (wv 3) wa_nil))))
      (wss_cons (ws_set (i := 5) sc_law.nd rfl (Or.inl rfl) we_int)
      (wss_cons (ws_for PassesOwn.never rfl (wi_U (wv 4)) (wg_tup rfl (wgs_cons (wg_name (i := 6) sc_law.nd rfl (Or.inl rfl)) (wgs_cons (wg_name (i := 7) sc_law.nd rfl (Or.inl rfl)) wgs_nil))) (wss_cons (ws_for PassesOwn.never rfl (wi_U (wv 6)) (wg_tup rfl (wgs_cons (wg_name (i := 8) sc_law.nd rfl (Or.inl rfl)) (wgs_cons (wg_name (i := 9) sc_law.nd rfl (Or.inl rfl)) wgs_nil))) (wss_one (ws_set (i := 7) sc_law.nd rfl (Or.inl rfl) (we_op op_mul (wv 7) (we_dget2N hu (we_callTy (call_dictN rfl hu) rfl T.z_dict bt_dict (wa_cons (we_ix (ix_U hu1) (we_ix (ix_U hu1) (wv 3) (wv 8) (fun _ _ => rfl)) we_int (fun _ _ => rfl)) wa_nil)) (wv 9) we_int)))))
      (wss_one (ws_set (i := 5) sc_law.nd rfl (Or.inl rfl) (we_op op_plus (wv 5) (wv 7))))))
      (wss_cons (ws_set (i := 10) sc_law.nd rfl (Or.inl rfl) (we_call G_worth (hr.mono (by omega)) rfl D_worth.mg D_worth.kp D_worth.b .nil pass0 (wa_cons (wv 4) (wa_cons (wv 3) wa_nil))))
      (wss_one (ws_if (wt_pw (ww_or (wt_not (wt_val (we_callB call_isiU rfl T.z_isinstance bt_isinstance (wa_cons (wv 10) (wa_cons (we_bltn rfl T.z_int bt_int (relv_ty _)) wa_nil))))) (ww_or (wt_val (we_callB call_isiU rfl T.z_isinstance bt_isinstance (wa_cons (wv 10) (wa_cons (we_bltn rfl T.z_bool bt_bool (relv_ty _)) wa_nil)))) (ww_or1 (wt_cmpR (op_neU hu) (wv 10) (wv 5) (nomark _)))))) (wss_one (ws_ret we_bl)) wss_nil))))))))
      (wss_one (ws_ret we_bl)))), ?_⟩
  refine ⟨_, rfl, _, rfl, .inl ⟨a, _, rfl, hS, fun c hc => ⟨(by show 2 ≤ sizeLine; decide), fun p hp => ?_⟩⟩⟩
  have cut : ∃ cs : List Int, cutV (ns.map V.int) none (some 63) = cs.map V.int := by
    unfold cutV
    exact ⟨_, by rw [← List.map_drop, ← List.map_take]⟩
  obtain ⟨cs, ecs⟩ := cut
  have hcp : c ≠ p := fun z => by rw [← z, upd_same] at hp; cases hp
  have dk : Dk (upd (upd H c (.lst (cutV (ns.map V.int) none (some 63)))) p (.lst [.ref c, .int 0])) p c 0 := ⟨0, cs, upd_same, by rw [upd_ne hcp, upd_same, ecs], hcp, by decide, by decide⟩
  generalize upd (upd H c (.lst (cutV (ns.map V.int) none (some 63)))) p (.lst [.ref c, .int 0]) = H0 at dk ⊢
  refine ⟨12, rfl, by decide, by decide, ?_⟩
  refine for_range (n := 12) (fun j σ H' => ∃ (o2 o3 o4 o5 o6 o7 o8 o9 o10 : Option V), σ = [some (.ref a), some (.ref p), o2, o3, o4, o5, o6, o7, o8, o9, o10] ∧ Dk H' p c (j * 200)) ⟨none, none, none, none, none, none, none, none, none, rfl, by simpa using dk⟩ ?_ ?_
  · rintro j σ H1 hj ⟨o2, o3, o4, o5, o6, o7, o8, o9, o10, rfl, dk1⟩
    refine ⟨_, rfl, p, c, _, rfl, dk1, by omega, fun d H2 rows hd ex2 dk2 st2 => ?_⟩
    obtain ⟨ndp, ndc⟩ := dk1.ne hd
    refine ⟨_, rfl, _, rfl, p, c, d, _, rows, rfl, dk2, by omega, ndp, st2, fun v H3 ps ex3 dk3 iv pok => ?_⟩
    obtain ⟨hd2, hnm, hro2⟩ := st2
    have hd3 : H3 d = some (.dK (kvR rows)) := ex3 _ _ ndp hd2
    have hro3 := hro2.mono (dk2.tups ex3)
    have iv' := iv
    rw [IsDt] at iv
    obtain ⟨av, us, rfl, hav, ius⟩ := iv
    have nus : us.length = ps.length := by rw [ius.length, List.length_map]
    refine iU rfl (.inr rfl) hav fun J hJ => ?_
    refine ⟨fun i m σ H' => Same H3 H' ∧ m + i = ps.length ∧ (∃ o6 o7 o8 o9 o10, σ = [some (.ref a), some (.ref p), some (.int (0 + j)), some (.ref d), some (.ref av), some (.int (totOf rows (ps.take i))), o6, o7, o8, o9, o10]), ⟨ps.length, .refl _, rfl, o6, o7, o8, o9, o10, rfl⟩, ?_⟩
    rintro i m σ H' ⟨sH, hm, o6, o7, o8, o9, o10, rfl⟩
    by_cases hi : i < ps.length
    · refine .inr ⟨hJ.go i H' (sH _ _ hav) (by omega), fun σ' H'' => Same H3 H'' ∧ (m - 1) + (i + 1) = ps.length ∧ (∃ o6 o7 o8 o9 o10, σ' = [some (.ref a), some (.ref p), some (.int (0 + j)), some (.ref d), some (.ref av), some (.int (totOf rows (ps.take (i + 1)))), o6, o7, o8, o9, o10]), fun σ' H'' hW => ⟨m - 1, by omega, hW⟩, ?_⟩
      intro x H'' hy
      obtain ⟨e0, hx⟩ := hJ.yl i H' x _ (sH _ _ hav) hy
      rw [e0]
      obtain ⟨u, hu', du⟩ := ius.get (i := i) (d := pairD ps[i]) (by rw [List.getElem?_map, List.getElem?_eq_getElem hi]; rfl)
      obtain rfl : u = x := by rw [hu'] at hx; injection hx
      obtain ⟨cc, y1, z1, rfl, hc1, iy1, iz1⟩ := dt_two du
      rw [IsDt] at iz1
      subst iz1
      have hq := pok.2 _ (List.getElem_mem hi)
      have tt := tot_take (rows := rows) (List.getElem?_eq_getElem hi)
      generalize ps[i] = q at hc1 iy1 hq tt
      rw [IsDt] at iy1
      obtain ⟨at', ws, rfl, hat, iws⟩ := iy1
      refine ⟨cc, _, rfl, SqT.of (sH _ _ hc1), rfl, _, _, rfl, _, _, rfl, rfl, ?_⟩
      have nws : ws.length = q.1.length := by rw [iws.length, List.length_map]
      refine iU rfl (.inr rfl) (sH _ _ hat) fun J2 hJ2 => ?_
      refine ⟨fun i3 m3 σ H' => Same H3 H' ∧ m3 + i3 = q.1.length ∧ (∃ o8 o9, σ = [some (.ref a), some (.ref p), some (.int (0 + j)), some (.ref d), some (.ref av), some (.int (totOf rows (ps.take i))), some (.ref at'), some (.int (prodOf rows q.2 (q.1.take i3))), o8, o9, o10]), ⟨q.1.length, sH, rfl, o8, o9, rfl⟩, ?_⟩
      rintro i3 m3 σ H4 ⟨s4, hm3, o8, o9, rfl⟩
      by_cases hi3 : i3 < q.1.length
      · refine .inr ⟨hJ2.go i3 H4 (s4 _ _ hat) (by omega), fun σ' H'' => Same H3 H'' ∧ (m3 - 1) + (i3 + 1) = q.1.length ∧ (∃ o8 o9, σ' = [some (.ref a), some (.ref p), some (.int (0 + j)), some (.ref d), some (.ref av), some (.int (totOf rows (ps.take i))), some (.ref at'), some (.int (prodOf rows q.2 (q.1.take (i3 + 1)))), o8, o9, o10]), fun σ' H'' hW => ⟨m3 - 1, by omega, hW⟩, ?_⟩
        intro x H5 hy
        obtain ⟨e0, hx⟩ := hJ2.yl i3 H4 x _ (s4 _ _ hat) hy
        rw [e0]
        obtain ⟨u, hu', du⟩ := iws.get (i := i3) (d := tokD q.1[i3]) (by rw [List.getElem?_map, List.getElem?_eq_getElem hi3]; rfl)
        obtain rfl : u = x := by rw [hu'] at hx; injection hx
        obtain ⟨ct', y2, z2, rfl, hc2, iy2, iz2⟩ := dt_two du
        rw [IsDt] at iy2
        subst iy2
        have hk := hq.2 _ (List.getElem_mem hi3)
        have pt := prod_take (rows := rows) (f := q.2) (List.getElem?_eq_getElem hi3)
        generalize q.1[i3] = tk at hc2 iz2 hk pt
        refine ⟨ct', _, rfl, SqT.of (s4 _ _ hc2), rfl, _, _, rfl, _, _, rfl, rfl, ?_⟩
        obtain ⟨rw', rm, re, rf, rv⟩ := kvR_some (rows := rows) (s := tk.1) (by rw [hnm]; exact nm_mem hk.1)
        have eqs : qsOf rows tk.1 = rw'.2.2 := by unfold qsOf; rw [rf]
        obtain ⟨ivr, okr⟩ := hro3.mono s4.tups rw' rm
        obtain ⟨a1, b1, us1, e1, ha1, hb1, ius1⟩ := bag_at ivr
        refine ⟨_, rfl, _, rfl, _, rfl, .inr (.inr (.inr ⟨d, _, rfl, (by rw [← rv]; exact DGet.k (k := Sum.inr tk.1) (s4 _ _ hd3)), .inr (.inl ⟨a1, _, 1, _, e1, rfl, SqT.of ha1, rfl, b1, us1, dvs rw'.2.2, rfl, .inr hb1, pairsN_of ius1 (fun q hq => (okr.2 q hq).1), fun an φ han isn => ?_⟩)⟩))⟩
        have s5 := s4.trans (same_new han (.ext φ))
        have iz5 := IsDt.mono s5.tups iz2
        generalize upd H4 an (.ext φ) = H6 at s5 isn iz5 ⊢
        have ci := cnt_int (qs_ok hro3 tk.1) tk.2
        rw [dat_L] at iz5
        refine ⟨an, rfl, ⟨_, isn⟩, _, rfl, _, datL tk.2, isn, iz5, dep_L hk.2, ?_⟩
        rw [eqs] at ci pt
        have ci1 : (valV (mergeG [] (dvs rw'.2.2)) (datL tk.2)).getD (.int 0) = .int (cntOf rw'.2.2 tk.2) := ci.1
        refine ⟨_, _, rfl, ci1, .inr ⟨by omega, by omega⟩, s5, by omega, some (.str tk.1), some z2, ?_⟩
        rw [pt]
        rfl
      · refine .inl ⟨hJ2.st i3 H4 (s4 _ _ hat) (by omega), ?_⟩
        have e3 : q.1.take i3 = q.1 := List.take_of_length_le (by omega)
        rw [e3]
        refine ⟨_, rfl, _, rfl, .inl ⟨_, _, rfl, rfl, s4, by omega, some (.ref at'), some (.int (prodOf rows q.2 q.1)), o8, o9, o10, ?_⟩⟩
        rw [tt]
        rfl
    · refine .inl ⟨hJ.st i H' (sH _ _ hav) (by omega), ?_⟩
      have e3 : ps.take i = ps := List.take_of_length_le (by omega)
      rw [e3]
      refine ⟨_, rfl, _, rfl, _, d, rows, ps, rfl, IsDt.mono sH.tups iv', pok, ⟨sH _ _ hd3, hnm, hro3.mono sH.tups⟩, fun H5 ex5 => ?_⟩
      have dk5 : Dk H5 p c ((j : Int) * 200 + 200) := by
        obtain ⟨k, cs', e, r, ne, b0, b1⟩ := dk3.keep sH
        exact ⟨k, cs', ex5 _ _ (Ne.symm ndp) e, ex5 _ _ (Ne.symm ndc) r, ne, b0, by omega⟩
      refine ⟨_, rfl, .inr ⟨_, _, true, rfl, .inl ⟨rfl, ⟨_, rfl⟩, rfl⟩, true, rfl, ?_⟩⟩
      refine iteF ?_
      refine ⟨_, rfl, .inr ⟨_, _, false, rfl, .inr (.inl ⟨rfl, ⟨_, rfl⟩, rfl⟩), false, rfl, ?_⟩⟩
      refine iteF ?_
      refine ⟨_, rfl, _, rfl, .inl ⟨rfl, _, rfl, ?_⟩⟩
      rw [show (!decide (V.int (totOf rows ps) = V.int (totOf rows ps))) = false from by rw [decide_eq_true rfl]; rfl]
      refine iteF ?_
      exact ⟨_, _, _, _, _, _, _, _, _, rfl, dk5.mono (by omega)⟩
  · rintro σ H1 ⟨o2, o3, o4, o5, o6, o7, o8, o9, o10, rfl, dk1⟩
    exact fin _
end
end K74
end
section
set_option Elab.async false
set_option linter.all false
set_option maxRecDepth 100000
set_option maxHeartbeats 4000000
namespace K74
open PySem L2 Kn
/-- a def that stands at the program's top -/
def DefAt (K : PySem.W.Frag) (x : Str) (st : Stmt) : Prop := ∃ (f : Addr) (fd : FuncData), PySem.W.nsIn K mainGlobals x = some (some (.ref f)) ∧ Fun K x x st f fd
theorem defAt_mk {K : PySem.W.Frag} {x : Str} {st : Stmt} {f : Addr} {oc : Value} {od an : Option Addr} {osl : Array (Option Value)} {kV doc pm cdv ct : Value} (a : PySem.W.nsIn K mainGlobals x = some (some (.ref f)))
    (l : K.lookup f = some ⟨oc, od, .func (PySem.W.fnOf x x (defArgs st) (defBody st) (defScope st) .none kV doc pm an cdv ct), osl⟩) (c : PySem.W.codeIn K cdv x = true) (k : PySem.W.keepIn K (.ref f) = true) : DefAt K x st := ⟨f, _, a, fun_mk l c k⟩
/-- the table of ranks at the program's top -/
def RanksAt (K : PySem.W.Frag) (w : World) : Prop := ∃ (aR : Addr) (es : Array DictEntry) (n : Nat) (t0 t1 t2 t3 : Tok), PySem.W.nsIn K mainGlobals "RANKS" = some (some (.ref aR)) ∧ K.lookup aR = some ⟨.type "dict", none, .dict es n, #[]⟩ ∧ PySem.W.KeysLit w.params es.toList ∧
  PySem.W.nsIn K aR "num" = some (some (.int 0 t0)) ∧ PySem.W.nsIn K aR "word" = some (some (.int 1 t1)) ∧ PySem.W.nsIn K aR "row" = some (some (.int 2 t2)) ∧ PySem.W.nsIn K aR "bag" = some (some (.int 3 t3))
theorem ranks_mk {K : PySem.W.Frag} {w : World} {aR : Addr} {es : Array DictEntry} {n : Nat} {t0 t1 t2 t3 : Tok} (a : PySem.W.nsIn K mainGlobals "RANKS" = some (some (.ref aR))) (l : K.lookup aR = some ⟨.type "dict", none, .dict es n, #[]⟩) (k : PySem.W.KeysLit w.params es.toList)
    (r0 : PySem.W.nsIn K aR "num" = some (some (.int 0 t0))) (r1 : PySem.W.nsIn K aR "word" = some (some (.int 1 t1))) (r2 : PySem.W.nsIn K aR "row" = some (some (.int 2 t2))) (r3 : PySem.W.nsIn K aR "bag" = some (some (.int 3 t3))) : RanksAt K w :=
  ⟨aR, es, n, t0, t1, t2, t3, a, l, k, r0, r1, r2, r3⟩
theorem ix_ranks {K : PySem.W.Frag} {w : World} {aR : Addr} {es : Array DictEntry} {n : Nat} {t0 t1 t2 t3 : Tok} (l : K.lookup aR = some ⟨.type "dict", none, .dict es n, #[]⟩) (k : PySem.W.KeysLit w.params es.toList)
    (r0 : PySem.W.nsIn K aR "num" = some (some (.int 0 t0))) (r1 : PySem.W.nsIn K aR "word" = some (some (.int 1 t1))) (r2 : PySem.W.nsIn K aR "row" = some (some (.int 2 t2))) (r3 : PySem.W.nsIn K aR "bag" = some (some (.int 3 t3))) :
    ∀ X : Cx, X.K = K → X.w = w → X.A.units + 1 < cLine → IxR X (rRank aR) := by
  intro X eK eW hu value slice pins s σ H x y v u Q I rx ry h hs
  subst eK
  subst eW
  obtain ⟨z, i, rfl, rfl, hr, q⟩ := h
  cases rx
  obtain ⟨t, rfl⟩ := ry
  have e : ∃ t', PySem.W.nsIn X.K aR z = some (some (.int i t')) := by
    unfold rankS at hr
    split at hr
    · rename_i e; subst e; cases hr; exact ⟨_, r0⟩
    split at hr
    · rename_i e; subst e; cases hr; exact ⟨_, r1⟩
    split at hr
    · rename_i e; subst e; cases hr; exact ⟨_, r2⟩
    split at hr
    · rename_i e; subst e; cases hr; exact ⟨_, r3⟩
    · cases hr
  obtain ⟨t', e⟩ := e
  obtain ⟨m, F⟩ := I.fr
  exact PySem.W.topItem_K F I.mod.kin l k e ⟨.int i, H, I.tok _, ⟨_, rfl⟩, q⟩ hs
theorem all_mk {l : PySem.W.OpenLaw} {w : World} {K : PySem.W.Frag} {h : Heap} {mg : Str → Option Value} {fa : Addr} {tG tE : Tok} (X : K.In h) (G : h.Ns mainGlobals mg) (hfa : mg "law" = some (.ref fa))
    (h_unfolded : DefAt K "unfolded" (top 4)) (h_order_parts : DefAt K "order_parts" (top 5)) (h_order_key : DefAt K "order_key" (top 6)) (h_bag_of : DefAt K "bag_of" (top 7)) (h_worth : DefAt K "worth" (top 9)) (h__law_next : DefAt K "_law_next" (top 11)) (h__law_value : DefAt K "_law_value" (top 12)) (h__law_store : DefAt K "_law_store" (top 13)) (h__law_pairs : DefAt K "_law_pairs" (top 14)) (h_law : DefAt K "law" (top 15))
    (rk : RanksAt K w) (go : PySem.W.nsIn K mainGlobals "GOES_ON" = some (some (.int 1 tG))) (en : PySem.W.nsIn K mainGlobals "ENDS" = some (some (.int 0 tE)))
    (z1 : PySem.W.nsIn K mainGlobals "len" = some none) (z2 : PySem.W.nsIn K mainGlobals "int" = some none) (z3 : PySem.W.nsIn K mainGlobals "tuple" = some none) (z4 : PySem.W.nsIn K mainGlobals "range" = some none) (z5 : PySem.W.nsIn K mainGlobals "isinstance" = some none) (z6 : PySem.W.nsIn K mainGlobals "sorted" = some none) (z7 : PySem.W.nsIn K mainGlobals "bool" = some none) (z8 : PySem.W.nsIn K mainGlobals "dict" = some none) :
    ∃ fd : FuncData, (∀ (s : Shared) (v : Value), BindsTo s fd ⟨[v], []⟩ [("script", v)]) ∧ ∀ base : Heap, K.In base → base.Ns mainGlobals mg → FnOk l.prog w K mg base CX0 20 fa fd ["script"] (spLaw K) := by
  have T : Tx mg := ⟨PySem.W.mg_none_of X G z1, PySem.W.mg_none_of X G z2, PySem.W.mg_none_of X G z3, PySem.W.mg_none_of X G z4, PySem.W.mg_none_of X G z5, PySem.W.mg_none_of X G z6, PySem.W.mg_none_of X G z7, PySem.W.mg_none_of X G z8⟩
  obtain ⟨f_unfolded, fd_unfolded, a_unfolded, F_unfolded⟩ := h_unfolded
  have D_unfolded : Df K mg "unfolded" (top 4) f_unfolded fd_unfolded ["whole", "parts_of"] := ⟨F_unfolded, F_unfolded.binds (ps := ["whole", "parts_of"]) fun _ _ _ _ _ _ us hl => match us, hl with | [_, _], _ => rfl, PySem.W.mg_of X G a_unfolded⟩
  obtain ⟨f_order_parts, fd_order_parts, a_order_parts, F_order_parts⟩ := h_order_parts
  have D_order_parts : Df K mg "order_parts" (top 5) f_order_parts fd_order_parts ["value"] := ⟨F_order_parts, F_order_parts.binds (ps := ["value"]) fun _ _ _ _ _ _ us hl => match us, hl with | [_], _ => rfl, PySem.W.mg_of X G a_order_parts⟩
  obtain ⟨f_order_key, fd_order_key, a_order_key, F_order_key⟩ := h_order_key
  have D_order_key : Df K mg "order_key" (top 6) f_order_key fd_order_key ["value"] := ⟨F_order_key, F_order_key.binds (ps := ["value"]) fun _ _ _ _ _ _ us hl => match us, hl with | [_], _ => rfl, PySem.W.mg_of X G a_order_key⟩
  obtain ⟨f_bag_of, fd_bag_of, a_bag_of, F_bag_of⟩ := h_bag_of
  have D_bag_of : Df K mg "bag_of" (top 7) f_bag_of fd_bag_of ["pairs"] := ⟨F_bag_of, F_bag_of.binds (ps := ["pairs"]) fun _ _ _ _ _ _ us hl => match us, hl with | [_], _ => rfl, PySem.W.mg_of X G a_bag_of⟩
  obtain ⟨f_worth, fd_worth, a_worth, F_worth⟩ := h_worth
  have D_worth : Df K mg "worth" (top 9) f_worth fd_worth ["pairs", "store"] := ⟨F_worth, F_worth.binds (ps := ["pairs", "store"]) fun _ _ _ _ _ _ us hl => match us, hl with | [_, _], _ => rfl, PySem.W.mg_of X G a_worth⟩
  obtain ⟨f__law_next, fd__law_next, a__law_next, F__law_next⟩ := h__law_next
  have D__law_next : Df K mg "_law_next" (top 11) f__law_next fd__law_next ["deck"] := ⟨F__law_next, F__law_next.binds (ps := ["deck"]) fun _ _ _ _ _ _ us hl => match us, hl with | [_], _ => rfl, PySem.W.mg_of X G a__law_next⟩
  obtain ⟨f__law_value, fd__law_value, a__law_value, F__law_value⟩ := h__law_value
  have D__law_value : Df K mg "_law_value" (top 12) f__law_value fd__law_value ["deck", "name"] := ⟨F__law_value, F__law_value.binds (ps := ["deck", "name"]) fun _ _ _ _ _ _ us hl => match us, hl with | [_, _], _ => rfl, PySem.W.mg_of X G a__law_value⟩
  obtain ⟨f__law_store, fd__law_store, a__law_store, F__law_store⟩ := h__law_store
  have D__law_store : Df K mg "_law_store" (top 13) f__law_store fd__law_store ["deck"] := ⟨F__law_store, F__law_store.binds (ps := ["deck"]) fun _ _ _ _ _ _ us hl => match us, hl with | [_], _ => rfl, PySem.W.mg_of X G a__law_store⟩
  obtain ⟨f__law_pairs, fd__law_pairs, a__law_pairs, F__law_pairs⟩ := h__law_pairs
  have D__law_pairs : Df K mg "_law_pairs" (top 14) f__law_pairs fd__law_pairs ["deck", "store"] := ⟨F__law_pairs, F__law_pairs.binds (ps := ["deck", "store"]) fun _ _ _ _ _ _ us hl => match us, hl with | [_, _], _ => rfl, PySem.W.mg_of X G a__law_pairs⟩
  obtain ⟨aR, es, n, t0, t1, t2, t3, aRk, lRk, kRk, r0, r1, r2, r3⟩ := rk
  obtain ⟨f_law, fd_law, a_law, F_law⟩ := h_law
  have e := hfa.symm.trans (PySem.W.mg_of X G a_law)
  cases e
  have D_law : Df K mg "law" (top 15) fa fd_law ["script"] := ⟨F_law, F_law.binds (ps := ["script"]) fun _ _ _ _ _ _ us hl => match us, hl with | [_], _ => rfl, hfa⟩
  refine ⟨fd_law, ?_, fun base _ _ => ?_⟩
  · obtain ⟨oc, od, kV, doc, pm, an, cdv, ct, osl, rfl, lk, hcd⟩ := F_law.ex
    exact fun s v => .of_eq rfl
  have g_next := ok_next (P := l.prog) (w := w) (base := base) T D__law_next
  have g_value := ok_value T D__law_value D__law_next g_next
  have g_parts := ok_parts (P := l.prog) (w := w) (base := base) T D_order_parts (PySem.W.mg_of X G aRk) (PySem.W.mg_of X G go) (PySem.W.mg_of X G en) (ix_ranks lRk kRk r0 r1 r2 r3)
  have g_unf := ok_unf T D_unfolded D_order_parts g_parts
  have g_key := ok_key T D_order_key D_order_parts D_unfolded g_unf
  have g_of := ok_bagOf T D_bag_of D_order_key g_key
  have g_store := ok_store T D__law_store D__law_next g_next D__law_value g_value D_bag_of g_of
  have g_pairs := ok_pairs T D__law_pairs D__law_next g_next D__law_value g_value
  have g_worth := ok_worth (P := l.prog) (w := w) (base := base) T D_worth
  exact ok_law T D_law D__law_store g_store D__law_pairs g_pairs D_worth g_worth
theorem walk {l : PySem.W.OpenLaw} {q : Program} {loose : List Str} {XP : (Str → Option Value) → Heap → Prop} {YP : World → Heap → Prop} {d : DefRec} {K : Params → PySem.W.Frag} (hn : l.most = some 63) (hdf : d.params.defaults = [])
    (hY : ∀ (w : World) (h : Heap), YP w h → (K w.params).In h)
    (F : ∀ (w : World) (mg : Str → Option Value) (fa : Addr) (h : Heap), (K w.params).In h → h.Ns mainGlobals mg → mg d.name = some (.ref fa) →
      ∃ fd : FuncData, (∀ (s : Shared) (u : Value), BindsTo s fd ⟨[u], []⟩ [("script", u)]) ∧ ∀ base : Heap, (K w.params).In base → base.Ns mainGlobals mg → FnOk l.prog w (K w.params) mg base CX0 20 fa fd ["script"] (spLaw (K w.params))) :
    PySem.W.WalkO q loose XP YP l.row.toRowW d [] (fun f vs => PySem.call f vs) :=
  L2.walk_of (n := 63) (k := 20) (x := "script") (CX := fun _ => CX0) (sp := fun w => spLaw (K w.params)) hn (by decide) hdf ⟨rfl, by decide, by decide⟩ hY F (fun _ _ a ns hl _ hS => ⟨a, ns, rfl, hS, hl, fun _ => rfl⟩) fun _ _ _ _ _ z => z
end K74
open PySem PySem.W PyProof.Rows
set_option maxRecDepth 100000 in
set_option maxHeartbeats 0 in
theorem PySem.Challenge.cw_keptnest_k74_worth_holds : PySem.Challenge.rw_keptnest_k74_worth.Holds := by
  w_on; o_law; k_head; (case hw => w_witness2)
  k_fill
  refine K74.walk (l := PySem.Challenge.rw_keptnest_k74_worth) rfl rfl (fun w h Y => PySem.W.kIn_of Y) ?F
  case F =>
    intro w mg fa h KX G hmg
    refine' K74.all_mk KX G hmg ?h_unfolded ?h_order_parts ?h_order_key ?h_bag_of ?h_worth ?h__law_next ?h__law_value ?h__law_store ?h__law_pairs ?h_law ?rk ?go ?en ?z1 ?z2 ?z3 ?z4 ?z5 ?z6 ?z7 ?z8
    case h_unfolded => refine' K74.defAt_mk ?a ?l ?c ?k; (case a => k_is); (case l => k_is); (case c => k_is); (case k => k_is)
    case h_order_parts => refine' K74.defAt_mk ?a ?l ?c ?k; (case a => k_is); (case l => k_is); (case c => k_is); (case k => k_is)
    case h_order_key => refine' K74.defAt_mk ?a ?l ?c ?k; (case a => k_is); (case l => k_is); (case c => k_is); (case k => k_is)
    case h_bag_of => refine' K74.defAt_mk ?a ?l ?c ?k; (case a => k_is); (case l => k_is); (case c => k_is); (case k => k_is)
    case h_worth => refine' K74.defAt_mk ?a ?l ?c ?k; (case a => k_is); (case l => k_is); (case c => k_is); (case k => k_is)
    case h__law_next => refine' K74.defAt_mk ?a ?l ?c ?k; (case a => k_is); (case l => k_is); (case c => k_is); (case k => k_is)
    case h__law_value => refine' K74.defAt_mk ?a ?l ?c ?k; (case a => k_is); (case l => k_is); (case c => k_is); (case k => k_is)
    case h__law_store => refine' K74.defAt_mk ?a ?l ?c ?k; (case a => k_is); (case l => k_is); (case c => k_is); (case k => k_is)
    case h__law_pairs => refine' K74.defAt_mk ?a ?l ?c ?k; (case a => k_is); (case l => k_is); (case c => k_is); (case k => k_is)
    case h_law => refine' K74.defAt_mk ?a ?l ?c ?k; (case a => k_is); (case l => k_is); (case c => k_is); (case k => k_is)
    case rk => refine' K74.ranks_mk ?a ?l ?k ?r0 ?r1 ?r2 ?r3; (case a => k_is); (case l => k_is); (case k => k_keys); (case r0 => k_is); (case r1 => k_is); (case r2 => k_is); (case r3 => k_is)
    (case go => k_is); (case en => k_is); (case z1 => k_is); (case z2 => k_is); (case z3 => k_is); (case z4 => k_is); (case z5 => k_is); (case z6 => k_is); (case z7 => k_is); (case z8 => k_is)
#print axioms PySem.Challenge.cw_keptnest_k74_worth_holds
end
