import PyProof.Rows.All
import Wide.All
import OpenK.AllK
import Wide.FinOn
import Lean
import PyProof.EqAt
import PyProof.EqKinds
import PyProof.TupleCall
import PyProof.DictWalks
import PyProof.DictKeyH
import PySem.Str
import PyProof.NeKinds
import KE.KRevSl
import KE.KDictSum
import PyProof.Rows.SortStr
import PyProof.IsiPairs
import PyProof.IsiHeapPairs
import PyProof.ZipIter
import KE.KSortAsk
import KE.KSortTup
import PyProof.EnumFor
import PyProof.EnumMake
import PyProof.StrWalks
import PyProof.Rows.EnumRows
import PyProof.Rows.FStr
import PyProof.Rows.SetFrom
import PyProof.CallStr
import PyProof.FitsBits
import KE.KUnpack
import KE.KTupSum
import KE.KDictOf
import PySem.Challenge.RW_keptnest_k46_at_path
section
-- CHANGE: your row's module here, as the last of these rows
set_option Elab.async false
set_option linter.all false
set_option maxRecDepth 100000
/-! THE HAND LAYER, for ints, bools, texts, own classes, LISTS and tuples (index, slices, in, append, pop ..), calls, loops. Paste it whole ahead of your own text; what your proof does not reach may be deleted. -/
namespace L2
open PySem PySem.Spec PyProof.Rows

/-- a key: an int or a str -/
abbrev Key := Sum Int Str
def keyIs : Key → Value → Bool
  | .inl k, v => Value.isInt k v
  | .inr x, v => Value.isStrOf x v
def keyH (w : World) : Key → Int
  | .inl k => hashInt k
  | .inr x => hashStr w x
theorem keyIs_shape : ∀ {k : Key} {v : Value}, keyIs k v = true → (∃ i t, k = Sum.inl i ∧ v = Value.int i t) ∨ (∃ x t, k = Sum.inr x ∧ v = Value.str x t)
  | .inl i, v, h => by
    obtain ⟨t, e⟩ := Value.isInt_shape (k := i) (v := v) h
    exact .inl ⟨i, t, rfl, e⟩
  | .inr x, v, h => by
    obtain ⟨t, e⟩ := Value.isStrOf_shape (x := x) (v := v) h
    exact .inr ⟨x, t, rfl, e⟩
theorem keyIs_int (i : Int) (t : Tok) : keyIs (.inl i) (.int i t) = true := by simp [keyIs, Value.isInt]
theorem keyIs_str (x : Str) (t : Tok) : keyIs (.inr x) (.str x t) = true := by simp [keyIs, Value.isStrOf]
theorem key_ll (a b : Int) : decide ((Sum.inl a : Key) = Sum.inl b) = (a == b) := by
  by_cases e : a = b
  · subst e; simp
  · have h : ¬ (Sum.inl a : Key) = Sum.inl b := fun q => e (Sum.inl.inj q)
    rw [decide_eq_false h]
    exact (beq_eq_false_iff_ne.mpr e).symm
theorem key_rr (a b : Str) : decide ((Sum.inr a : Key) = Sum.inr b) = decide (a = b) := by
  by_cases e : a = b
  · subst e; simp
  · have h : ¬ (Sum.inr a : Key) = Sum.inr b := fun q => e (Sum.inr.inj q)
    rw [decide_eq_false h, decide_eq_false e]
theorem key_lr (a : Int) (b : Str) : decide ((Sum.inl a : Key) = Sum.inr b) = false := decide_eq_false (fun q => nomatch q)
theorem key_rl (a : Str) (b : Int) : decide ((Sum.inr a : Key) = Sum.inl b) = false := decide_eq_false (fun q => nomatch q)

def mixKind (prog : Program) (w : World) : PySem.KeyKind prog w Key where
  is := keyIs
  hash := keyH w
  inj := fun v a b ha hb => by
    rcases keyIs_shape ha with ⟨i, t, rfl, rfl⟩ | ⟨x, t, rfl, rfl⟩
    · rcases keyIs_shape hb with ⟨j, u, rfl, e⟩ | ⟨y, u, rfl, e⟩
      · injection e with e1 _; rw [e1]
      · exact nomatch e
    · rcases keyIs_shape hb with ⟨j, u, rfl, e⟩ | ⟨y, u, rfl, e⟩
      · exact nomatch e
      · injection e with e1 _; rw [e1]
  byValue := fun k v h => by
    rcases keyIs_shape h with ⟨i, t, rfl, rfl⟩ | ⟨x, t, rfl, rfl⟩ <;> rfl
  pyHash := fun hv h => by
    rcases keyIs_shape hv with ⟨i, t, rfl, rfl⟩ | ⟨x, t, rfl, rfl⟩
    · exact wpAny_pyHash_int h
    · exact wpAny_pyHash_str h
  eqBool := fun hu hv h => by
    rcases keyIs_shape hu with ⟨i, t, rfl, rfl⟩ | ⟨x, t, rfl, rfl⟩
    · rcases keyIs_shape hv with ⟨j, u, rfl, rfl⟩ | ⟨y, u, rfl, rfl⟩
      · rw [key_ll] at h; exact wpAny_eqBool_int h
      · rw [key_lr] at h; exact SeqAt.EqAt.int_str i t y u _ _ _ _ h
    · rcases keyIs_shape hv with ⟨j, u, rfl, rfl⟩ | ⟨y, u, rfl, rfl⟩
      · rw [key_rl] at h; exact SeqAt.EqAt.str_int x t j u _ _ _ _ h
      · rw [key_rr] at h; exact wpAny_eqBool_str h
  «strs» := fun k x t v h => by
    rcases keyIs_shape h with ⟨i, u, rfl, e⟩ | ⟨y, u, rfl, e⟩
    · exact nomatch e
    · injection e with e1 _
      subst e1
      cases v <;> rfl

theorem mixKind_int (prog : Program) (w : World) (i : Int) (t : Tok) : (mixKind prog w).is (.inl i) (.int i t) = true := keyIs_int i t
theorem mixKind_str (prog : Program) (w : World) (x : Str) (t : Tok) : (mixKind prog w).is (.inr x) (.str x t) = true := keyIs_str x t
end L2

namespace L2
open PySem PySem.Spec PyProof.Rows

/-- a value, without the heap -/
inductive V where
  | non | bl (b : Bool) | int (i : Int) | str (x : Str) | byt (b : Array UInt8) | flt (b : UInt64) | ref (a : Addr) | ty (n : String)
  deriving DecidableEq

def RelV : V → Value → Prop
  | .non, u => u = Value.none
  | .bl b, u => u = Value.bool b
  | .int i, u => ∃ t, u = Value.int i t
  | .str x, u => ∃ t, u = Value.str x t
  | .byt b, u => ∃ t, u = Value.bytes b t
  | .flt b, u => ∃ t, u = Value.float b t
  | .ref a, u => u = Value.ref a
  | .ty n, u => u = Value.type n

abbrev Vals : List V → List Value → Prop := Paired RelV
theorem Vals.length {xs : List V} {us : List Value} (r : Vals xs us) : xs.length = us.length := Paired.length r
theorem Vals.get : ∀ {xs : List V} {us : List Value} {i : Nat} {x : V}, Vals xs us → xs[i]? = some x → ∃ u, us[i]? = some u ∧ RelV x u
  | _, _, _, _, .nil, e => by simp at e
  | _, _, 0, _, .cons r _, e => by simp at e; subst e; exact ⟨_, rfl, r⟩
  | _, _, i + 1, x, .cons _ t, e => by
    obtain ⟨u, h1, h2⟩ := Vals.get (i := i) (x := x) t (by simpa using e)
    exact ⟨u, by simpa using h1, h2⟩
theorem Vals.set {x : V} {u : Value} (r : RelV x u) : ∀ {xs : List V} {us : List Value} (i : Nat), Vals xs us → Vals (xs.set i x) (us.set i u)
  | _, _, _, .nil => .nil
  | _, _, 0, .cons _ t => .cons r t
  | _, _, i + 1, .cons q t => .cons q (Vals.set r i t)
theorem Vals.append : ∀ {xs ys : List V} {us ws : List Value}, Vals xs us → Vals ys ws → Vals (xs ++ ys) (us ++ ws)
  | _, _, _, _, .nil, s => s
  | _, _, _, _, .cons r t, s => .cons r (Vals.append t s)
theorem Vals.take : ∀ {xs : List V} {us : List Value} (n : Nat), Vals xs us → Vals (xs.take n) (us.take n)
  | _, _, 0, _ => .nil
  | _, _, _ + 1, .nil => .nil
  | _, _, n + 1, .cons r t => .cons r (Vals.take n t)
theorem Vals.drop : ∀ {xs : List V} {us : List Value} (n : Nat), Vals xs us → Vals (xs.drop n) (us.drop n)
  | _, _, 0, r => r
  | _, _, _ + 1, .nil => .nil
  | _, _, n + 1, .cons _ t => Vals.drop n t
theorem Vals.none_of : ∀ {xs : List V} {us : List Value} {i : Nat}, Vals xs us → xs[i]? = none → us[i]? = none := fun {xs us i} r e => by
  have h1 := r.length
  have h2 : xs.length ≤ i := List.getElem?_eq_none_iff.mp e
  exact List.getElem?_eq_none_iff.mpr (by omega)

def RelO : Option V → Option Value → Prop
  | some v, some u => RelV v u
  | none, none => True
  | _, _ => False
def KV {κ : Type} : List (κ × V) → List (κ × Value) → Prop := Paired fun (p : κ × V) (q : κ × Value) => p.1 = q.1 ∧ RelV p.2 q.2

/-- a key of a dict (00_mix): an int or a text -/
def kV : Key → V
  | .inl i => .int i
  | .inr x => .str x

/-- what stands at a tracked address -/
inductive HO where
  /-- a list -/
  | lst (xs : List V)
  /-- a tuple (never changes) -/
  | tup (xs : List V)
  /-- a dict whose keys are ints and texts; one whose keys are tuples of ints and texts (the empty one is both) -/
  | dK (kvs : List (Key × V)) | dT (kvs : List (List Key × V))
  /-- a set of ints: its members, its size -/
  | set (S : Int → Bool) (n : Nat)
  /-- an instance of the class at C, its dict at dx, its attributes -/
  | ins (C dx : Addr) (fs : List (Str × V))
  /-- the dict of the instance at x -/
  | own (x : Addr)
  /-- the dict of an exception -/
  | xd (fs : List (Str × V))
  /-- a bound method, f of x -/
  | met (f x : Addr)
  /-- a range object lo, lo + 1, .. below hi -/
  | rng (lo hi : Int)
  /-- a thing that is known to the object (the script; a dict while a loop walks it): read, never written while it is so -/
  | frz (o : Obj) (u : HO)
  /-- a code object's table -/
  | tbl (ps : Array Value)
  /-- any other thing, by what is true of its one object (a def of one's own: SetO a S n := HO.ext fun h => ..) -/
  | ext (φ : Heap → Prop)

abbrev Hp := Addr → Option HO
def upd (H : Hp) (a : Addr) (o : HO) : Hp := fun b => if b = a then some o else H b
theorem upd_same {H : Hp} {a : Addr} {o : HO} : upd H a o a = some o := by unfold upd; rw [if_pos rfl]
theorem upd_ne {H : Hp} {a b : Addr} {o : HO} (h : b ≠ a) : upd H a o b = H b := by unfold upd; rw [if_neg h]
/-- two objects of different content stand apart -/
theorem ne_of {H : Hp} {a b : Addr} {o u : HO} (h : H a = some o) (h' : H b = some u) (d : o ≠ u) : a ≠ b := by
  intro e; subst e; rw [h] at h'; exact d (Option.some.inj h')
theorem ne_of_none {H : Hp} {a b : Addr} {o : HO} (h : H a = some o) (h' : H b = none) : a ≠ b := by
  intro e; subst e; rw [h] at h'; cases h'

section
variable (P : Program) (w : World)
def ObjOk (H : Hp) (h : Heap) (a : Addr) : HO → Prop
  | .lst xs => xs.length ≤ sizeLine ∧ ∃ (its : List Value) (n : Nat), Vals xs its ∧ h.get? a = some { cls := .type "list", data := .seq its.toArray n }
  | .tup xs => xs.length ≤ sizeLine ∧ ∃ its : List Value, Vals xs its ∧ IsTup h a its.toArray
  | .dK kvs => kvs.length ≤ sizeLine ∧ (a == sysModules) = false ∧ ∃ vs, KV kvs vs ∧ h.DictOf (mixKind P w) a vs
  | .dT kvs => kvs.length ≤ sizeLine ∧ (a == sysModules) = false ∧ ∃ xs : List (List Key × Addr × Value),
      Paired (fun (p : List Key × V) (q : List Key × Addr × Value) => p.1 = q.1 ∧ H q.2.1 = some (.tup (p.1.map kV)) ∧ RelV p.2 q.2.2) kvs xs ∧
      ∃ o es ep, h.get? a = some o ∧ o.ExactDict ∧ o.data = .dict es ep ∧ es.toList = xs.map (entryOfKey (tupleKind (mixKind P w))) ∧ (xs.map (·.1)).Nodup
  | .set S n => h.SetOf (intKind P w) a S n
  | .ins C dx fs => H dx = some (.own a) ∧ fs.length ≤ 1000 ∧ dx ≠ a ∧ h.get? a = some (PySem.W.instObj C dx) ∧
      ∃ mA, h.Ns1 dx mA ∧ (∀ f, RelO (fs.lookup f) (mA f)) ∧ PySem.Within mA (fs.map (·.1))
  | .own _ => ∃ o, h.get? a = some o
  | .xd fs => ∃ mA, h.Ns1 a mA ∧ ∀ f, RelO (fs.lookup f) (mA f)
  | .rng lo hi => ∃ t u v, h.get? a = some { cls := .type "range", data := .fields #[.int lo t, .int hi u, .int 1 v] }
  | .frz o u => h.get? a = some o ∧ ObjOk H h a u
  | .tbl ps => h.get? a = some { cls := .none, data := .fields ps }
  | .met f x => h.get? a = some (PySem.W.methodObj (.ref f) (.ref x))
  | .ext φ => φ h ∧ (∃ o, h.get? a = some o) ∧ ∀ h1 h2 : Heap, φ h1 → (∀ o, h1.get? a = some o → h2.get? a = some o) → φ h2
/-- the abstract heap is held -/
def HOk (H : Hp) (h : Heap) : Prop := ∀ a o, H a = some o → ObjOk P w H h a o
end

section
variable {P : Program} {w : World} {H H' : Hp} {h h' : Heap} {a : Addr} {o : HO}
theorem ObjOk.lt (x : ObjOk P w H h a o) : a < h.objs.size := by
  cases o with
  | lst xs => obtain ⟨_, _, _, _, e⟩ := x; exact Heap.lt_size e
  | tup xs => obtain ⟨_, _, _, p⟩ := x; exact p.lt
  | dK kvs => obtain ⟨_, _, _, _, o, _, _, e, _⟩ := x; exact Heap.lt_size e
  | dT kvs => obtain ⟨_, _, _, _, o, _, _, e, _⟩ := x; exact Heap.lt_size e
  | set S n => obtain ⟨o, _, _, _, e, _⟩ := x; exact Heap.lt_size e
  | ins C dx fs => obtain ⟨_, _, _, e, _⟩ := x; exact Heap.lt_size e
  | own y => obtain ⟨_, e⟩ := x; exact Heap.lt_size e
  | xd fs => obtain ⟨_, ⟨_, _, _, e, _⟩, _⟩ := x; exact Heap.lt_size e
  | rng lo hi => obtain ⟨_, _, _, e⟩ := x; exact Heap.lt_size e
  | frz ob u => obtain ⟨e, _⟩ := x; exact Heap.lt_size e
  | tbl ps => exact Heap.lt_size (show h.get? a = some _ from x)
  | met f y => exact Heap.lt_size (show h.get? a = some _ from x)
  | ext φ => obtain ⟨_, ⟨_, e⟩, _⟩ := x; exact Heap.lt_size e
theorem Paired.mapP {α β : Type} {F G : α → β → Prop} : ∀ {l₁ : List α} {l₂ : List β}, Paired F l₁ l₂ → (∀ a b, F a b → G a b) → Paired G l₁ l₂
  | _, _, .nil, _ => .nil
  | _, _, .cons r t, f => .cons (f _ _ r) (Paired.mapP t f)
/-- what an object's description leans on: its own object, its own dict, the tuples -/
theorem ObjOk.stay (x : ObjOk P w H h a o) (k : ∀ b u, (b = a ∨ H b = some (.own a)) → h.get? b = some u → h'.get? b = some u)
    (ho : ∀ b, H b = some (.own a) → H' b = some (.own a)) (ht : ∀ b xs, H b = some (.tup xs) → H' b = some (.tup xs)) : ObjOk P w H' h' a o := by
  induction o with
  | lst xs => obtain ⟨z, its, n, r, e⟩ := x; exact ⟨z, its, n, r, k _ _ (.inl rfl) e⟩
  | tup xs => obtain ⟨z, its, r, ob, e, c⟩ := x; exact ⟨z, its, r, ob, k _ _ (.inl rfl) e, c⟩
  | dK kvs => obtain ⟨z, y, vs, r, ob, es, ep, e, c⟩ := x; exact ⟨z, y, vs, r, ob, es, ep, k _ _ (.inl rfl) e, c⟩
  | dT kvs =>
    obtain ⟨z, y, xs, r, ob, es, ep, e, c⟩ := x
    exact ⟨z, y, xs, Paired.mapP r fun p q z => ⟨z.1, ht _ _ z.2.1, z.2.2⟩, ob, es, ep, k _ _ (.inl rfl) e, c⟩
  | set S n => obtain ⟨ob, es, ep, t, e, c⟩ := x; exact ⟨ob, es, ep, t, k _ _ (.inl rfl) e, c⟩
  | ins C dx fs =>
    obtain ⟨d, z, ne, e, mA, ⟨od, es, ep, e2, c⟩, r⟩ := x
    exact ⟨ho _ d, z, ne, k _ _ (.inl rfl) e, mA, ⟨od, es, ep, k _ _ (.inr d) e2, c⟩, r⟩
  | own y => obtain ⟨ob, e⟩ := x; exact ⟨ob, k _ _ (.inl rfl) e⟩
  | xd fs => obtain ⟨mA, ⟨od, es, ep, e, c⟩, r⟩ := x; exact ⟨mA, ⟨od, es, ep, k _ _ (.inl rfl) e, c⟩, r⟩
  | rng lo hi => obtain ⟨t, u, v, e⟩ := x; exact ⟨t, u, v, k _ _ (.inl rfl) e⟩
  | frz ob u ih => obtain ⟨e, q⟩ := x; exact ⟨k _ _ (.inl rfl) e, ih q⟩
  | tbl ps =>
    have e : h.get? a = some { cls := .none, data := .fields ps } := x
    show h'.get? a = some { cls := .none, data := .fields ps }
    exact k a _ (.inl rfl) e
  | met f y =>
    have e : h.get? a = some (PySem.W.methodObj (.ref f) (.ref y)) := x
    show h'.get? a = some (PySem.W.methodObj (.ref f) (.ref y))
    exact k a _ (.inl rfl) e
  | ext φ => obtain ⟨p, ⟨o, e⟩, st⟩ := x; exact ⟨st _ _ p fun o q => k _ _ (.inl rfl) q, ⟨o, k _ _ (.inl rfl) e⟩, st⟩
theorem HOk.lt (x : HOk P w H h) (e : H a = some o) : a < h.objs.size := (x a o e).lt
theorem HOk.fresh (x : HOk P w H h) (e : h.objs.size ≤ a) : H a = none := by
  cases q : H a with
  | none => rfl
  | some u => exact absurd (Nat.lt_of_lt_of_le (x.lt q) e) (Nat.lt_irrefl _)
/-- every object of the heap is kept -/
theorem HOk.kept (x : HOk P w H h) (k : ∀ b u, h.get? b = some u → h'.get? b = some u) : HOk P w H h' := fun a o e =>
  (x a o e).stay (fun b u _ q => k b u q) (fun _ q => q) fun _ _ q => q
/-- a new object is laid and tracked -/
theorem HOk.laid (x : HOk P w H h) (k : ∀ b u, h.get? b = some u → h'.get? b = some u) (hp : h.objs.size ≤ a) (new : ObjOk P w (upd H a o) h' a o) : HOk P w (upd H a o) h' := fun b u e => by
  have hn := x.fresh hp
  by_cases hb : b = a
  · subst hb; rw [upd_same] at e; cases e; exact new
  · rw [upd_ne hb] at e
    exact (x b u e).stay (fun c v _ q => k c v q) (fun c q => by rw [upd_ne (ne_of_none q hn)]; exact q) fun c xs q => by rw [upd_ne (ne_of_none q hn)]; exact q
end

/-- what may be read as u: it is u, or a known u -/
def Rd (H : Hp) (a : Addr) (u : HO) : Prop := H a = some u ∨ ∃ o, H a = some (.frz o u)
theorem Rd.of {H : Hp} {a : Addr} {u : HO} (h : H a = some u) : Rd H a u := .inl h
theorem Rd.ok {P : Program} {w : World} {H : Hp} {h : Heap} {a : Addr} {u : HO} (r : Rd H a u) (x : HOk P w H h) : ObjOk P w H h a u := by
  rcases r with r | ⟨o, r⟩
  · exact x a u r
  · obtain ⟨_, q⟩ := x a _ r
    exact q
/-- what may be written -/
def Mut : Option HO → Prop
  | some (.lst _) => True
  | some (.dK _) => True
  | some (.dT _) => True
  | some (.set _ _) => True
  | some (.ins _ _ _) => True
  | some (.ext _) => True
  | _ => False
section
variable {P : Program} {w : World} {H : Hp} {h h' : Heap} {x e : Addr} {o' : HO}
/-- the object at e is changed: x itself, or the dict of the instance x -/
theorem HOk.write (ok : HOk P w H h) (mu : Mut (H x)) (he : e = x ∨ H e = some (.own x)) (k : ∀ b u, b ≠ e → h.get? b = some u → h'.get? b = some u) (heo : ∃ u, h'.get? e = some u)
    (new : ObjOk P w (upd H x o') h' x o') : HOk P w (upd H x o') h' := fun b u q => by
  have nown : ∀ c y, H c = some (.own y) → c ≠ x := fun c y r z => by subst z; rw [r] at mu; exact mu
  have ntup : ∀ c xs, H c = some (.tup xs) → c ≠ x := fun c xs r z => by subst z; rw [r] at mu; exact mu
  by_cases hb : b = x
  · subst hb; rw [upd_same] at q; cases q; exact new
  · rw [upd_ne hb] at q
    by_cases hbe : b = e
    · have q' : H b = some (.own x) := by
        rcases he with z | z
        · exact absurd (hbe.trans z) hb
        · rw [hbe]; exact z
      rw [q] at q'; cases q'
      obtain ⟨v, hv⟩ := heo
      exact ⟨v, by rw [hbe]; exact hv⟩
    · refine (ok b u q).stay (fun c v hc r => k c v ?_ r) (fun c r => by rw [upd_ne (nown c b r)]; exact r) fun c xs r => by rw [upd_ne (ntup c xs r)]; exact r
      rcases hc with rfl | hc
      · exact hbe
      · rintro rfl
        rcases he with z | z
        · exact nown c b hc z
        · rw [hc] at z; cases z; exact hb rfl
end

/-! ### kept unless tracked; of the frames at fs (the callers') the slots may change (an exception that passes writes there); of the records at ex (iterators) nothing is said -/
structure Un (fs ex : List Addr) (H H' : Hp) (h h' : Heap) : Prop where
  keep : ∀ b o, h.get? b = some o → H b = none → b ∉ fs → b ∉ ex → h'.get? b = some o
  slot : ∀ b o, h.get? b = some o → H b = none → b ∈ fs → b ∉ ex → ∃ sl, h'.get? b = some { o with slots := sl }
  free : ∀ b o, h.get? b = some o → H b = none → b ∉ ex → H' b = none
  there : ∀ b o, h.get? b = some o → b ∉ ex → ∃ o', h'.get? b = some o'
  tups : ∀ b xs, H b = some (.tup xs) → H' b = some (.tup xs)
  frzs : ∀ b o u, H b = some (.frz o u) → H' b = some (.frz o u)
  tbls : ∀ b ps, H b = some (.tbl ps) → ∃ more, H' b = some (.tbl (ps ++ more))
section
variable {fs fs' ex ex' : List Addr} {H H1 H2 : Hp} {h h1 h2 h' : Heap} {a x e : Addr} {o : HO}
theorem Un.any (u : Un fs ex H H1 h h1) {b : Addr} {ob : Obj} (q : h.get? b = some ob) (n : H b = none) (hx : b ∉ ex) : ∃ sl, h1.get? b = some { ob with slots := sl } := by
  by_cases hb : b ∈ fs
  · exact u.slot b ob q n hb hx
  · exact ⟨ob.slots, u.keep b ob q n hb hx⟩
theorem Un.trans (a : Un fs ex H H1 h h1) (b : Un fs ex H1 H2 h1 h2) : Un fs ex H H2 h h2 where
  keep := fun c ob q n hc hx => b.keep c ob (a.keep c ob q n hc hx) (a.free c ob q n hx) hc hx
  slot := fun c ob q n hc hx => by
    obtain ⟨sl, e1⟩ := a.slot c ob q n hc hx
    obtain ⟨sl', e2⟩ := b.slot c _ e1 (a.free c ob q n hx) hc hx
    exact ⟨sl', e2⟩
  free := fun c ob q n hx => by
    obtain ⟨o', e1⟩ := a.there c ob q hx
    exact b.free c o' e1 (a.free c ob q n hx) hx
  there := fun c ob q hx => by
    obtain ⟨o', e1⟩ := a.there c ob q hx
    exact b.there c o' e1 hx
  tups := fun c xs q => b.tups c xs (a.tups c xs q)
  frzs := fun c ob xs q => b.frzs c ob xs (a.frzs c ob xs q)
  tbls := fun c ps q => by
    obtain ⟨m1, e1⟩ := a.tbls c ps q
    obtain ⟨m2, e2⟩ := b.tbls c _ e1
    exact ⟨m1 ++ m2, by rw [e2, Array.append_assoc]⟩
theorem Un.kept (k : ∀ b u, h.get? b = some u → h'.get? b = some u) : Un fs ex H H h h' :=
  ⟨fun b ob q _ _ _ => k b ob q, fun b ob q _ _ _ => ⟨ob.slots, k b ob q⟩, fun _ _ _ n _ => n, fun b ob q _ => ⟨ob, k b ob q⟩, fun _ _ q => q, fun _ _ _ q => q, fun _ ps q => ⟨#[], by rw [q]; simp⟩⟩
theorem Un.refl : Un fs ex H H h h := Un.kept fun _ _ q => q
theorem Un.laid (k : ∀ b u, h.get? b = some u → h'.get? b = some u) (hp : h.objs.size ≤ a) (hn : H a = none) : Un fs ex H (upd H a o) h h' where
  keep := fun b u q _ _ _ => k b u q
  slot := fun b u q _ _ _ => ⟨u.slots, k b u q⟩
  free := fun b u q n _ => by rw [upd_ne (Nat.ne_of_lt (Nat.lt_of_lt_of_le (Heap.lt_size q) hp))]; exact n
  there := fun b u q _ => ⟨u, k b u q⟩
  tups := fun b xs q => by rw [upd_ne (ne_of_none q hn)]; exact q
  frzs := fun b u xs q => by rw [upd_ne (ne_of_none q hn)]; exact q
  tbls := fun b ps q => ⟨#[], by rw [upd_ne (ne_of_none q hn), q]; simp⟩
theorem Un.write (mu : Mut (H x)) (he : e = x ∨ H e = some (.own x)) (k : ∀ b u, b ≠ e → h.get? b = some u → h'.get? b = some u) (heo : ∃ u, h'.get? e = some u) : Un fs ex H (upd H x o) h h' := by
  have hx : ∀ b, H b = none → b ≠ x := fun b n z => by subst z; rw [n] at mu; exact mu
  have hb : ∀ b, H b = none → b ≠ e := fun b n z => by
    subst z
    rcases he with r | r
    · exact hx b n r
    · rw [n] at r; cases r
  have hm : ∀ b u, H b = some u → ¬ Mut (some u) → b ≠ x := fun b u q nm z => by subst z; rw [q] at mu; exact nm mu
  refine ⟨fun b u q n _ _ => k b u (hb b n) q, fun b u q n _ _ => ⟨u.slots, k b u (hb b n) q⟩, fun b u q n _ => by rw [upd_ne (hx b n)]; exact n, fun b u q _ => ?_,
    fun b xs q => by rw [upd_ne (hm b _ q fun z => z)]; exact q, fun b u xs q => by rw [upd_ne (hm b _ q fun z => z)]; exact q, fun b ps q => ⟨#[], by rw [upd_ne (hm b _ q fun z => z), q]; simp⟩⟩
  by_cases hbe : b = e
  · subst hbe; exact heo
  · exact ⟨u, k b u hbe q⟩
theorem Un.mono (u : Un fs ex H H1 h h1) (hs : ∀ b ∈ fs, b ∈ fs') (hx : ∀ b ∈ ex, b ∈ ex') : Un fs' ex' H H1 h h1 :=
  ⟨fun b ob q n hb he => u.keep b ob q n (fun z => hb (hs b z)) fun z => he (hx b z), fun _ _ q n _ he => u.any q n fun z => he (hx _ z), fun b ob q n he => u.free b ob q n fun z => he (hx b z), fun b ob q he => u.there b ob q fun z => he (hx b z), u.tups, u.frzs, u.tbls⟩
end

/-! ### the heap without what is tracked -/
def trk (h : Heap) (H : Hp) : List Addr := (List.range h.objs.size).filter fun a => (H a).isSome
def hidT (h : Heap) (H : Hp) : Heap := PySem.W.hideAll h (trk h H)
theorem hidT_size (h : Heap) (H : Hp) : (hidT h H).objs.size = h.objs.size := PySem.W.hideAll_size _ _
theorem hidT_get {h : Heap} {H : Hp} {b : Addr} {o : Obj} (e : h.get? b = some o) (n : H b = none) : (hidT h H).get? b = some o :=
  PySem.W.hideAll_get _ e fun hm => by
    have q : (H b).isSome = true := (List.mem_filter.mp hm).2
    rw [n] at q; simp at q
theorem of_hidT {h : Heap} {H : Hp} {b : Addr} {o : Obj} (e : (hidT h H).get? b = some o) : h.get? b = some o ∧ H b = none := by
  have e' : h.get? b = some o := PySem.W.of_hideAll (trk h H) e
  refine ⟨e', ?_⟩
  cases q : H b with
  | none => rfl
  | some x =>
    have hm : b ∈ trk h H := List.mem_filter.mpr ⟨List.mem_range.mpr (Heap.lt_size e'), by simp [q]⟩
    have z : (hidT h H).get? b = none := PySem.W.hideAll_none (trk h H) hm
    rw [z] at e; cases e

/-! ### OpenK's ledger, filled with every new object but one -/
def allNews (g h : Heap) (L : Addr) : List (Addr × Obj) := (List.range h.objs.size).filterMap fun a => if a = L ∨ (g.get? a).isSome = true then none else (h.get? a).map fun o => (a, o)
def rest (g h : Heap) (L d : Addr) : List (Addr × Obj) := (allNews g h L).filter fun p => decide (p.1 ≠ d)
end L2

namespace L2
open PySem PySem.Spec PyProof.Rows

/-- the module's facts, over the base: the heap at the law's entry without what is tracked there -/
structure Mod (K : PySem.W.Frag) (mg : Str → Option Value) (base : Heap) : Prop where
  kin : K.In base
  glob : base.Ns mainGlobals mg
  blt : ∃ mb, base.Ns builtinsNs mb ∧ ∀ x : Str, x ≠ "__name__" → mb x = bootBuiltins x
  nolimit : base.NoLimit

/-- the context: a def's body (or a comprehension's block) running. base: fixed through the whole law; s₀, H₀: the entry; outer: the frames whose slots others may change (a def's callers); stack: all frames that run;
   ex: iterators that were made ahead of the entry and are walked here (a comprehension's); fn: the names whose cells were made at the entry (a def: all; a comprehension's block: its own); calm: not within an except suite; pn: pins that every state bears; xe: what is wanted of an exception that leaves the code -/
structure Cx where
  prog : Program
  w : World
  K : PySem.W.Frag
  mg : Str → Option Value
  base : Heap
  A : Around
  N : List Str
  s₀ : Shared
  H₀ : Hp
  env : Env
  outer : List Env
  stack : List Env
  ex : List Addr
  fn : Str → Bool
  calm : Bool
  pn : List (Addr × Obj)
  xe : Value → Shared → Prop
/-- the callers' frames -/
def frs (l : List Env) : List Addr := l.filterMap (·.frame)
abbrev Cx.fs (X : Cx) : List Addr := frs X.outer

def Vis (sc : Scope) (x : Str) : Prop := sc.names.lookup x = some .local ∨ sc.names.lookup x = some .cell ∨ sc.names.lookup x = some .free
def Loc (sc : Scope) (x : Str) : Prop := sc.names.lookup x = some .local ∨ sc.names.lookup x = some .cell
def Look (env : Env) (h : Heap) (m : Str → Option Value) (x : Str) (u : Value) : Prop :=
  (env.kindOf x = some .local ∧ m x = some u) ∨ ((env.kindOf x = some .cell ∨ env.kindOf x = some .free) ∧ ∃ c, env.cells.lookup x = some c ∧ h.IsCell c (some u))

structure Cx.Ok (X : Cx) : Prop where
  mod : Mod X.K X.mg X.base
  kind : X.env.scope.kind = .function
  glob : X.env.globals = mainGlobals
  blt : X.env.builtins = builtinsNs
  above : X.s₀.heap.objs.size ≤ X.env.locals
  inj : ∀ x y c, X.env.cells.lookup x = some c → X.env.cells.lookup y = some c → x = y
  has : ∀ x, (X.env.kindOf x = some .cell ∨ X.env.kindOf x = some .free) → ∃ c, X.env.cells.lookup x = some c
  cab : ∀ x c, X.fn x = true → X.env.cells.lookup x = some c → X.s₀.heap.objs.size ≤ c
  hd : X.calm = true → X.A.handled = none
  frames : X.A.frames = some X.stack
  stk : X.stack = X.outer ∨ (X.stack = X.env :: X.outer ∧ X.env.frame = some X.env.locals)
  exf : ∀ b ∈ X.ex, b ≠ X.env.locals ∧ ∀ x c, X.env.cells.lookup x = some c → c ≠ b
  bs : ∀ b o, X.base.get? b = some o → X.s₀.heap.get? b = some o ∧ X.H₀ b = none
  bsz : X.base.objs.size ≤ X.s₀.heap.objs.size
  noex : ∀ b o, X.base.get? b = some o → b ∉ X.ex
  exfs : ∀ b ∈ X.ex, b ∉ X.fs
  funs : X.s₀.heap.FunFrames X.base X.outer
  frf : ∀ b ∈ X.fs, X.H₀ b = none

structure Inv (X : Cx) (pins : List (Addr × Obj)) (σ : List (Option V)) (H : Hp) (s : Shared) : Prop where
  ok : X.Ok
  os : s.os = X.s₀.os
  bare : AllBare s.gens
  base : Un X.fs X.ex X.H₀ H X.s₀.heap s.heap
  loc : ∃ m, s.heap.Ns X.env.locals m ∧ ∀ (i : Nat) (x : Str) (v : V), X.N[i]? = some x → σ[i]? = some (some v) → Vis X.env.scope x → ∃ u, RelV v u ∧ Look X.env s.heap m x u
  cell : ∀ x c, X.env.cells.lookup x = some c → ∃ v, s.heap.IsCell c v
  free : H X.env.locals = none
  freeC : ∀ x c, X.env.cells.lookup x = some c → H c = none
  pin : ∀ p ∈ X.pn ++ pins, s.heap.get? p.1 = some p.2 ∧ H p.1 = none ∧ p.1 ≠ X.env.locals ∧ p.1 ∉ X.fs ∧ ∀ v, p.2.data ≠ .cell v
  hok : HOk X.prog X.w H s.heap
  len : σ.length = X.N.length

section
variable {X : Cx} {pins : List (Addr × Obj)} {σ : List (Option V)} {H H' : Hp} {s : Shared} {h' : Heap}

theorem Cx.Ok.nofr (ok : X.Ok) {b : Addr} {o : Obj} (e : X.base.get? b = some o) : b ∉ X.fs := fun hb => by
  have := (ok.funs.mem hb).1
  rw [e] at this; cases this
theorem Inv.bs (I : Inv X pins σ H s) : ∀ b o, X.base.get? b = some o → s.heap.get? b = some o ∧ H b = none := fun b o e =>
  ⟨I.base.keep b o (I.ok.bs b o e).1 (I.ok.bs b o e).2 (I.ok.nofr e) (I.ok.noex b o e), I.base.free b o (I.ok.bs b o e).1 (I.ok.bs b o e).2 (I.ok.noex b o e)⟩
theorem Inv.bk (I : Inv X pins σ H s) : ∀ b o, X.base.get? b = some o → s.heap.get? b = some o := fun b o e => (I.bs b o e).1
theorem Inv.mod (I : Inv X pins σ H s) : Mod X.K X.mg X.base := I.ok.mod
theorem Inv.kIn (I : Inv X pins σ H s) : X.K.In s.heap := I.ok.mod.kin.keeps I.bk
theorem Inv.nolimit (I : Inv X pins σ H s) : s.heap.NoLimit := I.ok.mod.nolimit.keeps I.bk
/-- the frame over the base: for OpenK's rules (K.In X.base is I.mod.kin) -/
theorem Inv.fr (I : Inv X pins σ H s) : ∃ m, Fr X.base X.env.locals s.heap m :=
  let ⟨m, hn, _⟩ := I.loc
  ⟨m, hn, I.bk, Nat.le_trans I.ok.bsz I.ok.above⟩
theorem Inv.lt (I : Inv X pins σ H s) : X.env.locals < s.heap.objs.size := let ⟨_, hn, _⟩ := I.loc; hn.lt
theorem Inv.sz (I : Inv X pins σ H s) : X.s₀.heap.objs.size ≤ s.heap.objs.size := Nat.le_trans I.ok.above (Nat.le_of_lt I.lt)
theorem Inv.nofs (I : Inv X pins σ H s) {a : Addr} (h : s.heap.objs.size ≤ a) : a ∉ X.fs := fun hb => by
  obtain ⟨_, o, ho, _⟩ := I.ok.funs.mem hb
  exact absurd (Nat.lt_of_lt_of_le (Heap.lt_size ho) (Nat.le_trans I.sz h)) (Nat.lt_irrefl _)
theorem Inv.cne (I : Inv X pins σ H s) : ∀ x c, X.env.cells.lookup x = some c → c ≠ X.env.locals := fun x c e z => by
  obtain ⟨v, o, ho, hd⟩ := I.cell x c e
  obtain ⟨m, ⟨o', es, ep, ho', hd', _⟩, _⟩ := I.loc
  rw [z, ho'] at ho; cases ho; rw [hd'] at hd; cases hd
theorem Inv.funs (I : Inv X pins σ H s) : s.heap.FunFrames X.base X.outer := by
  have all : ∀ (l : List Env), (∀ b ∈ frs l, b ∈ X.fs) → X.s₀.heap.FunFrames X.base l → s.heap.FunFrames X.base l := by
    intro l
    induction l with
    | nil => intro _ _; trivial
    | cons env r ih =>
      intro hs hl
      obtain ⟨hk, ⟨L, o, hf, hn, ho, hd⟩, hr⟩ := hl
      have hL : L ∈ X.fs := hs L (by unfold frs; rw [List.filterMap_cons, hf]; exact List.mem_cons_self)
      obtain ⟨sl, e⟩ := I.base.slot L o ho (I.ok.frf L hL) hL fun z => I.ok.exfs L z hL
      exact ⟨hk, ⟨L, _, hf, hn, e, hd⟩, ih (fun b hb => hs b (by unfold frs; rw [List.filterMap_cons, hf]; exact List.mem_cons_of_mem _ hb)) hr⟩
  exact all X.outer (fun _ hb => hb) I.ok.funs

/-- the frames that run, for a call -/
theorem Inv.stack (I : Inv X pins σ H s) : s.heap.FunFrames X.base X.stack := by
  rcases I.ok.stk with e | ⟨e, hf⟩
  · rw [e]; exact I.funs
  · rw [e]
    obtain ⟨m, hn, _⟩ := I.loc
    refine .cons (by rw [I.ok.kind]; decide) hf hn ?_ I.funs
    exact Heap.get?_none_of_le (Nat.le_trans I.ok.bsz I.ok.above)
theorem Inv.stkSub (I : Inv X pins σ H s) : ∀ b ∈ frs X.stack, b ∈ X.env.locals :: X.fs := fun b hb => by
  rcases I.ok.stk with e | ⟨e, hf⟩
  · rw [e] at hb; exact List.mem_cons_of_mem _ hb
  · rw [e] at hb
    unfold frs at hb
    rw [List.filterMap_cons, hf] at hb
    exact hb
theorem Inv.stkFree (I : Inv X pins σ H s) : ∀ b ∈ frs X.stack, H b = none := fun b hb => by
  rcases List.mem_cons.mp (I.stkSub b hb) with e | hb
  · rw [e]; exact I.free
  · obtain ⟨_, o, ho, _⟩ := I.ok.funs.mem hb
    exact I.base.free b o ho (I.ok.frf b hb) fun z => I.ok.exfs b z hb

/-- THE STEP: the untracked objects but the frame and the records at ch are kept (the callers' frames up to slots), the frame's map is kept, the new abstract heap is held -/
theorem Inv.step {g' : Array GenState} {t' : Nat} {d' : Drawn} {ch : List Addr} (I : Inv X pins σ H s)
    (hch : ∀ b ∈ ch, (b ∈ X.ex ∨ X.s₀.heap.objs.size ≤ b) ∧ b ≠ X.env.locals ∧ (∀ x c, X.env.cells.lookup x = some c → c ≠ b) ∧ ∀ p ∈ X.pn ++ pins, p.1 ≠ b)
    (keep : ∀ b o, b ≠ X.env.locals → b ∉ X.fs → b ∉ ch → s.heap.get? b = some o → H b = none → h'.get? b = some o)
    (slot : ∀ b o, b ≠ X.env.locals → b ∈ X.fs → b ∉ ch → s.heap.get? b = some o → H b = none → ∃ sl, h'.get? b = some { o with slots := sl }) (free : ∀ b o, b ∉ ch → s.heap.get? b = some o → H b = none → H' b = none)
    (there : ∀ b o, b ∉ ch → s.heap.get? b = some o → ∃ o', h'.get? b = some o')
    (tups : ∀ b xs, H b = some (.tup xs) → H' b = some (.tup xs)) (frzs : ∀ b o u, H b = some (.frz o u) → H' b = some (.frz o u)) (tbls : ∀ b ps, H b = some (.tbl ps) → ∃ more, H' b = some (.tbl (ps ++ more)))
    (ns : ∀ m, s.heap.Ns X.env.locals m → h'.Ns X.env.locals m) (hok : HOk X.prog X.w H' h') (hg : AllBare g') :
    Inv X pins σ H' { s with heap := h', gens := g', drawn := d', toks := t' } := by
  have neL : ∀ b o, X.s₀.heap.get? b = some o → b ≠ X.env.locals := fun b o e => Nat.ne_of_lt (Nat.lt_of_lt_of_le (Heap.lt_size e) I.ok.above)
  have neC : ∀ b o, X.s₀.heap.get? b = some o → b ∉ X.ex → b ∉ ch := fun b o e hx hb => by
    rcases (hch b hb).1 with z | z
    · exact hx z
    · exact absurd (Nat.lt_of_lt_of_le (Heap.lt_size e) z) (Nat.lt_irrefl _)
  have cellK : ∀ x c, X.env.cells.lookup x = some c → ∀ v, s.heap.IsCell c v → h'.IsCell c v := fun x c e v ⟨o, ho, hd⟩ => by
    have nch : c ∉ ch := fun z => (hch c z).2.2.1 x c e rfl
    by_cases hc : c ∈ X.fs
    · obtain ⟨sl, q⟩ := slot c o (I.cne x c e) hc nch ho (I.freeC x c e)
      exact ⟨_, q, hd⟩
    · exact ⟨o, keep c o (I.cne x c e) hc nch ho (I.freeC x c e), hd⟩
  refine ⟨I.ok, I.os, hg, ⟨fun b o e n hb hx => ?_, fun b o e n hb hx => ?_, fun b o e n hx => ?_, fun b o e hx => ?_, fun b xs e => tups b xs (I.base.tups b xs e), fun b o xs e => frzs b o xs (I.base.frzs b o xs e), fun b ps e => ?_⟩, ?_, fun x c e => ?_, ?_, fun x c e => ?_, fun p hp => ?_, hok, I.len⟩
  · exact keep b o (neL b o e) hb (neC b o e hx) (I.base.keep b o e n hb hx) (I.base.free b o e n hx)
  · obtain ⟨sl, e1⟩ := I.base.slot b o e n hb hx
    obtain ⟨sl', e2⟩ := slot b _ (neL b o e) hb (neC b o e hx) e1 (I.base.free b o e n hx)
    exact ⟨sl', e2⟩
  · obtain ⟨o', e1⟩ := I.base.there b o e hx
    exact free b o' (neC b o e hx) e1 (I.base.free b o e n hx)
  · obtain ⟨o', e1⟩ := I.base.there b o e hx
    exact there b o' (neC b o e hx) e1
  · obtain ⟨m1, e1⟩ := I.base.tbls b ps e
    obtain ⟨m2, e2⟩ := tbls b _ e1
    exact ⟨m1 ++ m2, by rw [e2, Array.append_assoc]⟩
  · obtain ⟨m, hn, hl⟩ := I.loc
    refine ⟨m, ns m hn, fun i x v e1 e2 e3 => ?_⟩
    obtain ⟨u, r, l⟩ := hl i x v e1 e2 e3
    refine ⟨u, r, ?_⟩
    rcases l with l | ⟨k, c, e, z⟩
    · exact .inl l
    · exact .inr ⟨k, c, e, cellK x c e _ z⟩
  · obtain ⟨v, z⟩ := I.cell x c e
    exact ⟨v, cellK x c e v z⟩
  · obtain ⟨m, ⟨o, _, _, ho, _⟩, _⟩ := I.loc
    exact free _ o (fun z => (hch _ z).2.1 rfl) ho I.free
  · obtain ⟨v, o, ho, hd⟩ := I.cell x c e
    exact free c o (fun z => (hch c z).2.2.1 x c e rfl) ho (I.freeC x c e)
  · obtain ⟨e, n, ne, nf, d⟩ := I.pin p hp
    have nch : p.1 ∉ ch := fun z => (hch p.1 z).2.2.2 p hp rfl
    exact ⟨keep p.1 p.2 ne nf nch e n, free p.1 p.2 nch e n, ne, nf, d⟩
/-- .. where the frame's own object is kept too -/
theorem Inv.un {t' : Nat} (I : Inv X pins σ H s) (u : Un X.fs [] H H' s.heap h') (hok : HOk X.prog X.w H' h') : Inv X pins σ H' { s with heap := h', toks := t' } := by
  obtain ⟨m, ⟨o, es, ep, ho, r⟩, _⟩ := id I.loc
  obtain ⟨sl, hL⟩ := u.any ho I.free (by simp)
  exact I.step (g' := s.gens) (d' := s.drawn) (ch := []) (fun _ z => nomatch z) (fun b o _ hb _ e n => u.keep b o e n hb (by simp)) (fun b o _ hb _ e n => u.slot b o e n hb (by simp)) (fun b o _ e n => u.free b o e n (by simp)) (fun b o _ e => u.there b o e (by simp)) u.tups u.frzs u.tbls (fun m' hm => by
    obtain ⟨o', es', ep', ho', r'⟩ := hm
    rw [ho] at ho'; cases ho'
    exact ⟨_, es', ep', hL, r'⟩) hok I.bare
/-- behind a call (or a comprehension's block): the slots of this frame may have changed too, the records at ch may have turned -/
theorem Inv.call {g' : Array GenState} {t' : Nat} {d' : Drawn} {ch : List Addr} (I : Inv X pins σ H s) (u : Un (frs X.stack) ch H H' s.heap h') (hok : HOk X.prog X.w H' h') (hg : AllBare g')
    (hch : ∀ b ∈ ch, (b ∈ X.ex ∨ X.s₀.heap.objs.size ≤ b) ∧ b ≠ X.env.locals ∧ (∀ x c, X.env.cells.lookup x = some c → c ≠ b) ∧ ∀ p ∈ X.pn ++ pins, p.1 ≠ b) :
    Inv X pins σ H' { s with heap := h', gens := g', drawn := d', toks := t' } := by
  obtain ⟨m, ⟨o, es, ep, ho, r⟩, _⟩ := id I.loc
  obtain ⟨sl, hL⟩ := u.any ho I.free fun z => (hch _ z).2.1 rfl
  exact I.step (ch := ch) hch (fun b o hL hb hc e n => u.keep b o e n (fun z => (List.mem_cons.mp (I.stkSub b z)).elim hL hb) hc) (fun b o _ _ hc e n => u.any e n hc) (fun b o hc e n => u.free b o e n hc) (fun b o hc e => u.there b o e hc) u.tups u.frzs u.tbls (fun m' hm => by
    obtain ⟨o', es', ep', ho', r'⟩ := hm
    rw [ho] at ho'; cases ho'
    exact ⟨_, es', ep', hL, r'⟩) hok hg
/-- an untracked record of ours (an iterator) has turned -/
theorem Inv.turned {t' : Nat} {it : Addr} (I : Inv X pins σ H s) (k : ∀ b o, b ≠ it → s.heap.get? b = some o → h'.get? b = some o) (hn : H it = none) (hL : it ≠ X.env.locals)
    (h1 : it ∈ X.ex ∨ X.s₀.heap.objs.size ≤ it) (h2 : ∀ x c, X.env.cells.lookup x = some c → c ≠ it) (h3 : ∀ p ∈ X.pn ++ pins, p.1 ≠ it) : Inv X pins σ H { s with heap := h', toks := t' } := by
  have nit : ∀ b u, H b = some u → b ≠ it := fun b u e z => by rw [z, hn] at e; cases e
  refine I.step (g' := s.gens) (d' := s.drawn) (ch := [it]) (fun b hb => ?_) (fun b o _ _ hc e _ => k b o (fun z => hc (by simp [z])) e) (fun b o _ _ hc e _ => ⟨o.slots, k b o (fun z => hc (by simp [z])) e⟩) (fun _ _ _ _ n => n)
    (fun b o hc e => ⟨o, k b o (fun z => hc (by simp [z])) e⟩) (fun _ _ e => e) (fun _ _ _ e => e) (fun b ps e => ⟨#[], by rw [e]; simp⟩) (fun m hm => ?_) (fun b u e => ?_) I.bare
  · have e : b = it := by simpa using hb
    subst e
    exact ⟨h1, hL, h2, h3⟩
  · obtain ⟨o, es, ep, ho, r⟩ := hm
    exact ⟨o, es, ep, k _ o (Ne.symm hL) ho, r⟩
  · refine (I.hok b u e).stay (fun c v hc q => k c v ?_ q) (fun _ q => q) fun _ _ q => q
    rcases hc with z | z
    · rw [z]; exact nit b u e
    · exact nit c _ z
theorem Inv.tok (I : Inv X pins σ H s) (t : Nat) : Inv X pins σ H { s with toks := t } := I.un (h' := s.heap) (t' := t) Un.refl I.hok
/-- all objects kept -/
theorem Inv.kept {t' : Nat} (I : Inv X pins σ H s) (k : ∀ b u, s.heap.get? b = some u → h'.get? b = some u) : Inv X pins σ H { s with heap := h', toks := t' } := I.un (Un.kept k) (I.hok.kept k)
/-- a new object laid and tracked -/
theorem Inv.laid {a : Addr} {o : HO} {t' : Nat} (I : Inv X pins σ H s) (k : ∀ b u, s.heap.get? b = some u → h'.get? b = some u) (hp : s.heap.objs.size ≤ a) (new : ObjOk X.prog X.w (upd H a o) h' a o) :
    Inv X pins σ (upd H a o) { s with heap := h', toks := t' } := I.un (Un.laid k hp (I.hok.fresh hp)) (I.hok.laid k hp new)
/-- an object written -/
theorem Inv.write {x e : Addr} {o : HO} {t' : Nat} (I : Inv X pins σ H s) (mu : Mut (H x)) (he : e = x ∨ H e = some (.own x)) (k : ∀ b u, b ≠ e → s.heap.get? b = some u → h'.get? b = some u) (heo : ∃ u, h'.get? e = some u)
    (new : ObjOk X.prog X.w (upd H x o) h' x o) : Inv X pins σ (upd H x o) { s with heap := h', toks := t' } := I.un (Un.write mu he k heo) (I.hok.write mu he k heo new)
/-- forgetting slots, pins -/
theorem Inv.weak {σ' : List (Option V)} (I : Inv X pins σ H s) (hl : σ'.length = σ.length) (w : ∀ (i : Nat) v, σ'[i]? = some (some v) → σ[i]? = some (some v)) : Inv X pins σ' H s :=
  ⟨I.ok, I.os, I.bare, I.base, let ⟨m, hn, hl'⟩ := I.loc; ⟨m, hn, fun i x v e1 e2 e3 => hl' i x v e1 (w i v e2) e3⟩, I.cell, I.free, I.freeC, I.pin, I.hok, hl.trans I.len⟩
theorem Inv.pins_of {pins' : List (Addr × Obj)} (I : Inv X pins σ H s) (h : ∀ p ∈ pins', s.heap.get? p.1 = some p.2 ∧ H p.1 = none ∧ p.1 ≠ X.env.locals ∧ p.1 ∉ X.fs ∧ ∀ v, p.2.data ≠ .cell v) : Inv X pins' σ H s :=
  ⟨I.ok, I.os, I.bare, I.base, I.loc, I.cell, I.free, I.freeC, fun p hp => (List.mem_append.mp hp).elim (fun z => I.pin p (List.mem_append_left _ z)) (h p), I.hok, I.len⟩

theorem nodup_ix {N : List Str} (hN : N.Nodup) {i j : Nat} {x : Str} (a : N[i]? = some x) (b : N[j]? = some x) : i = j := by
  obtain ⟨h1, e1⟩ := List.getElem?_eq_some_iff.mp a
  obtain ⟨h2, e2⟩ := List.getElem?_eq_some_iff.mp b
  exact (List.getElem_inj hN).mp (e1.trans e2.symm)

/-- a name is stored; what changed -/
theorem store_ok2 {M : Model} {A : Around} {E : Value → Shared → Prop} {i : Nat} {x : Str} {v : V} {u : Value} {Q : Unit → Shared → Prop} (I : Inv X pins σ H s) (hN : X.N.Nodup) (hi : X.N[i]? = some x) (hx : Loc X.env.scope x) (r : RelV v u)
    (h : ∀ s', Inv X pins (σ.set i (some v)) H s' → (∃ a, Heap.SameBut a s.heap s'.heap ∧ (a = X.env.locals ∨ X.env.cells.lookup x = some a)) → Q () s') (hf : X.fn x = true ∨ X.env.scope.names.lookup x = some .local := by first | exact .inl rfl | exact .inr rfl | assumption) : wpAny M A (storeName X.env x u) Q E s := by
  obtain ⟨m, hn, hl⟩ := id I.loc
  have hcls : (X.env.scope.kind == .class || (X.env.scope.kind == .module && X.env.locals != X.env.globals)) = false := by rw [I.ok.kind]; rfl
  have hiσ : i < σ.length := by rw [I.len]; exact (List.getElem?_eq_some_iff.mp hi).1
  have cne := I.cne
  have tracked : ∀ {a : Addr} {h' : Heap}, (∃ o, s.heap.get? a = some o ∧ H a = none) → Heap.SameBut a s.heap h' → HOk X.prog X.w H h' := fun {a h'} ha hs b ob e => by
    obtain ⟨_, _, hfree⟩ := ha
    refine (I.hok b ob e).stay (fun c w' hc q => (hs.2 c ?_).trans q) (fun _ q => q) fun _ _ q => q
    rintro rfl
    rcases hc with rfl | hc
    · rw [hfree] at e; cases e
    · rw [hfree] at hc; cases hc
  rcases hx with hk | hk
  · refine wpAny_storeName_local hk hn (fun h' hn' hs => ?_) hcls
    obtain ⟨oL, _, _, hoL, _⟩ := id hn
    refine h _ ⟨I.ok, I.os, I.bare, ⟨fun b o e n hb hx => ?_, fun b o e n hb hx => ?_, I.base.free, fun b o e hx => ?_, I.base.tups, I.base.frzs, I.base.tbls⟩, ⟨_, hn', fun j y v' e1 e2 e3 => ?_⟩, fun y c e => ?_, I.free, I.freeC, fun p hp => ?_, tracked ⟨oL, hoL, I.free⟩ hs, by simpa using I.len⟩ ⟨_, hs, .inl rfl⟩
    · exact (hs.2 b (Nat.ne_of_lt (Nat.lt_of_lt_of_le (Heap.lt_size e) I.ok.above))).trans (I.base.keep b o e n hb hx)
    · obtain ⟨sl, e1⟩ := I.base.slot b o e n hb hx
      exact ⟨sl, (hs.2 b (Nat.ne_of_lt (Nat.lt_of_lt_of_le (Heap.lt_size e) I.ok.above))).trans e1⟩
    · obtain ⟨o', e1⟩ := I.base.there b o e hx
      exact ⟨o', (hs.2 b (Nat.ne_of_lt (Nat.lt_of_lt_of_le (Heap.lt_size e) I.ok.above))).trans e1⟩
    · by_cases hj : j = i
      · subst hj
        rw [hi] at e1; cases e1
        rw [List.getElem?_set_self hiσ] at e2
        cases e2
        exact ⟨u, r, .inl ⟨hk, by simp⟩⟩
      · rw [List.getElem?_set_ne (Ne.symm hj)] at e2
        obtain ⟨u', r', q⟩ := hl j y v' e1 e2 e3
        refine ⟨u', r', ?_⟩
        rcases q with ⟨k, e⟩ | ⟨k, c, e, z⟩
        · refine .inl ⟨k, ?_⟩
          have : y ≠ x := fun e => hj (nodup_ix hN e1 (e ▸ hi))
          simp [this, e]
        · exact .inr ⟨k, c, e, z.sameBut hs (cne y c e)⟩
    · obtain ⟨w', z⟩ := I.cell y c e
      exact ⟨w', z.sameBut hs (cne y c e)⟩
    · obtain ⟨e, n, ne, nf, d⟩ := I.pin p hp
      exact ⟨(hs.2 p.1 ne).trans e, n, ne, nf, d⟩
  · have hfn : X.fn x = true := by
      rcases hf with z | z
      · exact z
      · rw [z] at hk; cases hk
    obtain ⟨c, hc⟩ := I.ok.has x (.inl hk)
    obtain ⟨w', z⟩ := I.cell x c hc
    refine wpAny_storeName_cell I.ok.kind hk hc z (fun h' hc' hs => ?_)
    obtain ⟨oc, hoc, hocd⟩ := id z
    refine h { s with heap := h' } ⟨I.ok, I.os, I.bare, ⟨fun b o e n hb hx => ?_, fun b o e n hb hx => ?_, I.base.free, fun b o e hx => ?_, I.base.tups, I.base.frzs, I.base.tbls⟩, ⟨m, hn.sameBut hs (Ne.symm (cne x c hc)), fun j y v' e1 e2 e3 => ?_⟩, fun y c' e => ?_, I.free, I.freeC, fun p hp => ?_, tracked ⟨oc, hoc, I.freeC x c hc⟩ hs, by simpa using I.len⟩ ⟨c, hs, .inr hc⟩
    · exact (hs.2 b (Nat.ne_of_lt (Nat.lt_of_lt_of_le (Heap.lt_size e) (I.ok.cab x c hfn hc)))).trans (I.base.keep b o e n hb hx)
    · obtain ⟨sl, e1⟩ := I.base.slot b o e n hb hx
      exact ⟨sl, (hs.2 b (Nat.ne_of_lt (Nat.lt_of_lt_of_le (Heap.lt_size e) (I.ok.cab x c hfn hc)))).trans e1⟩
    · obtain ⟨o', e1⟩ := I.base.there b o e hx
      exact ⟨o', (hs.2 b (Nat.ne_of_lt (Nat.lt_of_lt_of_le (Heap.lt_size e) (I.ok.cab x c hfn hc)))).trans e1⟩
    · by_cases hj : j = i
      · subst hj
        rw [hi] at e1; cases e1
        rw [List.getElem?_set_self hiσ] at e2
        cases e2
        exact ⟨u, r, .inr ⟨.inl hk, c, hc, hc'⟩⟩
      · rw [List.getElem?_set_ne (Ne.symm hj)] at e2
        obtain ⟨u', r', q⟩ := hl j y v' e1 e2 e3
        refine ⟨u', r', ?_⟩
        rcases q with q | ⟨k, c', e, z'⟩
        · exact .inl q
        · refine .inr ⟨k, c', e, z'.sameBut hs ?_⟩
          rintro rfl
          exact hj (nodup_ix hN e1 (I.ok.inj _ _ _ e hc ▸ hi))
    · by_cases hcc : c' = c
      · subst hcc; exact ⟨_, hc'⟩
      · obtain ⟨w2, z2⟩ := I.cell y c' e
        exact ⟨w2, z2.sameBut hs hcc⟩
    · obtain ⟨e, n, ne, nf, d⟩ := I.pin p hp
      refine ⟨(hs.2 p.1 ?_).trans e, n, ne, nf, d⟩
      intro q
      rw [q, hoc] at e
      have q' : oc = p.2 := Option.some.inj e
      exact d w' (by rw [← q']; exact hocd)
theorem store_ok {M : Model} {A : Around} {E : Value → Shared → Prop} {i : Nat} {x : Str} {v : V} {u : Value} {Q : Unit → Shared → Prop} (I : Inv X pins σ H s) (hN : X.N.Nodup) (hi : X.N[i]? = some x) (hx : Loc X.env.scope x) (r : RelV v u)
    (h : ∀ s', Inv X pins (σ.set i (some v)) H s' → Q () s') (hf : X.fn x = true ∨ X.env.scope.names.lookup x = some .local := by first | exact .inl rfl | exact .inr rfl | assumption) : wpAny M A (storeName X.env x u) Q E s :=
  store_ok2 I hN hi hx r (fun s' I' _ => h s' I') hf
/-- behind a call or a block, the state as it is -/
theorem Inv.call' {s' : Shared} {ch : List Addr} (I : Inv X pins σ H s) (ho : s'.os = s.os) (u : Un (frs X.stack) ch H H' s.heap s'.heap) (hok : HOk X.prog X.w H' s'.heap) (hg : AllBare s'.gens)
    (hch : ∀ b ∈ ch, (b ∈ X.ex ∨ X.s₀.heap.objs.size ≤ b) ∧ b ≠ X.env.locals ∧ (∀ x c, X.env.cells.lookup x = some c → c ≠ b) ∧ ∀ p ∈ X.pn ++ pins, p.1 ≠ b) : Inv X pins σ H' s' := by
  obtain ⟨h', g', d', t', o'⟩ := s'
  have e : o' = s.os := ho
  subst e
  exact I.call (g' := g') (t' := t') (d' := d') u hok hg hch
end

/-! ### the judgements -/
/-- an exception: its class, its own dict's address (where it has one), the abstract heap behind it -/
abbrev XK := Value → Option Addr → Hp → Prop
abbrev St := List (Option V)
abbrev VK := V → Hp → Prop
/-- an expression's reading; a test's; an argument list's -/
abbrev TE := St → Hp → VK → Prop
abbrev TT := St → Hp → (Bool → Hp → Prop) → Prop
abbrev TA := St → Hp → (List V → Hp → Prop) → Prop
/-- what is wanted behind a statement -/
structure Ends where
  nx : St → Hp → Prop
  rt : VK
  bk : St → Hp → Prop := fun _ _ => False
  ct : St → Hp → Prop := fun _ _ => False
abbrev TS := Ends → St → Hp → Prop

def EP (X : Cx) (pins : List (Addr × Obj)) (σ : St) (Q : VK) (u : Value) (s' : Shared) : Prop := ∃ v H', Inv X pins σ H' s' ∧ RelV v u ∧ Q v H'
def TP (X : Cx) (pins : List (Addr × Obj)) (σ : St) (Q : Bool → Hp → Prop) (b : Bool) (s' : Shared) : Prop := ∃ H', Inv X pins σ H' s' ∧ Q b H'
def AP (X : Cx) (pins : List (Addr × Obj)) (σ : St) (Q : List V → Hp → Prop) (us : List Value) (s' : Shared) : Prop := ∃ vs H', Inv X pins σ H' s' ∧ Vals vs us ∧ Q vs H'
def SP (X : Cx) (pins : List (Addr × Obj)) (D : Ends) (f : Flow) (s' : Shared) : Prop :=
  match f with
  | .next => ∃ σ' H', Inv X pins σ' H' s' ∧ D.nx σ' H'
  | .brk => ∃ σ' H', Inv X pins σ' H' s' ∧ D.bk σ' H'
  | .cont => ∃ σ' H', Inv X pins σ' H' s' ∧ D.ct σ' H'
  | .ret u => ∃ v σ' H', Inv X pins σ' H' s' ∧ RelV v u ∧ D.rt v H'

def PE (X : Cx) (e : Expr) (t : TE) : Prop :=
  ∀ (pins : List (Addr × Obj)) (s : Shared) (σ : St) (H : Hp) (Q : VK), Inv X pins σ H s → t σ H Q → wpAny (model X.prog X.w) X.A (eval e X.env) (EP X pins σ Q) X.xe s
def PT (X : Cx) (e : Expr) (t : TT) : Prop :=
  ∀ (pins : List (Addr × Obj)) (s : Shared) (σ : St) (H : Hp) (Q : Bool → Hp → Prop), Inv X pins σ H s → t σ H Q → wpAny (model X.prog X.w) X.A (isTrue e X.env (eval e X.env)) (TP X pins σ Q) X.xe s
/-- a test whatever its 'whole' is (and, or) -/
def PW (X : Cx) (e : Expr) (t : TT) : Prop :=
  ∀ (whole : Sem Value) (pins : List (Addr × Obj)) (s : Shared) (σ : St) (H : Hp) (Q : Bool → Hp → Prop), Inv X pins σ H s → t σ H Q → wpAny (model X.prog X.w) X.A (isTrue e X.env whole) (TP X pins σ Q) X.xe s
theorem PW.pt {X : Cx} {e : Expr} {t : TT} (h : PW X e t) : PT X e t := h _
/-- an argument list (no star), from the left -/
def PA (X : Cx) (es : List Expr) (t : TA) : Prop :=
  ∀ (pos : Pos) (pins : List (Addr × Obj)) (s : Shared) (σ : St) (H : Hp) (Q : List V → Hp → Prop), Inv X pins σ H s → t σ H Q → wpAny (model X.prog X.w) X.A (spliced (backTo pos (starEach es X.env))) (AP X pins σ Q) X.xe s
def PS (X : Cx) (st : Stmt) (t : TS) : Prop :=
  ∀ (pins : List (Addr × Obj)) (s : Shared) (σ : St) (H : Hp) (D : Ends), Inv X pins σ H s → t D σ H → wpAny (model X.prog X.w) X.A (exec st X.env) (SP X pins D) X.xe s
def PSs (X : Cx) (st : List Stmt) (t : TS) : Prop :=
  ∀ (pins : List (Addr × Obj)) (s : Shared) (σ : St) (H : Hp) (D : Ends), Inv X pins σ H s → t D σ H → wpAny (model X.prog X.w) X.A (execs st X.env) (SP X pins D) X.xe s
/-- weaken the end -/
theorem thn {α : Type} {t : Sem α} {Q Q' : α → Shared → Prop} {M : Model} {A : Around} {E : Value → Shared → Prop} {s : Shared} (h : wpAny M A t Q E s) (hQ : ∀ a s, Q a s → Q' a s) : wpAny M A t Q' E s := wpAny_mono h hQ fun _ _ x => x
end L2

namespace L2
open PySem PySem.Spec PyProof.Rows
section
variable {X : Cx}


/-! ### names and constants -/
def tVar (i : Nat) : TE := fun σ H Q => ∃ v, σ[i]? = some (some v) ∧ Q v H
def tC (v : V) : TE := fun _ H Q => Q v H
theorem pe_var {i : Nat} {x : Str} {pos : Pos} (hN : X.N[i]? = some x) (hv : Vis X.env.scope x) (hd : (x == ("__debug__" : Str)) = false := by decide) (hcd : (x == ("__classdict__" : Str)) = false := by decide) : PE X (.Name x pos) (tVar i) := by
  intro pins s σ H Q I h
  obtain ⟨v, e, h⟩ := h
  obtain ⟨m, hn, hl⟩ := I.loc
  obtain ⟨u, r, l⟩ := hl i x v hN e hv
  have fin : EP X pins σ Q u s := ⟨v, H, I, r, h⟩
  rcases l with ⟨hk, hm⟩ | ⟨hk, c, hc, hcell⟩
  · exact wpAny_Name (wpAny_loadName_local I.ok.kind hk hn hm fin) hd
  · rcases hk with hk | hk
    · exact wpAny_Name (wpAny_loadName_cell I.ok.kind hk hc hcell fin) hd
    · exact wpAny_Name (wpAny_loadName_free I.ok.kind hk hc hcell fin hcd) hd
theorem pe_int {i j pos} : PE X (.Constant (.int i) j pos) (tC (.int i)) := fun _ _ _ H _ I h => wpAny_Constant_int ⟨.int i, H, I.tok _, ⟨_, rfl⟩, h⟩
theorem pe_bl {b j pos} : PE X (.Constant (.bool b) j pos) (tC (.bl b)) := fun _ _ _ H _ I h => Constant_bool ⟨.bl b, H, I, rfl, h⟩
theorem pe_non {j pos} : PE X (.Constant .none j pos) (tC .non) := fun _ _ _ H _ I h => Constant_none ⟨.non, H, I, rfl, h⟩
theorem pe_str {x j pos} : PE X (.Constant (.str x) j pos) (tC (.str x)) := fun _ _ _ H _ I h => Calls.Constant_str ⟨.str x, H, I.tok _, ⟨_, rfl⟩, h⟩

/-- a global name of the def -/
def Gl (X : Cx) (x : Str) : Prop := X.env.kindOf x = some .globalImplicit
theorem ld_glob {E : Value → Shared → Prop} {pins : List (Addr × Obj)} {s : Shared} {σ : St} {H : Hp} {x : Str} {u : Value} {pos : Pos} {Q : Value → Shared → Prop} (I : Inv X pins σ H s) (hg : Gl X x) (hm : X.mg x = some u) (h : Q u s)
    (hd : (x == ("__debug__" : Str)) = false := by decide) : wpAny (model X.prog X.w) X.A (eval (.Name x pos) X.env) Q E s :=
  Calls.Name_function_global I.ok.kind hg (Calls.loadGlobal_global (by rw [I.ok.glob]; exact I.mod.glob.keeps I.bk) hm h) hd
theorem ld_blt {E : Value → Shared → Prop} {pins : List (Addr × Obj)} {s : Shared} {σ : St} {H : Hp} {x : Str} {u : Value} {pos : Pos} {Q : Value → Shared → Prop} (I : Inv X pins σ H s) (hg : Gl X x) (hm : X.mg x = none) (hv : bootBuiltins x = some u) (h : Q u s)
    (hn : x ≠ "__name__" := by decide) (hd : (x == ("__debug__" : Str)) = false := by decide) : wpAny (model X.prog X.w) X.A (eval (.Name x pos) X.env) Q E s := by
  obtain ⟨mb, h1, h2⟩ := I.mod.blt
  exact Calls.Name_function_global I.ok.kind hg (Calls.loadGlobal_builtin (by rw [I.ok.glob]; exact I.mod.glob.keeps I.bk) hm (by rw [I.ok.blt]; exact h1.keeps I.bk) ((h2 x hn).trans hv) h) hd
/-- a module's constant, a class, a function, as a value -/
theorem pe_glob {x : Str} {v : V} {u : Value} {pos : Pos} (hg : Gl X x) (hm : X.mg x = some u) (r : RelV v u) (hd : (x == ("__debug__" : Str)) = false := by decide) : PE X (.Name x pos) (tC v) :=
  fun _ _ _ H _ I h => ld_glob I hg hm ⟨v, H, I, r, h⟩ hd

/-! ### arithmetic -/
/-- two ints -/
def t2I (ta tb : TE) (k : Int → Int → Hp → Prop) : St → Hp → Prop := fun σ H => ta σ H fun x H1 => tb σ H1 fun y H2 => ∃ i j, x = .int i ∧ y = .int j ∧ k i j H2
def tAdd (ta tb : TE) : TE := fun σ H Q => t2I ta tb (fun i j H2 => Q (.int (i + j)) H2) σ H
def tSub (ta tb : TE) : TE := fun σ H Q => t2I ta tb (fun i j H2 => Q (.int (i - j)) H2) σ H
/-- the left factor below 2^64 -/
def tMul (ta tb : TE) : TE := fun σ H Q => t2I ta tb (fun i j H2 => (-(2 ^ 64) < i ∧ i < 2 ^ 64) ∧ Q (.int (i * j)) H2) σ H
variable {a b : Expr} {ta tb : TE} {pos : Pos}

/-! ### comparisons -/
def PC (X : Cx) (op : CmpOp) (a b : Expr) (t : TE) : Prop :=
  ∀ (pins : List (Addr × Obj)) (s : Shared) (σ : St) (H : Hp) (Q : VK), Inv X pins σ H s → t σ H Q →
    wpAny (model X.prog X.w) X.A (eval a X.env) (fun v s₁ => wpAny (model X.prog X.w) X.A (eval b X.env) (fun u s₂ => wpAny (model X.prog X.w) X.A (compareOp op v u) (EP X pins σ Q) X.xe s₂) X.xe s₁) X.xe s
def tCmp (p : Int → Int → Bool) (ta tb : TE) : TE := fun σ H Q => t2I ta tb (fun i j H2 => Q (.bl (p i j)) H2) σ H
abbrev tLt : TE → TE → TE := tCmp fun i j => decide (i < j)
abbrev tLe : TE → TE → TE := tCmp fun i j => decide (i ≤ j)
abbrev tGt : TE → TE → TE := tCmp fun i j => decide (j < i)
abbrev tGe : TE → TE → TE := tCmp fun i j => decide (j ≤ i)
abbrev tEqI : TE → TE → TE := tCmp fun i j => decide (i = j)
abbrev tNeI : TE → TE → TE := tCmp fun i j => !decide (i = j)
/-- is None -/
def tIsN (ta : TE) : TE := fun σ H Q => ta σ H fun x H1 => Q (.bl (decide (x = .non))) H1
def tNotN (ta : TE) : TE := fun σ H Q => ta σ H fun x H1 => Q (.bl (!decide (x = .non))) H1
/-- a comparison as a value, as a test -/
def tB (t : TE) : TT := fun σ H Q => t σ H fun x H1 => ∃ c, x = .bl c ∧ Q c H1
/-- an expression whose value is a bool, as a test -/
theorem pt_val {e : Expr} {t : TE} (h : PE X e t) (he : ∀ whole, isTrue e X.env whole = (do let v ← whole; standAt e.pos; holding [v] (truthy v)) := by intro _; rfl) : PT X e (tB t) := by
  intro pins s σ H Q I hw
  refine isTrue_plain (thn (h pins s σ H _ I hw) fun v s1 ⟨x, H1, I1, r1, q1⟩ => ?_) (he _)
  obtain ⟨d, rfl, q⟩ := q1
  cases r1
  exact wpAny_truthy_bool ⟨H1, I1, q⟩

/-! ### and, or, not -/
variable {tA tB' : TT} {rest : List Expr}
def tAnd (t u : TT) : TT := fun σ H Q => t σ H fun c H1 => if c = true then u σ H1 Q else Q false H1
def tOr (t u : TT) : TT := fun σ H Q => t σ H fun c H1 => if c = true then Q true H1 else u σ H1 Q
def tNot (t : TT) : TT := fun σ H Q => t σ H fun c H1 => Q (!c) H1
theorem pw_and1 (ha : PT X a tA) : PW X (.BoolOp .And [a] pos) tA := by
  intro wh pins s σ H Q I h
  refine isTrue_and (thn (ha pins s σ H Q I h) fun c s1 e => ?_)
  cases c with
  | true => exact isTrue_and_nil e
  | false => exact e
theorem pw_or1 (ha : PT X a tA) : PW X (.BoolOp .Or [a] pos) tA := by
  intro wh pins s σ H Q I h
  refine isTrue_or (thn (ha pins s σ H Q I h) fun c s1 e => ?_)
  cases c with
  | false => exact isTrue_or_nil e
  | true => exact e
theorem pw_and (ha : PT X a tA) (hb : PW X (.BoolOp .And (b :: rest) pos) tB') : PW X (.BoolOp .And (a :: b :: rest) pos) (tAnd tA tB') := by
  intro wh pins s σ H Q I h
  refine isTrue_and (thn (ha pins s σ H _ I h) fun c s1 ⟨H1, I1, q1⟩ => ?_)
  cases c with
  | true => exact hb wh pins s1 σ H1 Q I1 q1
  | false => exact ⟨H1, I1, q1⟩
theorem pw_or (ha : PT X a tA) (hb : PW X (.BoolOp .Or (b :: rest) pos) tB') : PW X (.BoolOp .Or (a :: b :: rest) pos) (tOr tA tB') := by
  intro wh pins s σ H Q I h
  refine isTrue_or (thn (ha pins s σ H _ I h) fun c s1 ⟨H1, I1, q1⟩ => ?_)
  cases c with
  | true => exact ⟨H1, I1, q1⟩
  | false => exact hb wh pins s1 σ H1 Q I1 q1
theorem pt_not (ha : PT X a tA) : PT X (.UnaryOp .Not a pos) (tNot tA) := by
  intro pins s σ H Q I h
  exact isTrue_not (ha pins s σ H (fun c H1 => Q (!c) H1) I h)
/-- .. as values (bools) -/
def tAndV (ta tb : TE) : TE := fun σ H Q => ta σ H fun x H1 => ∃ c, x = .bl c ∧ if c = true then tb σ H1 Q else Q (.bl false) H1
def tOrV (ta tb : TE) : TE := fun σ H Q => ta σ H fun x H1 => ∃ c, x = .bl c ∧ if c = true then Q (.bl true) H1 else tb σ H1 Q
def tNotV (ta : TE) : TE := fun σ H Q => ta σ H fun x H1 => ∃ c, x = .bl c ∧ Q (.bl (!c)) H1
/-- a if t else b -/
def tIf (t : TT) (ta tb : TE) : TE := fun σ H Q => t σ H fun c H1 => if c = true then ta σ H1 Q else tb σ H1 Q
theorem pe_ifExp {c : Expr} (hc : PT X c tA) (ha : PE X a ta) (hb : PE X b tb) : PE X (.IfExp c a b pos) (tIf tA ta tb) := by
  intro pins s σ H Q I h
  refine wpAny_IfExp (thn (hc pins s σ H _ I h) fun d s1 ⟨H1, I1, q1⟩ => ?_)
  cases d with
  | true => exact ha pins s1 σ H1 Q I1 q1
  | false => exact hb pins s1 σ H1 Q I1 q1
end
end L2

namespace L2
open PySem PySem.Spec PyProof.Rows

/-! ### a list, a tuple that is read: tracked, frozen, or an object of the module -/
def SqL (K : PySem.W.Frag) (H : Hp) (a : Addr) (xs : List V) : Prop :=
  Rd H a (.lst xs) ∨
    ∃ (o : Obj) (its : Array Value) (n : Nat), K.lookup a = some o ∧ o.cls = .type "list" ∧ o.dict = none ∧ o.data = .seq its n ∧ its.size ≤ sizeLine ∧ Vals xs its.toList
def SqT (K : PySem.W.Frag) (H : Hp) (a : Addr) (xs : List V) : Prop :=
  Rd H a (.tup xs) ∨
    ∃ (o : Obj) (its : Array Value) (n : Nat), K.lookup a = some o ∧ o.cls = .type "tuple" ∧ o.data = .seq its n ∧ its.size ≤ sizeLine ∧ Vals xs its.toList
def absV : Value → Option V
  | .none => some .non
  | .bool b => some (.bl b)
  | .int i _ => some (.int i)
  | .str x _ => some (.str x)
  | .bytes b _ => some (.byt b)
  | .float b _ => some (.flt b)
  | .ref a => some (.ref a)
  | .type n => some (.ty n)
  | _ => none
theorem RelV.abs {x : V} {u : Value} (r : RelV x u) : absV u = some x := by
  cases x with
  | non => cases r; rfl
  | bl _ => cases r; rfl
  | int _ => obtain ⟨t, rfl⟩ := r; rfl
  | str _ => obtain ⟨t, rfl⟩ := r; rfl
  | byt _ => obtain ⟨t, rfl⟩ := r; rfl
  | flt _ => obtain ⟨t, rfl⟩ := r; rfl
  | ref _ => cases r; rfl
  | ty _ => cases r; rfl
theorem RelV.inj {x y : V} {u : Value} (r : RelV x u) (q : RelV y u) : x = y := Option.some.inj (r.abs.symm.trans q.abs)
theorem Vals.inj : ∀ {xs ys : List V} {us : List Value}, Vals xs us → Vals ys us → xs = ys
  | _, _, _, .nil, .nil => rfl
  | _, _, _, .cons r t, .cons r' t' => by rw [r.inj r', Vals.inj t t']
section
variable {X : Cx} {pins : List (Addr × Obj)} {σ : St} {H : Hp} {s : Shared} {a : Addr} {xs ys : List V}
theorem SqL.of {K : PySem.W.Frag} (h : H a = some (.lst xs)) : SqL K H a xs := .inl (.inl h)
theorem SqT.of {K : PySem.W.Frag} (h : H a = some (.tup xs)) : SqT K H a xs := .inl (.inl h)
theorem Inv.list (I : Inv X pins σ H s) (h : SqL X.K H a xs) : ∃ its : List Value, Vals xs its ∧ PlainL s.heap a its.toArray ∧ xs.length ≤ sizeLine := by
  rcases h with h | ⟨o, its, n, hk, hc, hd, hs, hz, r⟩
  · obtain ⟨z, its, n, r, e⟩ := h.ok I.hok
    exact ⟨its, r, ⟨_, n, e, rfl, rfl, rfl⟩, z⟩
  · refine ⟨its.toList, r, ⟨o, n, I.kIn a o hk, hc, hd, by simpa using hs⟩, ?_⟩
    have e := r.length
    simp only [Array.length_toList] at e
    omega
theorem Inv.tuple (I : Inv X pins σ H s) (h : SqT X.K H a xs) : ∃ its : List Value, Vals xs its ∧ IsTup s.heap a its.toArray ∧ xs.length ≤ sizeLine := by
  rcases h with h | ⟨o, its, n, hk, hc, hs, hz, r⟩
  · obtain ⟨z, its, r, p⟩ := h.ok I.hok
    exact ⟨its, r, p, z⟩
  · refine ⟨its.toList, r, ⟨o, I.kIn a o hk, hc, n, by simpa using hs⟩, ?_⟩
    have e := r.length
    simp only [Array.length_toList] at e
    omega
theorem Inv.list_inj (I : Inv X pins σ H s) (h : SqL X.K H a xs) (h' : SqL X.K H a ys) : xs = ys := by
  obtain ⟨its, r, ⟨o, n, e, _, _, d⟩, _⟩ := I.list h
  obtain ⟨its', r', ⟨o', n', e', _, _, d'⟩, _⟩ := I.list h'
  rw [e] at e'; cases e'
  rw [d] at d'
  injection d' with d1 _
  have : its = its' := by simpa using congrArg Array.toList d1
  subst this
  exact r.inj r'
theorem Inv.tuple_inj (I : Inv X pins σ H s) (h : SqT X.K H a xs) (h' : SqT X.K H a ys) : xs = ys := by
  obtain ⟨its, r, ⟨o, e, _, n, d⟩, _⟩ := I.tuple h
  obtain ⟨its', r', ⟨o', e', _, n', d'⟩, _⟩ := I.tuple h'
  rw [e] at e'; cases e'
  rw [d] at d'
  injection d' with d1 _
  have : its = its' := by simpa using congrArg Array.toList d1
  subst this
  exact r.inj r'
end

/-! ### another wish about exceptions -/
abbrev Cx.wish (X : Cx) (E : Value → Shared → Prop) : Cx := { X with xe := E }
/-- no exception leaves -/
abbrev Cx.nox (X : Cx) : Cx := X.wish fun _ _ => False
theorem Cx.Ok.wish {X : Cx} (ok : X.Ok) (E : Value → Shared → Prop) : (X.wish E).Ok :=
  ⟨ok.mod, ok.kind, ok.glob, ok.blt, ok.above, ok.inj, ok.has, ok.cab, ok.hd, ok.frames, ok.stk, ok.exf, ok.bs, ok.bsz, ok.noex, ok.exfs, ok.funs, ok.frf⟩
theorem Cx.Ok.unwish {X : Cx} {E : Value → Shared → Prop} (ok : (X.wish E).Ok) : X.Ok :=
  ⟨ok.mod, ok.kind, ok.glob, ok.blt, ok.above, ok.inj, ok.has, ok.cab, ok.hd, ok.frames, ok.stk, ok.exf, ok.bs, ok.bsz, ok.noex, ok.exfs, ok.funs, ok.frf⟩
section
variable {X : Cx} {pins : List (Addr × Obj)} {σ : St} {H : Hp} {s : Shared} {E : Value → Shared → Prop}
theorem Inv.wish (I : Inv X pins σ H s) (E : Value → Shared → Prop) : Inv (X.wish E) pins σ H s := ⟨I.ok.wish E, I.os, I.bare, I.base, I.loc, I.cell, I.free, I.freeC, I.pin, I.hok, I.len⟩
theorem Inv.unwish (I : Inv (X.wish E) pins σ H s) : Inv X pins σ H s := ⟨I.ok.unwish, I.os, I.bare, I.base, I.loc, I.cell, I.free, I.freeC, I.pin, I.hok, I.len⟩
theorem SP.unwish {D : Ends} {f : Flow} {s' : Shared} (h : SP (X.wish E) pins D f s') : SP X pins D f s' := by
  cases f with
  | next => obtain ⟨σ', H', I, q⟩ := h; exact ⟨σ', H', I.unwish, q⟩
  | brk => obtain ⟨σ', H', I, q⟩ := h; exact ⟨σ', H', I.unwish, q⟩
  | cont => obtain ⟨σ', H', I, q⟩ := h; exact ⟨σ', H', I.unwish, q⟩
  | ret u => obtain ⟨v, σ', H', I, r, q⟩ := h; exact ⟨v, σ', H', I.unwish, r, q⟩
theorem PE.nox {e : Expr} {t : TE} (h : PE X.nox e t) : PE X e t := fun pins s σ H Q I hw =>
  wpAny_mono (h pins s σ H Q (I.wish _) hw) (fun _ _ ⟨v, H', I', r, q⟩ => ⟨v, H', I'.unwish, r, q⟩) fun _ _ z => False.elim z
theorem PT.nox {e : Expr} {t : TT} (h : PT X.nox e t) : PT X e t := fun pins s σ H Q I hw =>
  wpAny_mono (h pins s σ H Q (I.wish _) hw) (fun _ _ ⟨H', I', q⟩ => ⟨H', I'.unwish, q⟩) fun _ _ z => False.elim z
theorem PSs.nox {st : List Stmt} {t : TS} (h : PSs X.nox st t) : PSs X st t := fun pins s σ H D I hw =>
  wpAny_mono (h pins s σ H D (I.wish _) hw) (fun _ _ q => q.unwish) fun _ _ z => False.elim z
end

/-! ### blocks and small statements -/
section
variable {X : Cx} {st : Stmt} {rest : List Stmt} {t u : TS} {e : Expr} {te : TE} {pos : Pos}
def tNext : TS := fun D σ H => D.nx σ H
def tSeq (t u : TS) : TS := fun D σ H => t { D with nx := u D } σ H
theorem pss_nil : PSs X [] tNext := fun _ _ σ H _ I h => wpAny_execs_nil ⟨σ, H, I, h⟩
theorem pss_cons (h1 : PS X st t) (h2 : PSs X rest u) : PSs X (st :: rest) (tSeq t u) := by
  intro pins s σ H D I h
  refine wpAny_execs_cons (thn (h1 pins s σ H { D with nx := u D } I h) fun f s1 q => ?_)
  cases f with
  | next =>
    obtain ⟨σ', H', I', q⟩ := q
    exact h2 pins s1 σ' H' D I' q
  | ret v => exact q
  | brk => exact q
  | cont => exact q
theorem pss_one (h1 : PS X st t) : PSs X [st] t := by
  intro pins s σ H D I h
  refine wpAny_execs_cons (thn (h1 pins s σ H D I h) fun f s1 q => ?_)
  cases f with
  | next => exact wpAny_execs_nil q
  | ret v => exact q
  | brk => exact q
  | cont => exact q
def tBreak : TS := fun D σ H => D.bk σ H
def tCont : TS := fun D σ H => D.ct σ H
/-- in a def's body nothing is shown -/
theorem Inv.quiet {pins : List (Addr × Obj)} {σ : St} {H : Hp} {s : Shared} (I : Inv X pins σ H s) : interactive X.env = false := by simp [interactive, I.ok.kind]
/-- an expression whose value is dropped -/
def tDrop (te : TE) : TS := fun D σ H => te σ H fun _ H1 => D.nx σ H1
theorem ps_expr (he : PE X e te) (hs : swapsWith e none pos.line X.env = pure false := by rfl) : PS X (.Expr e pos) (tDrop te) := by
  intro pins s σ H D I h
  exact wpAny_Expr_any (thn (he pins s σ H _ I h) fun v s1 ⟨x, H1, I1, r1, q1⟩ => ⟨σ, H1, I1, q1⟩) I.quiet hs
def tRet (te : TE) : TS := fun D σ H => te σ H D.rt
theorem ps_ret (he : PE X e te) : PS X (.Return (some e) pos) (tRet te) := by
  intro pins s σ H D I h
  exact wpAny_Return_some (thn (he pins s σ H _ I h) fun v s1 ⟨x, H1, I1, r1, q1⟩ => ⟨x, σ, H1, I1, r1, q1⟩)
def tRetN : TS := fun D _ H => D.rt .non H
def tIfS (c : TT) (t u : TS) : TS := fun D σ H => c σ H fun b H1 => if b = true then t D σ H1 else u D σ H1
theorem ps_if {c : Expr} {a b : List Stmt} {tc : TT} (hc : PT X c tc) (ha : PSs X a t) (hb : PSs X b u) : PS X (.If c a b pos) (tIfS tc t u) := by
  intro pins s σ H D I h
  refine wpAny_If (thn (hc pins s σ H _ I h) fun d s1 ⟨H1, I1, q1⟩ => ?_)
  cases d with
  | true => exact ha pins s1 σ H1 D I1 q1
  | false => exact hb pins s1 σ H1 D I1 q1
/-- code that the proof never comes to -/
def tNever : TS := fun _ _ _ => False
end

/-! ### targets -/
abbrev TG := V → St → Hp → (St → Hp → Prop) → Prop
abbrev TGs := List V → St → Hp → (St → Hp → Prop) → Prop
def PG (X : Cx) (target : Expr) (t : TG) : Prop :=
  ∀ (pins : List (Addr × Obj)) (s : Shared) (σ : St) (H : Hp) (v : V) (u : Value) (Q : St → Hp → Prop), Inv X pins σ H s → RelV v u → t v σ H Q →
    wpAny (model X.prog X.w) X.A (assign target X.env u) (fun _ s' => ∃ σ' H', Inv X pins σ' H' s' ∧ Q σ' H') X.xe s
/-- several targets, one after another -/
def PGs (X : Cx) (ts : List Expr) (t : TGs) : Prop :=
  ∀ (pins : List (Addr × Obj)) (s : Shared) (σ : St) (H : Hp) (vs : List V) (us : List Value) (Q : St → Hp → Prop), Inv X pins σ H s → Vals vs us → t vs σ H Q →
    wpAny (model X.prog X.w) X.A (assignInOrder ((assignEach ts X.env).map (·.2)) us) (fun _ s' => ∃ σ' H', Inv X pins σ' H' s' ∧ Q σ' H') X.xe s
/-- o[i] = v, by values -/
abbrev TSet := V → V → V → Hp → (Hp → Prop) → Prop
def PSet (X : Cx) (t : TSet) : Prop :=
  ∀ (pins : List (Addr × Obj)) (s : Shared) (σ : St) (H : Hp) (o i v : V) (ov iv u : Value) (Q : Hp → Prop), Inv X pins σ H s → RelV o ov → RelV i iv → RelV v u → t o i v H Q →
    wpAny (model X.prog X.w) X.A (setItem ov iv u) (fun _ s' => ∃ H', Inv X pins σ H' s' ∧ Q H') X.xe s
/-- a op= b, by values -/
abbrev TIp := V → V → Hp → VK → Prop
def PIp (X : Cx) (op : Operator) (t : TIp) : Prop :=
  ∀ (pins : List (Addr × Obj)) (s : Shared) (σ : St) (H : Hp) (x y : V) (v u : Value) (Q : VK), Inv X pins σ H s → RelV x v → RelV y u → t x y H Q →
    wpAny (model X.prog X.w) X.A (inplaceOp op v u) (EP X pins σ Q) X.xe s
section
variable {X : Cx} {pos : Pos}
def gName (i : Nat) : TG := fun v σ H Q => Q (σ.set i (some v)) H
theorem pg_name {i : Nat} {x : Str} (hN : X.N.Nodup) (hi : X.N[i]? = some x) (hx : Loc X.env.scope x) (hf : X.fn x = true ∨ X.env.scope.names.lookup x = some .local := by first | exact .inl rfl | exact .inr rfl | assumption) : PG X (.Name x pos) (gName i) := by
  intro pins s σ H v u Q I r h
  exact wpAny_assign_Name (store_ok I hN hi hx r (fun s' I' => ⟨_, H, I', h⟩) hf)
def gNil : TGs := fun vs σ H Q => vs = [] ∧ Q σ H
def gCons (t : TG) (u : TGs) : TGs := fun vs σ H Q => ∃ v r, vs = v :: r ∧ t v σ H fun σ' H' => u r σ' H' Q
theorem pgs_nil : PGs X [] gNil := by
  intro pins s σ H vs us Q I r h
  obtain ⟨e, h⟩ := h
  subst e
  cases r
  exact assignInOrder_nil ⟨σ, H, I, h⟩
theorem pgs_cons {e : Expr} {es : List Expr} {t : TG} {u : TGs} (h1 : PG X e t) (h2 : PGs X es u)
    (hs : (assignEach (e :: es) X.env).map (·.2) = assign e X.env :: (assignEach es X.env).map (·.2) := by rfl) : PGs X (e :: es) (gCons t u) := by
  intro pins s σ H vs us Q I r h
  obtain ⟨v, vr, e1, h⟩ := h
  subst e1
  cases r with
  | cons r rr =>
    rw [hs]
    refine assignInOrder_cons (thn (h1 pins s σ H _ _ _ I r h) fun _ s1 ⟨σ1, H1, I1, q1⟩ => ?_)
    exact h2 pins s1 σ1 H1 _ _ Q I1 rr q1
/-- (a, b, ..) = a tuple of that length -/
def gTup (K : PySem.W.Frag) (n : Nat) (t : TGs) : TG := fun v σ H Q => ∃ a xs, v = .ref a ∧ SqT K H a xs ∧ xs.length = n ∧ t xs σ H Q
theorem pg_tup {es : List Expr} {k : Nat} {t : TGs} {n : Nat} (hc : X.calm = true) (h : PGs X es t)
    (hn : (assignEach es X.env).length = n := by rfl) (hst : (assignEach es X.env).findIdx? (·.1) = none := by rfl) : PG X (.Tuple es k pos) (gTup X.K n t) := by
  intro pins s σ H v u Q I r hw
  obtain ⟨a, xs, e1, hq, hl, hw⟩ := hw
  subst e1
  cases r
  obtain ⟨its, rv, ht, hz⟩ := I.tuple hq
  refine assign_Tuple_tuple (I.ok.hd hc) ht (by simp [hn, ← hl, rv.length]) hst fun h' hx => ?_
  have I1 : Inv X pins σ H { s with heap := h' } := I.kept (t' := s.toks) fun b o e => hx b o (Nat.ne_of_lt (Heap.lt_size e)) e
  exact h pins _ σ H xs _ Q I1 (by simpa using rv) hw
/-- o[i] = .. -/
def gSub (to ti : TE) (t : TSet) : TG := fun v σ H Q => to σ H fun o H1 => ti σ H1 fun i H2 => t o i v H2 fun H3 => Q σ H3
theorem pg_sub {o i : Expr} {to ti : TE} {t : TSet} (ho : PE X o to) (hi : PE X i ti) (hs : PSet X t)
    (ha : ∀ v, assign (.Subscript o i pos) X.env v = (do
      let ov ← holding [v] (eval o X.env)
      let iv ← holding [v, ov] (eval i X.env)
      standAt pos
      holding [v, ov, iv] (setItem ov iv v)
      release [v, ov, iv] []) := by intro _; rfl) : PG X (.Subscript o i pos) (gSub to ti t) := by
  intro pins s σ H v u Q I r h
  rw [ha]
  refine wpAny_bind (wpAny_holding (thn (ho pins s σ H _ I h) fun ov s1 ⟨x, H1, I1, r1, q1⟩ => ?_))
  refine wpAny_bind (wpAny_holding (thn (hi pins s1 σ H1 _ I1 q1) fun iv s2 ⟨y, H2, I2, r2, q2⟩ => ?_))
  refine wpAny_bind (wpAny_standAt (wpAny_bind (wpAny_holding (thn (hs pins s2 σ H2 x y v ov iv u _ I2 r1 r2 r q2) fun _ s3 ⟨H3, I3, q3⟩ => ?_))))
  exact wpAny_release ⟨σ, H3, I3, q3⟩
/-- target = value -/
def tAsg (te : TE) (g : TG) : TS := fun D σ H => te σ H fun x H1 => g x σ H1 D.nx
theorem ps_asg {tg e : Expr} {te : TE} {g : TG} (he : PE X e te) (hg : PG X tg g) (hs : swapsWithSole [tg] e pos.line X.env = pure false := by rfl) (hw : swappedStores [tg] e X.env = pure none := by rfl)
    (h1 : (assignEach [tg] X.env).map (·.2) = [assign tg X.env] := by rfl) : PS X (.Assign [tg] e pos) (tAsg te g) := by
  intro pins s σ H D I h
  refine wpAny_Assign_stores (thn (he pins s σ H _ I h) fun v s1 ⟨x, H1, I1, r1, q1⟩ => ?_) hs hw
  rw [h1]
  exact thn (hg pins s1 σ H1 x v _ I1 r1 q1) fun _ s2 q => q
/-- name = value -/
theorem ps_set {i : Nat} {x : Str} {e : Expr} {te : TE} {pos' : Pos} (hN : X.N.Nodup) (hi : X.N[i]? = some x) (hx : Loc X.env.scope x) (he : PE X e te) (hs : swapsWith e (some (.Name x pos')) pos.line X.env = pure false := by rfl) (hf : X.fn x = true ∨ X.env.scope.names.lookup x = some .local := by first | exact .inl rfl | exact .inr rfl | assumption) :
    PS X (.Assign [.Name x pos'] e pos) (tAsg te (gName i)) := by
  intro pins s σ H D I h
  refine wpAny_Assign_Name (thn (he pins s σ H _ I h) fun v s1 ⟨y, H1, I1, r1, q1⟩ => ?_) hs
  exact store_ok I1 hN hi hx r1 (fun s2 I2 => ⟨_, H1, I2, q1⟩) hf
/-- a, b = x, y with plain local names: stored from the right; the pair itself is not tracked (the opening rows as in PyProof/Rows/TupAssign.lean:23) -/
def tPar (i j : Nat) (ta : TA) : TS := fun D σ H => ta σ H fun vs H1 => ∃ v w, vs = [v, w] ∧ D.nx ((σ.set i (some v)).set j (some w)) H1
/-- name op= e -/
def tAug (i : Nat) (te : TE) (ti : TIp) : TS := fun D σ H => ∃ x, σ[i]? = some (some x) ∧ te σ H fun y H1 => ti x y H1 fun z H2 => D.nx (σ.set i (some z)) H2
/-- o[i] op= e -/
def tAugS (to ti te : TE) (tget : V → V → Hp → VK → Prop) (tip : TIp) (tset : TSet) : TS := fun D σ H => to σ H fun o H1 => ti σ H1 fun i H2 => tget o i H2 fun x H3 => te σ H3 fun y H4 => tip x y H4 fun z H5 => tset o i z H5 fun H6 => D.nx σ H6
/-- o[i], by values -/
def PGet (X : Cx) (t : V → V → Hp → VK → Prop) : Prop :=
  ∀ (pins : List (Addr × Obj)) (s : Shared) (σ : St) (H : Hp) (o i : V) (ov iv : Value) (Q : VK), Inv X pins σ H s → RelV o ov → RelV i iv → t o i H Q →
    wpAny (model X.prog X.w) X.A (getItem ov iv) (EP X pins σ Q) X.xe s
/-- ints -/
def ipI (f : Int → Int → Int) : TIp := fun x y H Q => ∃ i j, x = .int i ∧ y = .int j ∧ Q (.int (f i j)) H
end

/-! ### while -/
section
variable {X : Cx} {pos : Pos}
/-- the invariant W with its measure -/
def tWhile (c : TT) (tb : TS) : TS := fun D σ H => ∃ W : Nat → St → Hp → Prop, (∃ m, W m σ H) ∧ ∀ m σ H, W m σ H →
  c σ H fun b H1 => if b = true then ∃ N : St → Hp → Prop, (∀ σ' H', N σ' H' → ∃ m', m' < m ∧ W m' σ' H') ∧ tb { D with nx := N, ct := N, bk := D.nx } σ H1 else D.nx σ H1
theorem ps_while {c : Expr} {body : List Stmt} {tc : TT} {tb : TS} (hp : PassesOwn (model X.prog X.w) X.A X.env X.xe) (hc : PT X c tc) (hb : PSs X body tb) : PS X (.While c body [] pos) (tWhile tc tb) := by
  intro pins s σ H D I h
  obtain ⟨W, ⟨m0, w0⟩, turn⟩ := h
  refine wpAny_While (codeAny_whileLoop (fun n s' => ∃ σ' H', Inv X pins σ' H' s' ∧ W n σ' H') ?_ m0 ⟨σ, H, I, w0⟩)
  rintro n s1 ⟨σ1, H1, I1, w1⟩
  refine wpAny_passesOwn hp (thn (hc pins s1 σ1 H1 _ I1 (turn n σ1 H1 w1)) fun b s2 ⟨H2, I2, q2⟩ => ?_)
  cases b with
  | true =>
    obtain ⟨N, hN, q2⟩ := q2
    rw [if_pos rfl]
    refine wpAny_passesOwn hp (thn (hb pins s2 σ1 H2 _ I2 q2) fun f s3 q3 => ?_)
    cases f with
    | next =>
      obtain ⟨σ3, H3, I3, n3⟩ := q3
      obtain ⟨m', hm, w3⟩ := hN σ3 H3 n3
      exact ⟨m', hm, σ3, H3, I3, w3⟩
    | cont =>
      obtain ⟨σ3, H3, I3, n3⟩ := q3
      obtain ⟨m', hm, w3⟩ := hN σ3 H3 n3
      exact ⟨m', hm, σ3, H3, I3, w3⟩
    | brk => exact q3
    | ret v => exact q3
  | false =>
    rw [if_neg Bool.false_ne_true]
    exact wpAny_execs_nil ⟨σ1, H2, I2, q2⟩
end

/-! ### what a loop or a comprehension walks -/
/-- at turn i: it yields x (the heap may grow), or it stops -/
structure It where
  go : Nat → Hp → Prop
  yld : Nat → Hp → V → Hp → Prop
  stop : Nat → Hp → Prop
/-- the iterator's own objects may turn: they are not the frame's, not pinned, younger than the entry (or a comprehension's own) -/
def FpOk (X : Cx) (pins : List (Addr × Obj)) (H : Hp) (b : Addr) : Prop :=
  H b = none ∧ b ≠ X.env.locals ∧ b ∉ X.fs ∧ (b ∈ X.ex ∨ X.s₀.heap.objs.size ≤ b) ∧ (∀ x c, X.env.cells.lookup x = some c → c ≠ b) ∧ ∀ p ∈ X.pn ++ pins, p.1 ≠ b
theorem Inv.fpOk {X : Cx} {pins : List (Addr × Obj)} {σ : St} {H H' : Hp} {s : Shared} {b : Addr} (I : Inv X pins σ H s) (hb : s.heap.objs.size ≤ b) (hn : H' b = none) : FpOk X pins H' b := by
  refine ⟨hn, Nat.ne_of_gt (Nat.lt_of_lt_of_le I.lt hb), I.nofs hb, .inr (Nat.le_trans I.sz hb), fun x c e z => ?_, fun p hp z => ?_⟩
  · obtain ⟨v, q⟩ := I.cell x c e
    exact absurd (Nat.lt_of_lt_of_le q.lt (by rw [z]; exact hb)) (Nat.lt_irrefl _)
  · exact absurd (Nat.lt_of_lt_of_le (Heap.lt_size (I.pin p hp).1) (by rw [z]; exact hb)) (Nat.lt_irrefl _)
structure Turn (P : Program) (w : World) (K : PySem.W.Frag) (tg : Expr) (J : It) (fp : List Addr) (it : Addr) (tn : Nat → Heap → Prop) : Prop where
  mem : it ∈ fp
  obj : ∀ i h, tn i h → ∀ b ∈ fp, ∃ o, h.get? b = some o ∧ ∀ v, o.data ≠ .cell v
  keep : ∀ i h h', tn i h → (∀ b ∈ fp, ∀ o, h.get? b = some o → h'.get? b = some o) → tn i h'
  item : ∀ (X : Cx), X.prog = P → X.w = w → X.K = K → X.calm = true → ∀ (i : Nat) (pins : List (Addr × Obj)) (s : Shared) (σ : St) (H : Hp) (E : Value → Shared → Prop), Inv X pins σ H s → (∀ b ∈ fp, FpOk X pins H b) → tn i s.heap → J.go i H →
    wpAny (model P w) X.A (pyNext (.ref it)) (fun r s1 => ∃ u, r = some u ∧
      wpAny (model P w) X.A (letOwnedTupleGo tg (.ref it) u) (fun _ s2 => ∃ x H', Inv X pins σ H' s2 ∧ RelV x u ∧ J.yld i H x H' ∧ tn (i + 1) s2.heap ∧ ∀ b ∈ fp, H' b = none) E s1) E s
  done : ∀ (X : Cx), X.prog = P → X.w = w → X.K = K → X.calm = true → ∀ (i : Nat) (pins : List (Addr × Obj)) (s : Shared) (σ : St) (H : Hp) (E : Value → Shared → Prop), Inv X pins σ H s → (∀ b ∈ fp, FpOk X pins H b) → tn i s.heap → J.stop i H →
    wpAny (model P w) X.A (pyNext (.ref it)) (fun r s1 => r = none ∧ Inv X pins σ H s1) E s
  self : ∀ (A : Around) (i : Nat) (s : Shared) (Q : Value → Shared → Prop) (E : Value → Shared → Prop), tn i s.heap → Q (.ref it) s → wpAny (model P w) A (pyIter (.ref it)) Q E s
abbrev TI := St → Hp → (It → Hp → Prop) → Prop
/-- an iterator has come -/
def PIE (X : Cx) (pins : List (Addr × Obj)) (σ : St) (tg : Expr) (R : It → Hp → Prop) (itv : Value) (s2 : Shared) : Prop :=
  ∃ (it : Addr) (fp : List Addr) (tn : Nat → Heap → Prop) (J : It) (H' : Hp), itv = .ref it ∧ Inv X pins σ H' s2 ∧ Turn X.prog X.w X.K tg J fp it tn ∧ tn 0 s2.heap ∧ (∀ b ∈ fp, FpOk X pins H' b) ∧ R J H'
def PI (X : Cx) (tg iter : Expr) (wi : TI) : Prop :=
  ∀ (pins : List (Addr × Obj)) (s : Shared) (σ : St) (H : Hp) (R : It → Hp → Prop), Inv X pins σ H s → wi σ H R →
    wpAny (model X.prog X.w) X.A (eval iter X.env) (fun v s1 => wpAny (model X.prog X.w) X.A (pyIter v) (PIE X pins σ tg R) X.xe s1) X.xe s

/-- the step ahead of the store is nothing for an iterator that keeps no tuple -/
theorem go_of {M : Model} {A : Around} {E : Value → Shared → Prop} {s : Shared} {tg : Expr} {it : Addr} {u : Value} {o : Obj} {n : String} {vs : Array Value} {Q : Unit → Shared → Prop} (ho : s.heap.get? it = some o) (hc : o.cls = .type n) (hd : o.data = .fields vs)
    (hn : ["enumerate", "zip", "dict_itemiterator", "dict_reverseitemiterator", "odict_iterator", "itertools.zip_longest", "itertools.pairwise"].contains n = false) (hQ : Q () s) : wpAny M A (letOwnedTupleGo tg (.ref it) u) Q E s := by
  unfold letOwnedTupleGo
  cases tg <;> first
    | exact wpAny_pure hQ
    | (cases u <;> first
        | exact wpAny_pure hQ
        | (refine wpAny_bind (wpAny_load ho ?_)
           rw [hc, hd]
           show wpAny M A (if (["enumerate", "zip", "dict_itemiterator", "dict_reverseitemiterator", "odict_iterator", "itertools.zip_longest", "itertools.pairwise"].contains n && vs[0]? == some (rawInt _)) = true then _ else _) Q E s
           rw [if_neg (by intro h; rw [hn, Bool.false_and] at h; cases h)]
           exact wpAny_pure hQ))

/-- the list at a, as it stands at each turn (a loop may append to it) -/
def Itl (K : PySem.W.Frag) (a : Addr) : It :=
  ⟨fun i H => ∃ xs x, SqL K H a xs ∧ xs[i]? = some x, fun i H x H' => H' = H ∧ ∀ xs, SqL K H a xs → xs[i]? = some x, fun i H => ∃ xs, SqL K H a xs ∧ xs.length ≤ i⟩
def Itt (K : PySem.W.Frag) (a : Addr) : It :=
  ⟨fun i H => ∃ xs x, SqT K H a xs ∧ xs[i]? = some x, fun i H x H' => H' = H ∧ ∀ xs, SqT K H a xs → xs[i]? = some x, fun i H => ∃ xs, SqT K H a xs ∧ xs.length ≤ i⟩
/-- lo, lo + 1, .. (n of them) -/
def Itr (lo : Int) (n : Nat) : It := ⟨fun i _ => i < n, fun i H x H' => H' = H ∧ x = .int (lo + i), fun i _ => n ≤ i⟩
theorem turn_list {P : Program} {w : World} {K : PySem.W.Frag} {tg : Expr} (a it : Addr) : Turn P w K tg (Itl K a) [it] it (fun i h => h.IsListIter it a i) where
  mem := by simp
  obj := fun i h st b hb => by
    have e : b = it := by simpa using hb
    subst e
    obtain ⟨o, e, c, d⟩ := st
    exact ⟨o, e, fun v z => by rw [d] at z; cases z⟩
  keep := fun i h h' st k => st.at fun o e => k it (by simp) o e
  item := by
    intro X hP hw hK hc i pins s σ H E I hf st hg
    subst hP hw hK
    obtain ⟨xs, x, hq, hx⟩ := hg
    obtain ⟨its, rv, p, hz⟩ := I.list hq
    obtain ⟨u, hu, ru⟩ := rv.get hx
    obtain ⟨f0, f1, f2, f3, f4, f5⟩ := hf it (by simp)
    refine wpAny_pyNext_list_item st p.isList (x := u) (by simpa using hu) fun h' st' sb => ?_
    have I1 : Inv X pins σ H { s with heap := h' } := I.turned (t' := s.toks) (fun b o hb e => (sb.2 b hb).trans e) f0 f1 f3 f4 f5
    obtain ⟨o, e, c, d⟩ := id st'
    exact ⟨u, rfl, go_of (s := { s with heap := h' }) e c d (by decide) ⟨x, H, I1, ru, ⟨rfl, fun ys hy => by rw [I.list_inj hy hq]; exact hx⟩, st', fun b hb => (hf b hb).1⟩⟩
  done := by
    intro X hP hw hK hc i pins s σ H E I hf st hg
    subst hP hw hK
    obtain ⟨xs, hq, hx⟩ := hg
    obtain ⟨its, rv, p, hz⟩ := I.list hq
    obtain ⟨f0, f1, f2, f3, f4, f5⟩ := hf it (by simp)
    have hl := rv.length
    exact wpAny_pyNext_list_end (I.ok.hd hc) st p.isList (by simp; omega) fun h' eb => ⟨rfl, I.turned (t' := s.toks) (fun b o hb e => eb b o hb e) f0 f1 f3 f4 f5⟩
  self := fun _ _ _ _ _ st h => wpAny_pyIter_listiter st h
theorem turn_tuple {P : Program} {w : World} {K : PySem.W.Frag} {tg : Expr} (a it : Addr) : Turn P w K tg (Itt K a) [it] it (fun i h => h.IsTupleIter it a i) where
  mem := by simp
  obj := fun i h st b hb => by
    have e : b = it := by simpa using hb
    subst e
    obtain ⟨o, e, c, d⟩ := st
    exact ⟨o, e, fun v z => by rw [d] at z; cases z⟩
  keep := fun i h h' st k => st.at fun o e => k it (by simp) o e
  item := by
    intro X hP hw hK hc i pins s σ H E I hf st hg
    subst hP hw hK
    obtain ⟨xs, x, hq, hx⟩ := hg
    obtain ⟨its, rv, p, hz⟩ := I.tuple hq
    obtain ⟨u, hu, ru⟩ := rv.get hx
    obtain ⟨f0, f1, f2, f3, f4, f5⟩ := hf it (by simp)
    refine wpAny_pyNext_tuple_item st (show s.heap.IsTuple a its.toArray from p) (x := u) (by simpa using hu) fun h' st' sb => ?_
    have I1 : Inv X pins σ H { s with heap := h' } := I.turned (t' := s.toks) (fun b o hb e => (sb.2 b hb).trans e) f0 f1 f3 f4 f5
    obtain ⟨o, e, c, d⟩ := id st'
    exact ⟨u, rfl, go_of (s := { s with heap := h' }) e c d (by decide) ⟨x, H, I1, ru, ⟨rfl, fun ys hy => by rw [I.tuple_inj hy hq]; exact hx⟩, st', fun b hb => (hf b hb).1⟩⟩
  done := by
    intro X hP hw hK hc i pins s σ H E I hf st hg
    subst hP hw hK
    obtain ⟨xs, hq, hx⟩ := hg
    obtain ⟨its, rv, p, hz⟩ := I.tuple hq
    obtain ⟨f0, f1, f2, f3, f4, f5⟩ := hf it (by simp)
    have hl := rv.length
    exact wpAny_pyNext_tuple_end (I.ok.hd hc) st (show s.heap.IsTuple a its.toArray from p) (by simp; omega) fun h' eb => ⟨rfl, I.turned (t' := s.toks) (fun b o hb e => eb b o hb e) f0 f1 f3 f4 f5⟩
  self := fun _ _ _ _ _ st h => wpAny_pyIter_tupleiter st h
theorem turn_range {P : Program} {w : World} {K : PySem.W.Frag} {tg : Expr} (it : Addr) (lo : Int) (n : Nat) : Turn P w K tg (Itr lo n) [it] it (fun i h => IsRangeIter h it (lo + (i : Nat) * 1) ((n : Int) - (i : Nat)) 1) where
  mem := by simp
  obj := fun i h st b hb => by
    have e : b = it := by simpa using hb
    subst e
    exact ⟨_, st, fun v z => by
      have z' : Data.fields _ = Data.cell v := z
      cases z'⟩
  keep := fun i h h' st k => k it (by simp) _ st
  item := by
    intro X hP hw hK hc i pins s σ H E I hf st hg
    subst hP hw hK
    obtain ⟨f0, f1, f2, f3, f4, f5⟩ := hf it (by simp)
    have W := Walks.range (prog := X.prog) (w := X.w) (I.ok.hd hc) it lo 1 n
    refine W.item i s _ _ hg st fun v h' tk hv st' kk => ?_
    obtain ⟨t, rfl⟩ := hv
    have I1 : Inv X pins σ H { s with heap := h', toks := tk } := I.turned (fun b o hb e => kk b o (by simpa using hb) e) f0 f1 f3 f4 f5
    refine ⟨_, rfl, go_of (s := { s with heap := h', toks := tk }) (n := "range_iterator") st' rfl rfl (by decide) ⟨.int (lo + i), H, I1, ⟨t, ?_⟩, ⟨rfl, rfl⟩, st', fun b hb => (hf b hb).1⟩⟩
    rw [Int.mul_one]
  done := by
    intro X hP hw hK hc i pins s σ H E I hf st hg
    subst hP hw hK
    obtain ⟨f0, f1, f2, f3, f4, f5⟩ := hf it (by simp)
    exact wpAny_pyNext_range_end (I.ok.hd hc) st (by have : n ≤ i := hg; omega) fun h' eb => ⟨rfl, I.turned (t' := s.toks) (fun b o hb e => eb b o hb e) f0 f1 f3 f4 f5⟩
  self := fun _ _ _ _ _ st h => wpAny_pyIter_rangeiter st h
end L2

namespace L2
open PySem PySem.Spec PyProof.Rows
section
variable {X : Cx} {tg : Expr}
def iList (K : PySem.W.Frag) (tl : TE) : TI := fun σ H R => tl σ H fun x H1 => ∃ a, x = .ref a ∧ (∃ xs, SqL K H1 a xs) ∧ R (Itl K a) H1
def iTup (K : PySem.W.Frag) (tl : TE) : TI := fun σ H R => tl σ H fun x H1 => ∃ a, x = .ref a ∧ (∃ xs, SqT K H1 a xs) ∧ R (Itt K a) H1
theorem pi_list {l : Expr} {tl : TE} (hl : PE X l tl) : PI X tg l (iList X.K tl) := by
  intro pins s σ H R I h
  refine thn (hl pins s σ H _ I h) fun v s1 ⟨x, H1, I1, r1, q1⟩ => ?_
  obtain ⟨a, e, ⟨xs, hq⟩, q⟩ := q1
  subst e
  cases r1
  obtain ⟨its, rv, p, hz⟩ := I1.list hq
  refine wpAny_pyIter_list p.isList ?_
  refine ⟨s1.heap.objs.size, [s1.heap.objs.size], _, _, H1, rfl, I1.kept (t' := s1.toks) fun b o e => Heap.get?_push_of_some _ e, turn_list a _, ⟨_, Heap.get?_push_size _ rfl, rfl, rfl⟩, fun b hb => ?_, q⟩
  have e : b = s1.heap.objs.size := by simpa using hb
  subst e
  exact I1.fpOk (Nat.le_refl _) (I1.hok.fresh (Nat.le_refl _))
theorem pi_tup {l : Expr} {tl : TE} (hl : PE X l tl) : PI X tg l (iTup X.K tl) := by
  intro pins s σ H R I h
  refine thn (hl pins s σ H _ I h) fun v s1 ⟨x, H1, I1, r1, q1⟩ => ?_
  obtain ⟨a, e, ⟨xs, hq⟩, q⟩ := q1
  subst e
  cases r1
  obtain ⟨its, rv, p, hz⟩ := I1.tuple hq
  refine wpAny_pyIter_tuple (show s1.heap.IsTuple a its.toArray from p) ?_
  refine ⟨s1.heap.objs.size, [s1.heap.objs.size], _, _, H1, rfl, I1.kept (t' := s1.toks) fun b o e => Heap.get?_push_of_some _ e, turn_tuple a _, ⟨_, Heap.get?_push_size _ rfl, rfl, rfl⟩, fun b hb => ?_, q⟩
  have e : b = s1.heap.objs.size := by simpa using hb
  subst e
  exact I1.fpOk (Nat.le_refl _) (I1.hok.fresh (Nat.le_refl _))
/-- a range object just made, walked -/
theorem range_it {pins : List (Addr × Obj)} {σ : St} {H : Hp} {s : Shared} {R : It → Hp → Prop} {E : Value → Shared → Prop} {lo hi : Int} {t u v : Tok} {tk : Nat} (I : Inv X pins σ H s) (h1 : -(2 ^ 62) ≤ lo) (h2 : lo < 2 ^ 62) (h3 : -(2 ^ 62) ≤ hi) (h4 : hi < 2 ^ 62)
    (q : R (Itr lo (hi - lo).toNat) H) : wpAny (model X.prog X.w) X.A (pyIter (.ref s.heap.objs.size)) (PIE X pins σ tg R) E { s with heap := s.heap.push { cls := .type "range", data := .fields #[.int lo t, .int hi u, .int 1 v] }, toks := tk } := by
  refine wpAny_pyIter_range (IsRange.new ..) (small_one h1 h2 h3 h4) ?_
  have I1 : Inv X pins σ H { s with heap := s.heap.push { cls := .type "range", data := .fields #[.int lo t, .int hi u, .int 1 v] }, toks := tk } := I.kept fun b o e => Heap.get?_push_of_some _ e
  refine ⟨(s.heap.push { cls := .type "range", data := .fields #[.int lo t, .int hi u, .int 1 v] }).objs.size, [(s.heap.push { cls := .type "range", data := .fields #[.int lo t, .int hi u, .int 1 v] }).objs.size], _, _, H, rfl,
    I1.kept (t' := tk) fun b o e => Heap.get?_push_of_some _ e, turn_range _ lo (hi - lo).toNat, ?_, fun b hb => ?_, q⟩
  · have e1 : lo + ((0 : Nat) : Int) * 1 = lo := by simp
    have e2 : (((hi - lo).toNat : Nat) : Int) - ((0 : Nat) : Int) = Builtin.Range.rangeSize lo hi 1 := by rw [rangeSize_one]; split <;> omega
    show IsRangeIter _ _ (lo + ((0 : Nat) : Int) * 1) ((((hi - lo).toNat : Nat) : Int) - ((0 : Nat) : Int)) 1
    rw [e1, e2]
    exact Heap.get?_push_size _ rfl
  · have e : b = (s.heap.push { cls := .type "range", data := .fields #[.int lo t, .int hi u, .int 1 v] }).objs.size := by simpa using hb
    subst e
    exact I1.fpOk (Nat.le_refl _) (I1.hok.fresh (Nat.le_refl _))
def iRng1 (ta : TA) : TI := fun σ H R => ta σ H fun vs H1 => ∃ j : Int, vs = [.int j] ∧ -(2 ^ 62) ≤ j ∧ j < 2 ^ 62 ∧ R (Itr 0 j.toNat) H1
def iRng2 (ta : TA) : TI := fun σ H R => ta σ H fun vs H1 => ∃ i j : Int, vs = [.int i, .int j] ∧ (-(2 ^ 62) ≤ i ∧ i < 2 ^ 62 ∧ -(2 ^ 62) ≤ j ∧ j < 2 ^ 62) ∧ R (Itr i (j - i).toNat) H1
theorem pi_range1 {a : Expr} {ta : TA} {p pos : Pos} (hg : Gl X "range") (hm : X.mg "range" = none) (ha : PA X [a] ta) (hs : starEach [a] X.env = [(false, eval a X.env)] := by rfl) : PI X tg (.Call (.Name "range" p) [a] [] pos) (iRng1 ta) := by
  intro pins s σ H R I h
  refine Call_ (ld_blt I hg hm boot_range (PyProof.Rows.callWith_type1 (thn (ha pos pins s σ H _ I h) fun us s1 ⟨vs, H1, I1, r1, q1⟩ => ?_) hs rfl))
  obtain ⟨j, e, q1, q2, q⟩ := q1
  subst e
  cases r1 with
  | cons r rr =>
    cases rr
    obtain ⟨t, rfl⟩ := r
    exact call_range_1 (range_it I1 (by omega) (by omega) q1 q2 (by simpa using q))

/-! ### for -/
/-- W: the invariant by the turn and a measure; N: what the body is to reach -/
def tFor (wi : TI) (g : TG) (tb : TS) : TS := fun D σ H => wi σ H fun J H1 => ∃ W : Nat → Nat → St → Hp → Prop, (∃ m, W 0 m σ H1) ∧ ∀ i m σ H, W i m σ H →
  (J.stop i H ∧ D.nx σ H) ∨ (J.go i H ∧ ∃ N : St → Hp → Prop, (∀ σ' H', N σ' H' → ∃ m', m' < m ∧ W (i + 1) m' σ' H') ∧ ∀ x H', J.yld i H x H' → g x σ H' fun σ2 H2 => tb { D with nx := N, ct := N, bk := D.nx } σ2 H2)
/-- the records at fp as they stand -/
def pinsAt (fp : List Addr) (h : Heap) : List (Addr × Obj) := fp.filterMap fun b => (h.get? b).map fun o => (b, o)
theorem mem_pinsAt {fp : List Addr} {h : Heap} {b : Addr} {o : Obj} (hb : b ∈ fp) (e : h.get? b = some o) : (b, o) ∈ pinsAt fp h := List.mem_filterMap.mpr ⟨b, hb, by rw [e]; rfl⟩
theorem of_pinsAt {fp : List Addr} {h : Heap} {p : Addr × Obj} (hp : p ∈ pinsAt fp h) : p.1 ∈ fp ∧ h.get? p.1 = some p.2 := by
  obtain ⟨b, hb, e⟩ := List.mem_filterMap.mp hp
  cases q : h.get? b with
  | none => rw [q] at e; cases e
  | some o =>
    rw [q] at e
    have e' : (b, o) = p := Option.some.inj e
    subst e'
    exact ⟨hb, q⟩
theorem Inv.pinned {pins : List (Addr × Obj)} {σ : St} {H : Hp} {s : Shared} {fp : List Addr} (I : Inv X pins σ H s) (hf : ∀ b ∈ fp, FpOk X pins H b) (ho : ∀ b ∈ fp, ∃ o, s.heap.get? b = some o ∧ ∀ v, o.data ≠ .cell v) : Inv X (pins ++ pinsAt fp s.heap) σ H s :=
  I.pins_of fun p hp => (List.mem_append.mp hp).elim (fun z => I.pin p (List.mem_append_right _ z)) fun z => by
    obtain ⟨hb, e⟩ := of_pinsAt z
    obtain ⟨f0, f1, f2, _⟩ := hf p.1 hb
    obtain ⟨o, e', d⟩ := ho p.1 hb
    rw [e] at e'; cases e'
    exact ⟨e, f0, f1, f2, d⟩
theorem Inv.unpinned {pins pl : List (Addr × Obj)} {σ : St} {H : Hp} {s : Shared} (I : Inv X (pins ++ pl) σ H s) : Inv X pins σ H s := I.pins_of fun p hp => I.pin p (List.mem_append_right _ (List.mem_append_left _ hp))
theorem ps_for {iter : Expr} {body : List Stmt} {wi : TI} {g : TG} {tb : TS} {pos : Pos} (hp : PassesOwn (model X.prog X.w) X.A X.env X.xe) (hc : X.calm = true) (hi : PI X tg iter wi) (hg : PG X tg g) (hb : PSs X body tb)
    (hs : ∀ x, foldedSetIterable iter X.env x = pure x := by intro _; rfl) : PS X (.For tg iter body [] pos) (tFor wi g tb) := by
  intro pins s σ H D I h
  refine wpAny_For (thn (hi pins s σ H _ I h) fun v s1 h1 => thn h1 fun itv s2 h2 => ?_) hs
  obtain ⟨it, fp, tn, J, H2, e, I2, T, st2, f2, W, ⟨m0, w0⟩, turn⟩ := h2
  subst e
  -- what stays true of the iterator's objects through the loop
  have stat : ∀ {H' : Hp}, (∀ b ∈ fp, H' b = none) → ∀ b ∈ fp, FpOk X pins H' b := fun hn b hb => ⟨hn b hb, (f2 b hb).2⟩
  refine codeAny_forLoop_any (fun n s' => ∃ i σ' H', Inv X pins σ' H' s' ∧ tn i s'.heap ∧ (∀ b ∈ fp, H' b = none) ∧ W i n σ' H') ?_ m0 ⟨0, σ, H2, I2, st2, fun b hb => (f2 b hb).1, w0⟩
  rintro n s3 ⟨i, σ3, H3, I3, st3, fr3, w3⟩
  rcases turn i n σ3 H3 w3 with ⟨stop, qn⟩ | ⟨go, N, hN, step⟩
  · refine wpAny_passesOwn hp (thn (T.done X rfl rfl rfl hc i pins s3 σ3 H3 X.xe I3 (stat fr3) st3 stop) fun r s4 ⟨hr, I4⟩ => ?_)
    subst hr
    exact wpAny_execs_nil ⟨σ3, H3, I4, qn⟩
  · refine wpAny_passesOwn hp (thn (T.item X rfl rfl rfl hc i pins s3 σ3 H3 X.xe I3 (stat fr3) st3 go) fun r s4 ⟨u, hr, h4⟩ => ?_)
    subst hr
    refine wpAny_passesOwn hp (thn h4 fun _ s5 ⟨x, H5, I5, r5, y5, st5, fr5⟩ => ?_)
    have I5' := I5.pinned (stat fr5) (T.obj _ _ st5)
    refine wpAny_passesOwn hp (thn (hg _ s5 σ3 H5 x u _ I5' r5 (step x H5 y5)) fun _ s6 ⟨σ6, H6, I6, q6⟩ => ?_)
    refine wpAny_passesOwn hp (thn (hb _ s6 σ6 H6 _ I6 q6) fun f s7 q7 => ?_)
    have again : ∀ {σ7 : St} {H7 : Hp}, Inv X (pins ++ pinsAt fp s5.heap) σ7 H7 s7 → N σ7 H7 → ∃ m, m < n ∧ ∃ i σ' H', Inv X pins σ' H' s7 ∧ tn i s7.heap ∧ (∀ b ∈ fp, H' b = none) ∧ W i m σ' H' := fun {σ7 H7} I7 n7 => by
      obtain ⟨m', hm, w7⟩ := hN σ7 H7 n7
      refine ⟨m', hm, i + 1, σ7, H7, I7.unpinned, T.keep _ _ _ st5 fun b hb o e => (I7.pin (b, o) (List.mem_append_right _ (List.mem_append_right _ (mem_pinsAt hb e)))).1, fun b hb => ?_, w7⟩
      obtain ⟨o, e, d⟩ := T.obj _ _ st5 b hb
      exact (I7.pin (b, o) (List.mem_append_right _ (List.mem_append_right _ (mem_pinsAt hb e)))).2.1
    cases f with
    | next => obtain ⟨σ7, H7, I7, n7⟩ := q7; exact again I7 n7
    | cont => obtain ⟨σ7, H7, I7, n7⟩ := q7; exact again I7 n7
    | brk => obtain ⟨σ7, H7, I7, q7⟩ := q7; exact ⟨σ7, H7, I7.unpinned, q7⟩
    | ret v => obtain ⟨x7, σ7, H7, I7, r7, q7⟩ := q7; exact ⟨x7, σ7, H7, I7.unpinned, r7, q7⟩
end

/-! ### the forms one uses -/
/-- over a list that the body leaves as it is -/
theorem for_list {K : PySem.W.Frag} {a : Addr} {xs : List V} {g : TG} {tb : TS} {D : Ends} {σ : St} {H : Hp} (Pv : Nat → St → Hp → Prop) (h0 : Pv 0 σ H) (hl : ∀ i σ H, i ≤ xs.length → Pv i σ H → SqL K H a xs)
    (hs : ∀ i x σ H, xs[i]? = some x → Pv i σ H → g x σ H fun σ2 H2 => tb { D with nx := Pv (i + 1), ct := Pv (i + 1), bk := D.nx } σ2 H2) (hd : ∀ σ H, Pv xs.length σ H → D.nx σ H) :
    ∃ W : Nat → Nat → St → Hp → Prop, (∃ m, W 0 m σ H) ∧ ∀ i m σ H, W i m σ H →
      ((Itl K a).stop i H ∧ D.nx σ H) ∨ ((Itl K a).go i H ∧ ∃ N : St → Hp → Prop, (∀ σ' H', N σ' H' → ∃ m', m' < m ∧ W (i + 1) m' σ' H') ∧ ∀ x H', (Itl K a).yld i H x H' → g x σ H' fun σ2 H2 => tb { D with nx := N, ct := N, bk := D.nx } σ2 H2) := by
  refine ⟨fun i m σ H => m = xs.length - i ∧ i ≤ xs.length ∧ Pv i σ H, ⟨xs.length, by simp, Nat.zero_le _, h0⟩, ?_⟩
  rintro i m σ H ⟨rfl, hi, p⟩
  have q := hl i σ H hi p
  by_cases hlt : i < xs.length
  · refine .inr ⟨⟨xs, xs[i], q, by simp [hlt]⟩, Pv (i + 1), fun σ' H' p' => ⟨xs.length - (i + 1), by omega, rfl, hlt, p'⟩, fun x H' y => ?_⟩
    obtain ⟨e, y⟩ := y
    subst e
    exact hs i x σ _ (y xs q) p
  · have e : i = xs.length := by omega
    subst e
    exact .inl ⟨⟨xs, q, Nat.le_refl _⟩, hd σ H p⟩
theorem for_tup {K : PySem.W.Frag} {a : Addr} {xs : List V} {g : TG} {tb : TS} {D : Ends} {σ : St} {H : Hp} (Pv : Nat → St → Hp → Prop) (h0 : Pv 0 σ H) (hl : ∀ i σ H, i ≤ xs.length → Pv i σ H → SqT K H a xs)
    (hs : ∀ i x σ H, xs[i]? = some x → Pv i σ H → g x σ H fun σ2 H2 => tb { D with nx := Pv (i + 1), ct := Pv (i + 1), bk := D.nx } σ2 H2) (hd : ∀ σ H, Pv xs.length σ H → D.nx σ H) :
    ∃ W : Nat → Nat → St → Hp → Prop, (∃ m, W 0 m σ H) ∧ ∀ i m σ H, W i m σ H →
      ((Itt K a).stop i H ∧ D.nx σ H) ∨ ((Itt K a).go i H ∧ ∃ N : St → Hp → Prop, (∀ σ' H', N σ' H' → ∃ m', m' < m ∧ W (i + 1) m' σ' H') ∧ ∀ x H', (Itt K a).yld i H x H' → g x σ H' fun σ2 H2 => tb { D with nx := N, ct := N, bk := D.nx } σ2 H2) := by
  refine ⟨fun i m σ H => m = xs.length - i ∧ i ≤ xs.length ∧ Pv i σ H, ⟨xs.length, by simp, Nat.zero_le _, h0⟩, ?_⟩
  rintro i m σ H ⟨rfl, hi, p⟩
  have q := hl i σ H hi p
  by_cases hlt : i < xs.length
  · refine .inr ⟨⟨xs, xs[i], q, by simp [hlt]⟩, Pv (i + 1), fun σ' H' p' => ⟨xs.length - (i + 1), by omega, rfl, hlt, p'⟩, fun x H' y => ?_⟩
    obtain ⟨e, y⟩ := y
    subst e
    exact hs i x σ _ (y xs q) p
  · have e : i = xs.length := by omega
    subst e
    exact .inl ⟨⟨xs, q, Nat.le_refl _⟩, hd σ H p⟩
theorem for_range {lo : Int} {n : Nat} {g : TG} {tb : TS} {D : Ends} {σ : St} {H : Hp} (Pv : Nat → St → Hp → Prop) (h0 : Pv 0 σ H)
    (hs : ∀ i σ H, i < n → Pv i σ H → g (.int (lo + i)) σ H fun σ2 H2 => tb { D with nx := Pv (i + 1), ct := Pv (i + 1), bk := D.nx } σ2 H2) (hd : ∀ σ H, Pv n σ H → D.nx σ H) :
    ∃ W : Nat → Nat → St → Hp → Prop, (∃ m, W 0 m σ H) ∧ ∀ i m σ H, W i m σ H →
      ((Itr lo n).stop i H ∧ D.nx σ H) ∨ ((Itr lo n).go i H ∧ ∃ N : St → Hp → Prop, (∀ σ' H', N σ' H' → ∃ m', m' < m ∧ W (i + 1) m' σ' H') ∧ ∀ x H', (Itr lo n).yld i H x H' → g x σ H' fun σ2 H2 => tb { D with nx := N, ct := N, bk := D.nx } σ2 H2) := by
  refine ⟨fun i m σ H => m = n - i ∧ i ≤ n ∧ Pv i σ H, ⟨n, by simp, Nat.zero_le _, h0⟩, ?_⟩
  rintro i m σ H ⟨rfl, hi, p⟩
  by_cases hlt : i < n
  · refine .inr ⟨hlt, Pv (i + 1), fun σ' H' p' => ⟨n - (i + 1), by omega, rfl, hlt, p'⟩, fun x H' y => ?_⟩
    obtain ⟨e, y⟩ := y
    subst e y
    exact hs i σ _ hlt p
  · have e : i = n := by omega
    subst e
    exact .inl ⟨Nat.le_refl _, hd σ H p⟩
end L2

namespace L2
open PySem PySem.Spec PyProof.Rows

abbrev R2 := V → V → Hp → VK → Prop
/-- a two-place operation on values: f is binaryOp op, inplaceOp op or compareOp op -/
def OpR (X : Cx) (f : Value → Value → Sem Value) (r : R2) : Prop :=
  ∀ (pins : List (Addr × Obj)) (s : Shared) (σ : St) (H : Hp) (x y : V) (v u : Value) (Q : VK), Inv X pins σ H s → RelV x v → RelV y u → r x y H Q →
    wpAny (model X.prog X.w) X.A (f v u) (EP X pins σ Q) X.xe s
/-- a one-place operation -/
def UnR (X : Cx) (f : Value → Sem Value) (r : V → Hp → VK → Prop) : Prop :=
  ∀ (pins : List (Addr × Obj)) (s : Shared) (σ : St) (H : Hp) (x : V) (v : Value) (Q : VK), Inv X pins σ H s → RelV x v → r x H Q →
    wpAny (model X.prog X.w) X.A (f v) (EP X pins σ Q) X.xe s
/-- a call of a value that is known (a builtin, a type) with values -/
def CallR (X : Cx) (f : Value) (r : List V → Hp → VK → Prop) : Prop :=
  ∀ (pins : List (Addr × Obj)) (s : Shared) (σ : St) (H : Hp) (xs : List V) (us : List Value) (Q : VK), Inv X pins σ H s → Vals xs us → r xs H Q →
    wpAny (model X.prog X.w) X.A (call f us) (EP X pins σ Q) X.xe s
/-- a value's truth -/
def TruR (X : Cx) (r : V → Hp → (Bool → Hp → Prop) → Prop) : Prop :=
  ∀ (pins : List (Addr × Obj)) (s : Shared) (σ : St) (H : Hp) (x : V) (v : Value) (Q : Bool → Hp → Prop), Inv X pins σ H s → RelV x v → r x H Q →
    wpAny (model X.prog X.w) X.A (truthy v) (TP X pins σ Q) X.xe s

def tOp (r : R2) (ta tb : TE) : TE := fun σ H Q => ta σ H fun x H1 => tb σ H1 fun y H2 => r x y H2 Q
def tUn (r : V → Hp → VK → Prop) (ta : TE) : TE := fun σ H Q => ta σ H fun x H1 => r x H1 Q
/-- ints in, under C, and a value out -/
def rI (C : Int → Int → Prop) (g : Int → Int → V) : R2 := fun x y H Q => ∃ i j, x = .int i ∧ y = .int j ∧ C i j ∧ Q (g i j) H
def rI0 (g : Int → Int → V) : R2 := fun x y H Q => ∃ i j, x = .int i ∧ y = .int j ∧ Q (g i j) H
def rU (g : Int → V) : V → Hp → VK → Prop := fun x H Q => ∃ i, x = .int i ∧ Q (g i) H

section
variable {X : Cx} {a b c : Expr} {ta tb tc : TE} {pos : Pos}

theorem binT (ha : PE X a ta) (hb : PE X b tb) {pins : List (Addr × Obj)} {s : Shared} {σ : St} {H : Hp} {R : V → V → Hp → Prop} (I : Inv X pins σ H s)
    (h : ta σ H fun x H1 => tb σ H1 fun y H2 => R x y H2) {Q : Value → Shared → Prop} {f : Value → Value → Sem Value}
    (hf : ∀ v u s2 x y H2, Inv X pins σ H2 s2 → RelV x v → RelV y u → R x y H2 → wpAny (model X.prog X.w) X.A (f v u) Q X.xe s2) :
    wpAny (model X.prog X.w) X.A (eval a X.env) (fun v s₁ => wpAny (model X.prog X.w) X.A (eval b X.env) (fun u s₂ => wpAny (model X.prog X.w) X.A (f v u) Q X.xe s₂) X.xe s₁) X.xe s := by
  refine thn (ha pins s σ H _ I h) fun v s1 ⟨x, H1, I1, r1, q1⟩ => ?_
  refine thn (hb pins s1 σ H1 _ I1 q1) fun u s2 ⟨y, H2, I2, r2, q2⟩ => ?_
  exact hf v u s2 x y H2 I2 r1 r2 q2

theorem pe_op {op : Operator} {r : R2} (ho : OpR X (binaryOp op) r) (ha : PE X a ta) (hb : PE X b tb) : PE X (.BinOp a op b pos) (tOp r ta tb) := by
  intro pins s σ H Q I h
  exact wpAny_BinOp (binT ha hb I h fun v u s2 x y H2 I2 rx ry q => ho pins s2 σ H2 x y v u Q I2 rx ry q)
theorem pe_un {op : UnaryOp} {r : V → Hp → VK → Prop} (ho : UnR X (unaryOp op) r) (ha : PE X a ta) : PE X (.UnaryOp op a pos) (tUn r ta) := by
  intro pins s σ H Q I h
  exact UnaryOp_ (thn (ha pins s σ H _ I h) fun v s1 ⟨x, H1, I1, r1, q1⟩ => ho pins s1 σ H1 x v Q I1 r1 q1)

/-! ### ints -/
theorem opI {f : Value → Value → Sem Value} {C : Int → Int → Prop} {g : Int → Int → Int}
    (rule : ∀ (i j : Int) (t u : Tok) (s : Shared) (Q : Value → Shared → Prop) (E : Value → Shared → Prop), C i j → Q (.int (g i j) s.toks) { s with toks := s.toks + 1 } → wpAny (model X.prog X.w) X.A (f (.int i t) (.int j u)) Q E s) :
    OpR X f (rI C fun i j => .int (g i j)) := by
  intro pins s σ H x y v u Q I rx ry h
  obtain ⟨i, j, rfl, rfl, hc, q⟩ := h
  obtain ⟨t, rfl⟩ := rx
  obtain ⟨t', rfl⟩ := ry
  exact rule i j t t' s _ _ hc ⟨.int (g i j), H, I.tok _, ⟨_, rfl⟩, q⟩
theorem opI0 {f : Value → Value → Sem Value} {g : Int → Int → Int}
    (rule : ∀ (i j : Int) (t u : Tok) (s : Shared) (Q : Value → Shared → Prop) (E : Value → Shared → Prop), Q (.int (g i j) s.toks) { s with toks := s.toks + 1 } → wpAny (model X.prog X.w) X.A (f (.int i t) (.int j u)) Q E s) :
    OpR X f (rI0 fun i j => .int (g i j)) := by
  intro pins s σ H x y v u Q I rx ry h
  obtain ⟨i, j, rfl, rfl, q⟩ := h
  obtain ⟨t, rfl⟩ := rx
  obtain ⟨t', rfl⟩ := ry
  exact rule i j t t' s _ _ ⟨.int (g i j), H, I.tok _, ⟨_, rfl⟩, q⟩
theorem opB0 {f : Value → Value → Sem Value} {g : Int → Int → Bool}
    (rule : ∀ (i j : Int) (t u : Tok) (s : Shared) (Q : Value → Shared → Prop) (E : Value → Shared → Prop), Q (.bool (g i j)) s → wpAny (model X.prog X.w) X.A (f (.int i t) (.int j u)) Q E s) :
    OpR X f (rI0 fun i j => .bl (g i j)) := by
  intro pins s σ H x y v u Q I rx ry h
  obtain ⟨i, j, rfl, rfl, q⟩ := h
  obtain ⟨t, rfl⟩ := rx
  obtain ⟨t', rfl⟩ := ry
  exact rule i j t t' s _ _ ⟨.bl (g i j), H, I, rfl, q⟩

def CDiv (i j : Int) : Prop := 0 < j ∧ j < 1073741824
def CDivN (i j : Int) : Prop := j ≠ 0 ∧ j.natAbs < 1073741824
def CPow (i j : Int) : Prop := 0 ≤ j ∧ j ≤ 1000000 ∧ i.natAbs < 2 ^ 64
def CMul (i j : Int) : Prop := (-(2 ^ 64) < i ∧ i < 2 ^ 64) ∨ (-(2 ^ 64) < j ∧ j < 2 ^ 64)
theorem CMul.ok {i j : Int} (h : CMul i j) : IntMulOk i j := by
  rcases h with ⟨h1, h2⟩ | ⟨h1, h2⟩
  · exact .of_left (intBits_le_64 h1 h2)
  · exact .of_right (intBits_le_64 h1 h2)

theorem op_add : OpR X (binaryOp .Add) (rI0 fun i j => .int (i + j)) := opI0 fun _ _ _ _ _ _ _ q => add_int q
theorem op_sub : OpR X (binaryOp .Sub) (rI0 fun i j => .int (i - j)) := opI0 fun _ _ _ _ _ _ _ q => sub_int q
theorem op_mul : OpR X (binaryOp .Mult) (rI CMul fun i j => .int (i * j)) := opI fun _ _ _ _ _ _ _ hc q => mul_int q hc.ok
/-- % by a positive divisor of any size -/
theorem op_mod : OpR X (binaryOp .Mod) (rI (fun _ j => 0 < j) fun i j => .int (i % j)) := opI fun i j _ _ _ _ _ hc q => by
  have h1 : (0 : Int) < j := hc
  exact mod_int' (by omega) (by rw [Int.fmod_eq_emod_of_nonneg i (by omega)]; exact q)
theorem op_pow : OpR X (binaryOp .Pow) (rI CPow fun i j => .int (i ^ j.toNat)) := opI fun _ _ _ _ _ _ _ hc q => pow_int_small hc.1 hc.2.1 hc.2.2 q


theorem unI {f : Value → Sem Value} {g : Int → Int}
    (rule : ∀ (i : Int) (t : Tok) (s : Shared) (Q : Value → Shared → Prop) (E : Value → Shared → Prop), Q (.int (g i) s.toks) { s with toks := s.toks + 1 } → wpAny (model X.prog X.w) X.A (f (.int i t)) Q E s) :
    UnR X f (rU fun i => .int (g i)) := by
  intro pins s σ H x v Q I rx h
  obtain ⟨i, rfl, q⟩ := h
  obtain ⟨t, rfl⟩ := rx
  exact rule i t s _ _ ⟨.int (g i), H, I.tok _, ⟨_, rfl⟩, q⟩
theorem un_neg : UnR X (unaryOp .USub) (rU fun i => .int (-i)) := unI fun _ _ _ _ _ q => neg_int q

/-! ### bools among ints: n += (a < b) -/
end

/-! ### comparisons -/
/-- the scalars that == tells apart as data does -/
def scal : V → V → Bool
  | .non, .non => true | .non, .int _ => true | .int _, .non => true | .non, .bl _ => true | .bl _, .non => true | .non, .str _ => true | .str _, .non => true
  | .int _, .int _ => true | .bl _, .bl _ => true | .str _, .str _ => true | .byt _, .byt _ => true
  | .int _, .str _ => true | .str _, .int _ => true | .bl _, .str _ => true | .str _, .bl _ => true
  | _, _ => false
def rEq : R2 := fun x y H Q => scal x y = true ∧ Q (.bl (decide (x = y))) H
def rNe : R2 := fun x y H Q => scal x y = true ∧ Q (.bl (!decide (x = y))) H

theorem dec_int {i j : Int} : decide (V.int i = V.int j) = (i == j) := by
  rw [Bool.eq_iff_iff]
  simp
theorem dec_bl {i j : Bool} : decide (V.bl i = V.bl j) = (i == j) := by
  rw [Bool.eq_iff_iff]
  simp
theorem dec_str {i j : Str} : decide (V.str i = V.str j) = (i == j) := by
  rw [Bool.eq_iff_iff]
  simp
theorem dec_byt {i j : Array UInt8} : decide (V.byt i = V.byt j) = (i.toList == j.toList) := by
  rw [Bool.eq_iff_iff]
  cases i
  cases j
  simp

section
variable {X : Cx} {a b c : Expr} {ta tb tc : TE} {pos : Pos}
theorem fin_bl {pins : List (Addr × Obj)} {σ : St} {H : Hp} {s : Shared} {Q : VK} {k k' : Bool} (I : Inv X pins σ H s) (q : Q (.bl k) H) (e : k = k') : EP X pins σ Q (.bool k') s := by
  subst e
  exact ⟨.bl k, H, I, rfl, q⟩
theorem op_eq : OpR X (compareOp .Eq) rEq := by
  intro pins s σ H x y v u Q I rx ry h
  obtain ⟨hs, q⟩ := h
  cases x with
  | non =>
    cases rx
    cases y with
    | non => cases ry; exact PySem.EqNone.eq_none_none (fin_bl I q (by simp))
    | bl j => cases ry; exact PySem.EqNone.eq_none_bool (fin_bl I q (by simp))
    | int j => obtain ⟨t', rfl⟩ := ry; exact PySem.EqNone.eq_none_int (fin_bl I q (by simp))
    | str j => obtain ⟨t', rfl⟩ := ry; exact PySem.EqNone.eq_none_str (fin_bl I q (by simp))
    | _ => exact absurd (show false = true from hs) Bool.false_ne_true
  | bl i =>
    cases rx
    cases y with
    | non => cases ry; exact PySem.EqNone.eq_bool_none (fin_bl I q (by simp))
    | bl j => cases ry; exact eq_bool (fin_bl I q dec_bl)
    | str j => obtain ⟨t', rfl⟩ := ry; exact PySem.EqMixed.eq_bool_str (fin_bl I q (by simp))
    | _ => exact absurd (show false = true from hs) Bool.false_ne_true
  | int i =>
    obtain ⟨t, rfl⟩ := rx
    cases y with
    | non => cases ry; exact PySem.EqNone.eq_int_none (fin_bl I q (by simp))
    | int j => obtain ⟨t', rfl⟩ := ry; exact eq_int (fin_bl I q dec_int)
    | str j => obtain ⟨t', rfl⟩ := ry; exact PySem.EqMixed.eq_int_str (fin_bl I q (by simp))
    | _ => exact absurd (show false = true from hs) Bool.false_ne_true
  | str i =>
    obtain ⟨t, rfl⟩ := rx
    cases y with
    | non => cases ry; exact PySem.EqNone.eq_str_none (fin_bl I q (by simp))
    | bl j => cases ry; exact PySem.EqMixed.eq_str_bool (fin_bl I q (by simp))
    | int j => obtain ⟨t', rfl⟩ := ry; exact PySem.EqMixed.eq_str_int (fin_bl I q (by simp))
    | str j => obtain ⟨t', rfl⟩ := ry; exact eq_str (fin_bl I q dec_str)
    | _ => exact absurd (show false = true from hs) Bool.false_ne_true
  | byt i =>
    obtain ⟨t, rfl⟩ := rx
    cases y with
    | byt j => obtain ⟨t', rfl⟩ := ry; exact PySem.W.eq_bytes (fin_bl I q dec_byt)
    | _ => exact absurd (show false = true from hs) Bool.false_ne_true
  | _ => cases y <;> exact absurd (show false = true from hs) Bool.false_ne_true
theorem op_ne : OpR X (compareOp .NotEq) rNe := by
  intro pins s σ H x y v u Q I rx ry h
  obtain ⟨hs, q⟩ := h
  cases x with
  | non =>
    cases rx
    cases y with
    | non => cases ry; exact PySem.EqNone.ne_none_none (fin_bl I q (by simp))
    | bl j => cases ry; exact PySem.EqNone.ne_none_bool (fin_bl I q (by simp))
    | int j => obtain ⟨t', rfl⟩ := ry; exact PySem.EqNone.ne_none_int (fin_bl I q (by simp))
    | str j => obtain ⟨t', rfl⟩ := ry; exact PySem.EqNone.ne_none_str (fin_bl I q (by simp))
    | _ => exact absurd (show false = true from hs) Bool.false_ne_true
  | bl i =>
    cases rx
    cases y with
    | non => cases ry; exact PySem.EqNone.ne_bool_none (fin_bl I q (by simp))
    | bl j => cases ry; exact ne_bool (fin_bl I q (congrArg not dec_bl))
    | str j => obtain ⟨t', rfl⟩ := ry; exact PySem.EqMixed.ne_bool_str (fin_bl I q (by simp))
    | _ => exact absurd (show false = true from hs) Bool.false_ne_true
  | int i =>
    obtain ⟨t, rfl⟩ := rx
    cases y with
    | non => cases ry; exact PySem.EqNone.ne_int_none (fin_bl I q (by simp))
    | int j => obtain ⟨t', rfl⟩ := ry; exact ne_int (fin_bl I q (congrArg not dec_int))
    | str j => obtain ⟨t', rfl⟩ := ry; exact PySem.EqMixed.ne_int_str (fin_bl I q (by simp))
    | _ => exact absurd (show false = true from hs) Bool.false_ne_true
  | str i =>
    obtain ⟨t, rfl⟩ := rx
    cases y with
    | non => cases ry; exact PySem.EqNone.ne_str_none (fin_bl I q (by simp))
    | bl j => cases ry; exact PySem.EqMixed.ne_str_bool (fin_bl I q (by simp))
    | int j => obtain ⟨t', rfl⟩ := ry; exact PySem.EqMixed.ne_str_int (fin_bl I q (by simp))
    | str j => obtain ⟨t', rfl⟩ := ry; exact ne_str (fin_bl I q (congrArg not dec_str))
    | _ => exact absurd (show false = true from hs) Bool.false_ne_true
  | byt i =>
    obtain ⟨t, rfl⟩ := rx
    cases y with
    | byt j => obtain ⟨t', rfl⟩ := ry; exact PySem.W.ne_bytes (fin_bl I q (congrArg not dec_byt))
    | _ => exact absurd (show false = true from hs) Bool.false_ne_true
  | _ => cases y <;> exact absurd (show false = true from hs) Bool.false_ne_true

theorem op_lt : OpR X (compareOp .Lt) (rI0 fun i j => .bl (decide (i < j))) := opB0 fun _ _ _ _ _ _ _ q => lt_int q
theorem op_le : OpR X (compareOp .LtE) (rI0 fun i j => .bl (decide (i ≤ j))) := opB0 fun _ _ _ _ _ _ _ q => le_int q
theorem op_gt : OpR X (compareOp .Gt) (rI0 fun i j => .bl (decide (j < i))) := opB0 fun _ _ _ _ _ _ _ q => gt_int q

theorem op_notN : OpR X (compareOp .IsNot) (fun x y H Q => y = .non ∧ Q (.bl (!decide (x = .non))) H) := by
  intro pins s σ H x y v u Q I rx ry h
  obtain ⟨rfl, q⟩ := h
  cases ry
  refine isnot_none_gen (fin_bl I q ?_)
  cases x <;> first
    | (cases rx; rfl)
    | (obtain ⟨t, rfl⟩ := rx; rfl)

/-- is, is not of two objects that are tracked lists or instances -/
def isObj : HO → Bool
  | .lst _ => true
  | .ins _ _ _ => true
  | _ => false

/-- two rules for one operation: by cases -/
theorem OpR.or {f : Value → Value → Sem Value} {r r' : R2} (h : OpR X f r) (h' : OpR X f r') : OpR X f (fun x y H Q => r x y H Q ∨ r' x y H Q) := by
  intro pins s σ H x y v u Q I rx ry q
  rcases q with q | q
  · exact h pins s σ H x y v u Q I rx ry q
  · exact h' pins s σ H x y v u Q I rx ry q

theorem nomark (b : Expr) {op : CmpOp} (h : op ≠ .In := by decide) (h2 : op ≠ .NotIn := by decide) : behindInMarks op b = false := by
  have e1 : (op == CmpOp.In) = false := by cases op <;> first | rfl | exact absurd rfl h
  have e2 : (op == CmpOp.NotIn) = false := by cases op <;> first | rfl | exact absurd rfl h2
  cases b <;> simp [behindInMarks, e1, e2]
/-- a comparison as a value; hm: nomark b, or (for in, not in) by with_unfolding_all rfl -/
theorem pe_cmpR {op : CmpOp} {r : R2} (ho : OpR X (compareOp op) r) (ha : PE X a ta) (hb : PE X b tb) (hm : behindInMarks op b = false) : PE X (.Compare a [op] [b] pos) (tOp r ta tb) := by
  intro pins s σ H Q I h
  exact wpAny_Compare1 (binT ha hb I h fun v u s2 x y H2 I2 rx ry q => ho pins s2 σ H2 x y v u Q I2 rx ry q) hm
/-- a reading of a value as a test -/
def tTest (t : TE) : TT := fun σ H Q => t σ H fun x H' => ∃ k, x = .bl k ∧ Q k H'
theorem pt_cmpR {op : CmpOp} {r : R2} (ho : OpR X (compareOp op) r) (ha : PE X a ta) (hb : PE X b tb) (hm : behindInMarks op b = false) : PT X (.Compare a [op] [b] pos) (tTest (tOp r ta tb)) := by
  intro pins s σ H Q I h
  refine wpAny_isTrue_Compare1 (thn (ha pins s σ H _ I h) fun v s1 ⟨x, H1, I1, r1, q1⟩ => thn (hb pins s1 σ H1 _ I1 q1) fun u s2 ⟨y, H2, I2, r2, q2⟩ =>
    thn (ho pins s2 σ H2 x y v u _ I2 r1 r2 q2) fun c s3 ⟨z, H3, I3, r3, k, e, q3⟩ => ?_) hm
  subst e
  cases r3
  exact wpAny_truthy_bool ⟨H3, I3, q3⟩
/-- a op1 b op2 c -/
def tChain (r r' : R2) (ta tb tc : TE) : TE := fun σ H Q => ta σ H fun x H1 => tb σ H1 fun y H2 => r x y H2 fun z H3 => ∃ k, z = .bl k ∧
  (if k = true then tc σ H3 fun w' H4 => r' y w' H4 Q else Q (.bl false) H3)
theorem pt_chain {op op' : CmpOp} {r r' : R2} (ho : OpR X (compareOp op) r) (ho' : OpR X (compareOp op') r') (ha : PE X a ta) (hb : PE X b tb) (hc : PE X c tc)
    (hm : lastMarks [op, op'] [b, c] = false := by with_unfolding_all rfl) : PT X (.Compare a [op, op'] [b, c] pos) (tTest (tChain r r' ta tb tc)) := by
  intro pins s σ H Q I h
  refine isTrue_chain (thn (ha pins s σ H _ I h) fun v s1 ⟨x, H1, I1, r1, q1⟩ => test_link (thn (hb pins s1 σ H1 _ I1 q1) fun u s2 ⟨y, H2, I2, r2, q2⟩ =>
    thn (ho pins s2 σ H2 x y v u _ I2 r1 r2 q2) fun d s3 ⟨z, H3, I3, r3, k, e, q3⟩ => ?_)) hm
  subst e
  cases r3
  refine wpAny_truthy_bool ?_
  cases k with
  | false =>
    obtain ⟨k', e', q'⟩ := q3
    cases e'
    exact ite_ff ⟨H3, I3, q'⟩
  | true =>
    refine ite_tt (test_last (thn (hc pins s3 σ H3 _ I3 q3) fun w' s4 ⟨z', H4, I4, r4, q4⟩ => thn (ho' pins s4 σ H4 y z' u w' _ I4 r2 r4 q4) fun d' s5 ⟨z2, H5, I5, r5, k2, e2, q5⟩ => ?_))
    subst e2
    cases r5
    exact wpAny_truthy_bool ⟨H5, I5, q5⟩

/-! ### truth -/
/-- a value's truth by the abstract heap -/
def TruV (K : PySem.W.Frag) (x : V) (H : Hp) (k : Bool) : Prop :=
  match x with
  | .non => k = false
  | .bl b => k = b
  | .int i => k = (i != 0)
  | .str y => y.length ≤ sizeLine ∧ k = ((y.length : Int) != 0)
  | .byt y => y.size ≤ sizeLine ∧ k = ((y.size : Int) != 0)
  | .ref p => (∃ xs, SqL K H p xs ∧ k = !xs.isEmpty) ∨ (∃ xs, SqT K H p xs ∧ k = !xs.isEmpty) ∨ ∃ kvs, H p = some (.dK kvs) ∧ k = !kvs.isEmpty
  | _ => False
theorem line63 : (sizeLine : Nat) < 2 ^ 63 := by rw [sizeLine_eq]; decide

/-! ### strs and bytes -/
theorem op_add_str : OpR X (binaryOp .Add) (fun x y H Q => ∃ i j, x = .str i ∧ y = .str j ∧ i.length + j.length ≤ sizeLine ∧ Q (.str (i ++ j)) H) := by
  intro pins s σ H x y v u Q I rx ry h
  obtain ⟨i, j, rfl, rfl, hz, q⟩ := h
  obtain ⟨t, rfl⟩ := rx
  obtain ⟨t', rfl⟩ := ry
  exact add_str (fun t' tk => ⟨.str (i ++ j), H, I.tok _, ⟨_, rfl⟩, q⟩) hz

def PlainIxT (b : Expr) : Prop := ∀ o i, subscripted b false o i = operate [o, i] (getItem o i)

/-! ### scalar builtins, by CallR -/
theorem vals1 {x : V} {us : List Value} (r : Vals [x] us) : ∃ u, us = [u] ∧ RelV x u := by
  cases r with
  | cons r1 r2 => cases r2; exact ⟨_, rfl, r1⟩
theorem vals2 {x y : V} {us : List Value} (r : Vals [x, y] us) : ∃ u w', us = [u, w'] ∧ RelV x u ∧ RelV y w' := by
  cases r with
  | cons r1 r2 =>
    cases r2 with
    | cons r3 r4 => cases r4; exact ⟨_, _, rfl, r1, r3⟩
theorem call_min2 (hc : X.calm = true) : CallR X (.builtin "min") (fun xs H Q => ∃ i j, xs = [.int i, .int j] ∧ Q (.int (if j < i then j else i)) H) := by
  intro pins s σ H xs us Q I r h
  obtain ⟨i, j, rfl, q⟩ := h
  obtain ⟨u, w', rfl, ⟨t, rfl⟩, ⟨t', rfl⟩⟩ := vals2 r
  refine min_two_ints (I.ok.hd hc) fun h' tk k => ⟨_, H, I.kept k, ?_, q⟩
  by_cases hj : j < i
  · rw [if_pos hj, if_pos hj]; exact ⟨_, rfl⟩
  · rw [if_neg hj, if_neg hj]; exact ⟨_, rfl⟩
theorem call_int1 : CallR X (.type "int") (fun xs H Q => (∃ i, xs = [.int i] ∧ Q (.int i) H) ∨ ∃ k, xs = [.bl k] ∧ Q (.int (if k then 1 else 0)) H) := by
  intro pins s σ H xs us Q I r h
  rcases h with ⟨i, rfl, q⟩ | ⟨k, rfl, q⟩
  · obtain ⟨u, rfl, t, rfl⟩ := vals1 r
    exact call_int_int ⟨.int i, H, I, ⟨_, rfl⟩, q⟩
  · obtain ⟨u, rfl, r1⟩ := vals1 r
    cases r1
    exact call_int_bool ⟨.int (if k then 1 else 0), H, I.tok _, ⟨_, rfl⟩, q⟩
/-- len of a str, a bytes, a list, a tuple -/
def LenV (K : PySem.W.Frag) (x : V) (H : Hp) (n : Nat) : Prop :=
  match x with
  | .str y => y.length ≤ sizeLine ∧ n = y.length
  | .byt y => y.size ≤ sizeLine ∧ n = y.size
  | .ref p => (∃ xs, SqL K H p xs ∧ n = xs.length) ∨ ∃ xs, SqT K H p xs ∧ n = xs.length
  | _ => False
end
end L2

namespace L2
open PySem PySem.Spec PyProof.Rows

/-! ### an instance, its attributes a map -/
structure ObjM (h : Heap) (x dx C : Addr) (mA : Str → Option Value) : Prop where
  obj : h.get? x = some (PySem.W.instObj C dx)
  ns : h.Ns1 dx mA
  ne : dx ≠ x

theorem lookIn_ns {h : Heap} {dx : Addr} {mA : Str → Option Value} (n : h.Ns1 dx mA) : ∃ od, h.get? dx = some od ∧ ∀ name, PySem.W.lookIn name od = some (mA name) := by
  obtain ⟨o, es, ep, ho, hd, hk, _, hm⟩ := n
  refine ⟨o, ho, fun name => ?_⟩
  have e := hm name
  unfold nsFind findBy at e
  rw [← Array.find?_toList] at e
  unfold PySem.W.lookIn
  rw [hd]
  dsimp only
  split
  · rename_i y q
    rw [q] at e
    exact congrArg some e
  · rename_i q
    rw [q] at e
    have a : es.toList.any (·.refKey) = false := by
      rw [List.any_eq_false]
      intro y hy
      obtain ⟨z, t, hkey⟩ := hk y (Array.mem_toList_iff.mp hy)
      simp [DictEntry.refKey, hkey]
    have a' : ¬ es.toList.any (·.refKey) = true := by rw [a]; exact Bool.false_ne_true
    rw [if_neg a']
    exact congrArg some e

theorem ObjM.look {h : Heap} {x dx C : Addr} {mA : Str → Option Value} (I : ObjM h x dx C mA) : ∃ od, PySem.W.InstAt h x (PySem.W.instObj C dx) C (some od) ∧ ∀ name, PySem.W.lookIn name od = some (mA name) :=
  let ⟨od, ho, hl⟩ := lookIn_ns I.ns
  ⟨od, ⟨I.obj, rfl, rfl, ho⟩, hl⟩

section
variable {prog : Program} {w : World} {A : Around} {E : Value → Shared → Prop} {s : Shared} {K : PySem.W.Frag} {x dx C f : Addr} {mA : Str → Option Value} {name : Str} {v : Value}

theorem get_map {expr : Bool} {Q : Value → Shared → Prop} (X : K.In s.heap) (I : ObjM s.heap x dx C mA) (hg : PySem.W.plainGet K C name = true) (hh : PySem.W.hasDictIn K C = true)
    (ha : PySem.W.findIn K (.ref C) name = some none) (hv : mA name = some v) (hv' : PySem.W.handedIn v = true) (h : Q v { s with toks := s.toks + 1 }) :
    wpAny (model prog w) A (getAttr (.ref x) name expr) Q E s := by
  obtain ⟨od, J, hl⟩ := I.look
  exact PySem.W.get_value X J (PySem.W.plainGet_of hg).1 (PySem.W.findObj_own hh ha rfl (by rw [hl, hv])) hv' h


theorem get_meth {pl : Sem Bool} {Q : Value × List Value → Shared → Prop} (X : K.In s.heap) (I : ObjM s.heap x dx C mA) (hg : PySem.W.plainGet K C name = true)
    (hf : PySem.W.findIn K (.ref C) name = some (some (.ref f))) (ht : PySem.W.isFn K (.ref f) = true) (hv : mA name = none) (h : Q (.ref f, [.ref x]) s) :
    wpAny (model prog w) A (getMethod (.ref x) name pl) Q E s := by
  obtain ⟨od, J, hl⟩ := I.look
  exact PySem.W.method_fn X J (PySem.W.plainGet_of hg).1 (PySem.W.plainGet_of hg).2 hf (beq_iff_eq.mp ht) (by show (PySem.W.lookIn name od).map (·.isSome) = some false; rw [hl, hv]; rfl) h

theorem set_map {ns : List Str} {Q : Unit → Shared → Prop} (X : K.In s.heap) (I : ObjM s.heap x dx C mA)
    (hs : PySem.W.findIn K (.ref C) "__setattr__" = some (some (.builtin "object.__setattr__"))) (hp : PySem.W.plainOver K C = true) (ht : PySem.W.takerIn K C name = some none) (hh : PySem.W.hasDictIn K C = true)
    (hw : PySem.Within mA ns) (hsz : ns.length ≤ sizeLine)
    (h : ∀ h', ObjM h' x dx C (fun y => if y = name then some v else mA y) → Heap.SameBut dx s.heap h' → Q () { s with heap := h', toks := s.toks + 2 }) :
    wpAny (model prog w) A (setAttr (.ref x) name v) Q E s := by
  obtain ⟨od, J, hl⟩ := I.look
  refine PySem.W.set_plain X J hs (PySem.W.osa_open (s := { s with toks := s.toks + 1 }) (r := none) X J hp ht fun b => ?_)
  obtain ⟨cd, hc, hd'⟩ := PySem.W.any_some hh
  have hx : s.heap.get? x = some ⟨.ref C, some dx, .plain, #[]⟩ := I.obj
  refine wpAny_bind (wpAny_pure (wpAny_bind (wpAny_bind (wpAny_loadPart hx (wpAny_bind (PySem.W.Looks.here (s := { s with toks := s.toks + 1 }) (PySem.W.looks_clsIn X hc) ?_))))))
  rw [hd']
  refine wpAny_pure (a := some dx) (wpAny_bind (wpAny_pure (wpAny_bind ?_)))
  refine wpAny_nsSet1 (s := { s with toks := s.toks + 1 }) I.ns fun h' hn2 hs2 => ?_
  obtain ⟨oD, esD, epD, hoD, hdD, hcD⟩ := hn2.count (PySem.Within.cons name v hw)
  refine wpAny_bind (wpAny_lookBehind hoD (by rw [hdD]; exact pastItsLine_dict (Nat.le_trans hcD (by rw [List.length_cons]; omega))) ?_)
  exact wpAny_pure (h _ ⟨(hs2.2 _ (Ne.symm I.ne)).trans I.obj, hn2, I.ne⟩ hs2)

/-- C(..): the dict at the heap's end, the instance behind it; then its __init__ -/
theorem make_map {R : Result → Shared → Prop} {vs : List Value} {kw : List (Str × Value)} (X : K.In s.heap) (hm : PySem.W.makesIn K C = true)
    (hi : PySem.W.findIn K (.ref C) "__init__" = some (some (.ref f))) (hf : PySem.W.typeIn K (.ref f) = some (.type "function"))
    (h : codeAny (model prog w) (A.under (.builtin "type.__call__" ⟨.ref C :: vs, kw⟩)) (.call (.ref f) ⟨.ref (s.heap.objs.size + 1) :: vs, kw⟩) (PySem.W.InitBack (s.heap.objs.size + 1) R)
      { s with heap := (s.heap.push PySem.W.emptyDict).push (PySem.W.instObj C s.heap.objs.size) }) :
    codeAny (model prog w) A (.call (.ref C) ⟨vs, kw⟩) R s := by
  obtain ⟨hh, g, d, t, os⟩ := s
  exact PySem.W.make_core (PySem.W.makes_of X hm) (PySem.W.looks_findIn X hi) (fun self => PySem.W.bind_fn X self hf) (.inl rfl) h
end

/-! ### the attributes as a list of pairs -/
def putF (f : Str) (v : V) : List (Str × V) → List (Str × V)
  | [] => [(f, v)]
  | (g, x) :: r => if g = f then (g, v) :: r else (g, x) :: putF f v r
theorem lookup_putF (f g : Str) (v : V) : ∀ fs : List (Str × V), (putF f v fs).lookup g = if g = f then some v else fs.lookup g
  | [] => by
    show List.lookup g [(f, v)] = _
    by_cases h : g = f
    · have hb : (g == f) = true := beq_iff_eq.mpr h
      simp only [List.lookup, hb, if_pos h]
    · have hb : (g == f) = false := beq_eq_false_iff_ne.mpr h
      simp only [List.lookup, hb, if_neg h]
  | (k, x) :: r => by
    have ih := lookup_putF f g v r
    rw [show putF f v ((k, x) :: r) = (if k = f then (k, v) :: r else (k, x) :: putF f v r) from rfl]
    by_cases hk : k = f
    · rw [if_pos hk]
      by_cases h : g = k
      · have hb : (g == k) = true := beq_iff_eq.mpr h
        simp only [List.lookup, hb, if_pos (h.trans hk)]
      · have hb : (g == k) = false := beq_eq_false_iff_ne.mpr h
        simp only [List.lookup, hb, if_neg (fun e : g = f => h (e.trans hk.symm))]
    · rw [if_neg hk]
      by_cases h : g = k
      · have hb : (g == k) = true := beq_iff_eq.mpr h
        simp only [List.lookup, hb, if_neg (fun e : g = f => hk (h.symm.trans e))]
      · have hb : (g == k) = false := beq_eq_false_iff_ne.mpr h
        simp only [List.lookup, hb]
        exact ih
theorem keys_putF (f : Str) (v : V) : ∀ fs : List (Str × V), f ∈ (putF f v fs).map (·.1) ∧ ∀ g, g ∈ fs.map (·.1) → g ∈ (putF f v fs).map (·.1)
  | [] => ⟨by simp [putF], fun g h => by simp at h⟩
  | (k, x) :: r => by
    obtain ⟨i1, i2⟩ := keys_putF f v r
    rw [show putF f v ((k, x) :: r) = (if k = f then (k, v) :: r else (k, x) :: putF f v r) from rfl]
    by_cases hk : k = f
    · rw [if_pos hk]
      subst hk
      exact ⟨by simp, fun g h => by simpa using h⟩
    · rw [if_neg hk]
      refine ⟨?_, fun g h => ?_⟩
      · rw [List.map_cons]
        exact List.mem_cons_of_mem _ i1
      · rw [List.map_cons] at h ⊢
        rcases List.mem_cons.mp h with e | e
        · exact List.mem_cons.mpr (.inl e)
        · exact List.mem_cons_of_mem _ (i2 g e)
theorem length_putF (f : Str) (v : V) : ∀ fs : List (Str × V), (putF f v fs).length ≤ fs.length + 1
  | [] => by simp [putF]
  | (k, x) :: r => by
    have ih := length_putF f v r
    rw [show putF f v ((k, x) :: r) = (if k = f then (k, v) :: r else (k, x) :: putF f v r) from rfl]
    by_cases hk : k = f
    · rw [if_pos hk, List.length_cons, List.length_cons]; omega
    · rw [if_neg hk, List.length_cons, List.length_cons]; omega

theorem RelO.some_of {v : V} {o : Option Value} (r : RelO (some v) o) : ∃ u, o = some u ∧ RelV v u := by
  cases o with
  | none => exact (show False from r).elim
  | some u => exact ⟨u, rfl, r⟩
theorem RelO.none_of {o : Option Value} (r : RelO none o) : o = none := by
  cases o with
  | none => rfl
  | some u => exact (show False from r).elim
theorem handed_of {v : V} {u : Value} (r : RelV v u) : PySem.W.handedIn u = true := by
  cases v with
  | non => cases (show u = Value.none from r); rfl
  | bl b => cases (show u = Value.bool b from r); rfl
  | int i => obtain ⟨t, e⟩ := (show ∃ t, u = Value.int i t from r); cases e; rfl
  | str x => obtain ⟨t, e⟩ := (show ∃ t, u = Value.str x t from r); cases e; rfl
  | byt b => obtain ⟨t, e⟩ := (show ∃ t, u = Value.bytes b t from r); cases e; rfl
  | flt b => obtain ⟨t, e⟩ := (show ∃ t, u = Value.float b t from r); cases e; rfl
  | ref a => cases (show u = Value.ref a from r); rfl
  | ty n => cases (show u = Value.type n from r); rfl

section
variable {P : Program} {w : World} {H H' : Hp} {h h' : Heap} {a C dx : Addr} {fs fs' : List (Str × V)}
theorem ins_get (hok : HOk P w H h) (e : H a = some (.ins C dx fs)) : ∃ mA, ObjM h a dx C mA ∧ (∀ f, RelO (fs.lookup f) (mA f)) ∧ PySem.Within mA (fs.map (·.1)) ∧ fs.length ≤ 1000 ∧ H dx = some (.own a) := by
  obtain ⟨d, z, ne, ob, mA, n, r, q⟩ := (show ObjOk P w H h a (.ins C dx fs) from hok a _ e)
  exact ⟨mA, ⟨ob, n, ne⟩, r, q, z, d⟩
end

/-! ### what of the text a class must have -/
structure Cls (K : PySem.W.Frag) (C : Addr) : Prop where
  pg : PySem.W.plainGet K C Str.empty = true
  hd : PySem.W.hasDictIn K C = true
  po : PySem.W.plainOver K C = true
  sa : PySem.W.findIn K (.ref C) "__setattr__" = some (some (.builtin "object.__setattr__"))
theorem Cls.get {K : PySem.W.Frag} {C : Addr} (c : Cls K C) (f : Str) : PySem.W.plainGet K C f = true := c.pg
/-- no class of it has the name -/
def NoAttr (K : PySem.W.Frag) (C : Addr) (f : Str) : Prop := PySem.W.findIn K (.ref C) f = some none
theorem NoAttr.taker {K : PySem.W.Frag} {C : Addr} {f : Str} (n : NoAttr K C f) : PySem.W.takerIn K C f = some none := by
  unfold PySem.W.takerIn
  rw [show PySem.W.findIn K (.ref C) f = some none from n]
  rfl
/-- a constant of the class -/
structure Con (K : PySem.W.Frag) (C : Addr) (f : Str) (v : V) (u : Value) : Prop where
  at_ : PySem.W.findIn K (.ref C) f = some (some u)
  rel : RelV v u
  get : PySem.W.specialIn K u "__get__" = some none
  cp : PySem.W.copiedNames.contains f = false
/-- a method: a plain def of the class or of one above it -/
structure Meth (K : PySem.W.Frag) (C : Addr) (m : Str) (f : Addr) : Prop where
  at_ : PySem.W.findIn K (.ref C) m = some (some (.ref f))
  fn : PySem.W.isFn K (.ref f) = true
  kp : PySem.W.keepIn K (.ref f) = true

section
variable {X : Cx} {pins : List (Addr × Obj)} {σ : St} {H : Hp} {s : Shared} {a C dx : Addr} {fs : List (Str × V)} {f : Str} {v : V} {A : Around} {E : Value → Shared → Prop}

theorem getattr_ok {b : Bool} {Q : Value → Shared → Prop} (I : Inv X pins σ H s) (e : H a = some (.ins C dx fs)) (c : Cls X.K C) (n : NoAttr X.K C f) (l : fs.lookup f = some v)
    (h : ∀ u s', Inv X pins σ H s' → RelV v u → Q u s') : wpAny (model X.prog X.w) A (getAttr (.ref a) f b) Q E s := by
  obtain ⟨mA, O, r, _, _, _⟩ := ins_get I.hok e
  obtain ⟨u, hu, ru⟩ := RelO.some_of (v := v) (o := mA f) (by rw [← l]; exact r f)
  exact get_map I.kIn O (c.get f) c.hd n hu (handed_of ru) (h u _ (I.tok _) ru)


theorem getmeth_ok {m : Str} {g : Addr} {pl : Sem Bool} {Q : Value × List Value → Shared → Prop} (I : Inv X pins σ H s) (e : H a = some (.ins C dx fs)) (c : Cls X.K C) (k : Meth X.K C m g) (l : fs.lookup m = none)
    (h : Q (.ref g, [.ref a]) s) : wpAny (model X.prog X.w) A (getMethod (.ref a) m pl) Q E s := by
  obtain ⟨mA, O, r, _, _, _⟩ := ins_get I.hok e
  have hn : mA m = none := RelO.none_of (by rw [← l]; exact r m)
  exact get_meth I.kIn O (c.get m) k.at_ k.fn hn h

theorem setattr_ok {y : V} {u : Value} {Q : Unit → Shared → Prop} (I : Inv X pins σ H s) (e : H a = some (.ins C dx fs)) (c : Cls X.K C) (n : NoAttr X.K C f) (hl : fs.length < 1000) (ry : RelV y u)
    (h : ∀ s', Inv X pins σ (upd H a (.ins C dx (putF f y fs))) s' → Q () s') : wpAny (model X.prog X.w) A (setAttr (.ref a) f u) Q E s := by
  obtain ⟨mA, O, r, wi, _, ho⟩ := ins_get I.hok e
  have hz : (fs.map (·.1)).length ≤ sizeLine := by rw [List.length_map, sizeLine_eq]; omega
  refine set_map I.kIn O c.sa c.po n.taker c.hd wi hz fun h' O' sb => h _ ?_
  have hd : ∃ o, h'.get? dx = some o := let ⟨o, _, _, e', _⟩ := O'.ns; ⟨o, e'⟩
  refine I.write (x := a) (e := dx) (by rw [e]; exact True.intro) (.inr ho) (fun b q hb z => (sb.2 b hb).trans z) hd ?_
  refine ⟨by rw [upd_ne O.ne]; exact ho, ?_, O.ne, O'.obj, _, O'.ns, fun g => ?_, fun g hg => ?_⟩
  · have := length_putF f y fs; omega
  · show RelO ((putF f y fs).lookup g) (if g = f then some u else mA g)
    rw [lookup_putF]
    by_cases q : g = f
    · rw [if_pos q, if_pos q]; exact ry
    · rw [if_neg q, if_neg q]; exact r g
  · by_cases q : g = f
    · rw [q]; exact (keys_putF f y fs).1
    · refine (keys_putF f y fs).2 g (wi g fun z => hg ?_)
      show (if g = f then some u else mA g) = none
      rw [if_neg q]; exact z

/-- a new instance, tracked, without attributes -/
theorem Inv.made (I : Inv X pins σ H s) : Inv X pins σ (upd (upd H s.heap.objs.size (.own (s.heap.objs.size + 1))) (s.heap.objs.size + 1) (.ins C s.heap.objs.size []))
    { s with heap := (s.heap.push PySem.W.emptyDict).push (PySem.W.instObj C s.heap.objs.size) } := by
  have e1 : (s.heap.push PySem.W.emptyDict).get? s.heap.objs.size = some PySem.W.emptyDict := Heap.get?_push_size s.heap rfl
  have e2 : ((s.heap.push PySem.W.emptyDict).push (PySem.W.instObj C s.heap.objs.size)).get? (s.heap.objs.size + 1) = some (PySem.W.instObj C s.heap.objs.size) := by
    have := Heap.get?_push_size (s.heap.push PySem.W.emptyDict) (o := PySem.W.instObj C s.heap.objs.size) rfl
    rwa [Heap.size_push] at this
  have e3 : (s.heap.push PySem.W.emptyDict).Ns s.heap.objs.size (fun _ => none) := ⟨PySem.W.emptyDict, #[], _, e1, rfl, (fun e he => absurd he (by simp)), fun _ => rfl⟩
  have I1 := I.laid (a := s.heap.objs.size) (o := .own (s.heap.objs.size + 1)) (h' := s.heap.push PySem.W.emptyDict) (t' := s.toks) (fun b u q => Heap.get?_push_of_some _ q) (Nat.le_refl _) ⟨_, e1⟩
  refine I1.laid (a := s.heap.objs.size + 1) (o := .ins C s.heap.objs.size []) (t' := s.toks) (fun b u q => Heap.get?_push_of_some _ q) (Nat.le_of_eq (Heap.size_push _ _)) ?_
  have ne : s.heap.objs.size ≠ s.heap.objs.size + 1 := Nat.ne_of_lt (Nat.lt_succ_self _)
  refine ⟨by rw [upd_ne ne, upd_same], Nat.zero_le _, ne, e2, fun _ => none, (Heap.Ns1.of_empty e3).at fun o q => Heap.get?_push_of_some _ q, fun _ => True.intro, fun y hy => absurd rfl hy⟩

/-- e.f where nothing but the object is asked: through attributeBase (super) and the last hold -/
theorem attr_of {prog : Program} {w : World} {env : Env} {e : Expr} {f : Str} {pos : Pos} {s : Shared} {Q : Value → Shared → Prop} (hb : attributeBase e f env (eval e env) = eval e env)
    (h : wpAny (model prog w) A (eval e env) (fun o s₁ => wpAny (model prog w) A (getAttr o f true) Q E s₁) E s) : wpAny (model prog w) A (eval (.Attribute e f pos) env) Q E s :=
  Attribute_any_ h (by rw [arm_eval_Attribute, hb])
end

/-! ### readings and rules -/
/-- e.f, an attribute of the instance -/
def tFld (K : PySem.W.Frag) (ta : TE) (f : Str) : TE := fun σ H Q => ta σ H fun x H1 => ∃ a C dx fs v, x = .ref a ∧ H1 a = some (.ins C dx fs) ∧ Cls K C ∧ NoAttr K C f ∧ fs.lookup f = some v ∧ Q v H1
/-- e.f, a constant of the class -/
def tCon (K : PySem.W.Frag) (ta : TE) (f : Str) : TE := fun σ H Q => ta σ H fun x H1 => ∃ a C dx fs v u, x = .ref a ∧ H1 a = some (.ins C dx fs) ∧ Cls K C ∧ Con K C f v u ∧ fs.lookup f = none ∧ Q v H1
/-- e.f = value -/
def sFld (K : PySem.W.Frag) (ta tv : TE) (f : Str) : TS := fun D σ H => tv σ H fun y H1 => ta σ H1 fun x H2 => ∃ a C dx fs, x = .ref a ∧ H2 a = some (.ins C dx fs) ∧ Cls K C ∧ NoAttr K C f ∧ fs.length < 1000 ∧
  D.nx σ (upd H2 a (.ins C dx (putF f y fs)))
/-- an augmented operator on two values -/
def InOp (X : Cx) (op : Operator) (rd : V → V → Hp → VK → Prop) : Prop :=
  ∀ (pins : List (Addr × Obj)) (s : Shared) (σ : St) (H : Hp) (x y : V) (u v : Value) (Q : VK), Inv X pins σ H s → RelV x u → RelV y v → rd x y H Q → wpAny (model X.prog X.w) X.A (inplaceOp op u v) (EP X pins σ Q) X.xe s
/-- e.f op= value -/
def sFldAug (K : PySem.W.Frag) (ta tv : TE) (rd : V → V → Hp → VK → Prop) (f : Str) : TS := fun D σ H => ta σ H fun x H1 => ∃ a C dx fs v, x = .ref a ∧ H1 a = some (.ins C dx fs) ∧ Cls K C ∧ NoAttr K C f ∧ fs.lookup f = some v ∧
  tv σ H1 fun y H2 => rd v y H2 fun z H3 => ∃ dx' fs', H3 a = some (.ins C dx' fs') ∧ fs'.length < 1000 ∧ D.nx σ (upd H3 a (.ins C dx' (putF f z fs')))

section
variable {X : Cx} {o e value : Expr} {f : Str} {pos pos' tpos : Pos} {ta tv : TE}
theorem pe_fld (he : PE X e ta) (hb : attributeBase e f X.env (eval e X.env) = eval e X.env) : PE X (.Attribute e f pos) (tFld X.K ta f) := by
  intro pins s σ H Q I h
  refine attr_of hb (thn (he pins s σ H _ I h) fun u s1 ⟨x, H1, I1, rx, a, C, dx, fs, v, ex, ea, c, n, l, q⟩ => ?_)
  subst ex
  obtain rfl : u = Value.ref a := rx
  exact getattr_ok I1 ea c n l fun u' s2 I2 ru => ⟨v, H1, I2, ru, q⟩
theorem ps_fld (ha : PE X o ta) (hv : PE X value tv) (hs : swapsWith value (some (.Attribute o f pos')) pos.line X.env = pure false) : PS X (.Assign [.Attribute o f pos'] value pos) (sFld X.K ta tv f) := by
  intro pins s σ H D I h
  refine plainObj_wpAny_Assign_Attribute (thn (hv pins s σ H _ I h) fun u s1 ⟨y, H1, I1, ry, q⟩ => thn (ha pins s1 σ H1 _ I1 q) fun ov s2 ⟨x, H2, I2, rx, a, C, dx, fs, ex, ea, c, n, l, q2⟩ => ?_) hs
  subst ex
  obtain rfl : ov = Value.ref a := rx
  exact setattr_ok I2 ea c n l ry fun s3 I3 => ⟨σ, _, I3, q2⟩
def rAdd : V → V → Hp → VK → Prop := fun x y H Q => ∃ i j, x = .int i ∧ y = .int j ∧ Q (.int (i + j)) H
def rSub : V → V → Hp → VK → Prop := fun x y H Q => ∃ i j, x = .int i ∧ y = .int j ∧ Q (.int (i - j)) H

end

/-! ### isinstance -/
section
variable {X : Cx} {pins : List (Addr × Obj)} {σ : St} {H : Hp} {s : Shared} {A : Around} {E : Value → Shared → Prop} {Q : Value → Shared → Prop} {c : Value} {b : Bool}
/-- the type of a value, as the fragment's deciders take it; for an instance its class -/
inductive TyOf (K : PySem.W.Frag) (H : Hp) : V → Value → Prop where
  | non : TyOf K H .non (.type "NoneType")
  | bl (x : Bool) : TyOf K H (.bl x) (.type "bool")
  | int (i : Int) : TyOf K H (.int i) (.type "int")
  | str (x : Str) : TyOf K H (.str x) (.type "str")
  | flt (x : UInt64) : TyOf K H (.flt x) (.type "float")
  | lst {a : Addr} {xs : List V} (e : H a = some (.lst xs)) : TyOf K H (.ref a) (.type "list")
  | frz {a : Addr} {o : Obj} {xs : List V} (e : H a = some (.frz o (.lst xs))) : TyOf K H (.ref a) (.type "list")
  | tup {a : Addr} {xs : List V} (e : H a = some (.tup xs)) : TyOf K H (.ref a) (.type "tuple")
  | dK {a : Addr} {kvs : List (Key × V)} (e : H a = some (.dK kvs)) : TyOf K H (.ref a) (.type "dict")
  | dT {a : Addr} {kvs : List (List Key × V)} (e : H a = some (.dT kvs)) : TyOf K H (.ref a) (.type "dict")
  | ins {a C dx : Addr} {fs : List (Str × V)} (e : H a = some (.ins C dx fs)) (cl : Cls K C) (ha : PySem.W.findIn K (.ref C) "__class__" = some (some (.builtin "object.__class__")))
      (hn : PySem.W.specialIn K (.builtin "object.__class__") "__get__" = some (some (.builtin "getset_descriptor.__get__"))) (htk : PySem.W.takesIn K (.builtin "object.__class__") = some true)
      (hm : PySem.W.mroIn K C (.type "object") = some true) : TyOf K H (.ref a) (.ref C)
end
end L2

namespace L2
open PySem PySem.Spec PyProof.Rows

/-! ### room -/
structure Room (k : Nat) (A : Around) : Prop where
  hd : A.handled = none
  dp : A.depth + 3 * k + 5 < recursionLimit
  un : A.units + 16 * k + 200 < cLine
theorem Room.mono {j k : Nat} {A : Around} (r : Room k A) (h : j ≤ k) : Room j A := ⟨r.hd, by have := r.dp; omega, by have := r.un; omega⟩
theorem Room.deeper {k : Nat} {A : Around} (r : Room (k + 1) A) (env : Env) : Room k (A.deeper env) :=
  ⟨r.hd, by have := r.dp; show A.depth + 1 + 3 * k + 5 < _; omega, by have := r.un; show A.units + 3 + 16 * k + 200 < _; omega⟩
theorem Room.in1 {k : Nat} {A : Around} (r : Room (k + 1) A) : Room k A.in1 :=
  ⟨r.hd, by have := r.dp; show A.depth + 3 * k + 5 < _; omega, by have := r.un; show A.units + 1 + 16 * k + 200 < _; omega⟩
theorem make_depth {A : Around} {C : Addr} {us : List Value} {kw : List (Str × Value)} : (A.under (.builtin "type.__call__" ⟨.ref C :: us, kw⟩)).depth = A.depth + 1 := by
  first | rfl | simp [Around.under, Code.weight, Code.isCreation, Code.isGuard, Code.isCaller, Code.frames, Code.isFrame, guardIds]
theorem make_units {A : Around} {C : Addr} {us : List Value} {kw : List (Str × Value)} : (A.under (.builtin "type.__call__" ⟨.ref C :: us, kw⟩)).units = A.units + 1 := by
  first | rfl | simp [Around.under, Code.cUnits, Code.frames, Code.isFrame]
theorem Room.make {k : Nat} {A : Around} (r : Room (k + 1) A) (C : Addr) (us : List Value) (kw : List (Str × Value)) : Room k (A.under (.builtin "type.__call__" ⟨.ref C :: us, kw⟩)) :=
  ⟨r.hd, by have := r.dp; rw [make_depth]; omega, by have := r.un; rw [make_units]; omega⟩
theorem Room.depth {k : Nat} {A : Around} (r : Room k A) : A.depth < recursionLimit := by have := r.dp; omega
theorem Room.units {k : Nat} {A : Around} (r : Room k A) : A.units + 64 < cLine := by have := r.un; omega

/-! ### argument lists and displays -/
def tNil : TA := fun _ H Q => Q [] H
def tCons (ta : TE) (tr : TA) : TA := fun σ H Q => ta σ H fun x H1 => tr σ H1 fun xs H2 => Q (x :: xs) H2
section
variable {X : Cx} {e : Expr} {es : List Expr} {te : TE} {t : TA} {pos : Pos}
theorem pa_nil : PA X [] tNil := fun _ _ _ _ H Q I h => Calls.spliced_nil ⟨[], H, I, .nil, h⟩
theorem pa_cons (ha : PE X e te) (hr : PA X es t) (hs : starEach (e :: es) X.env = (false, eval e X.env) :: starEach es X.env := by rfl) : PA X (e :: es) (tCons te t) := by
  intro pos pins s σ H Q I h
  rw [hs]
  show wpAny _ _ (spliced ((false, eval e X.env) :: backTo pos (starEach es X.env))) _ _ s
  refine Calls.spliced_cons (thn (ha pins s σ H _ I h) fun u s1 ⟨x, H1, I1, r1, q1⟩ => ?_)
  exact thn (hr pos pins s1 σ H1 _ I1 q1) fun us s2 ⟨xs, H2, I2, r2, q2⟩ => ⟨x :: xs, H2, I2, .cons r1 r2, q2⟩

/-- a tuple, a list of written items -/
def tTup (t : TA) : TE := fun σ H Q => t σ H fun xs H1 => xs.length ≤ sizeLine ∧ ∀ p, H1 p = none → Q (.ref p) (upd H1 p (.tup xs))
def tLst (t : TA) : TE := fun σ H Q => t σ H fun xs H1 => xs.length ≤ sizeLine ∧ ∀ p, H1 p = none → Q (.ref p) (upd H1 p (.lst xs))
theorem pe_tup {x1} (h : PA X es t) : PE X (.Tuple es x1 pos) (tTup t) := by
  intro pins s σ H Q I hq
  refine wpAny_Tuple_spliced (thn (h pos pins s σ H _ I hq) fun us s1 ⟨xs, H1, I1, r, z, q⟩ => ⟨by rw [← r.length]; exact z, ?_⟩)
  have hf : H1 s1.heap.objs.size = none := I1.hok.fresh (Nat.le_refl _)
  refine ⟨.ref s1.heap.objs.size, upd H1 s1.heap.objs.size (.tup xs), I1.laid (t' := s1.toks) (fun b u e => Heap.get?_push_of_some _ e) (Nat.le_refl _) ?_, rfl, q _ hf⟩
  exact ⟨z, us, r, ⟨_, Heap.get?_push_size _ rfl, rfl, _, rfl⟩⟩
theorem pe_lst (h : PA X es t) : PE X (.List es pos) (tLst t) := by
  intro pins s σ H Q I hq
  refine wpAny_List_spliced (thn (h pos pins s σ H _ I hq) fun us s1 ⟨xs, H1, I1, r, z, q⟩ => ⟨by rw [← r.length]; exact z, ?_⟩)
  have hf : H1 s1.heap.objs.size = none := I1.hok.fresh (Nat.le_refl _)
  refine ⟨.ref s1.heap.objs.size, upd H1 s1.heap.objs.size (.lst xs), I1.laid (t' := s1.toks) (fun b u e => Heap.get?_push_of_some _ e) (Nat.le_refl _) ?_, rfl, q _ hf⟩
  exact ⟨z, us, 0, r, Heap.get?_push_size _ rfl⟩
end

/-! ### what a def promises -/
/-- a def's promise: the bound arguments in the parameters' order, the heap, the wanted end, the wanted exception -/
abbrev Sp := List V → Hp → VK → XK → Prop
/-- how an exception lies behind a call (file 08 gives it): the callers' frames, abstract heap and state ahead of the call, the wish, the exception, the state -/
abbrev CXT := List Env → Hp → Shared → XK → Value → Shared → Prop

/-- the state at a call -/
structure Env0 (P : Program) (w : World) (K : PySem.W.Frag) (mg : Str → Option Value) (base : Heap) (A : Around) (outer : List Env) (s : Shared) (H : Hp) : Prop where
  frames : A.frames = some outer
  mod : Mod K mg base
  bs : ∀ b o, base.get? b = some o → s.heap.get? b = some o ∧ H b = none
  bsz : base.objs.size ≤ s.heap.objs.size
  funs : s.heap.FunFrames base outer
  frf : ∀ b ∈ frs outer, H b = none
  hok : HOk P w H s.heap
  bare : AllBare s.gens
/-- a call's end -/
def CE (outer : List Env) (P : Program) (w : World) (H : Hp) (s : Shared) (Q : VK) (u : Value) (s' : Shared) : Prop :=
  ∃ v H', s'.os = s.os ∧ AllBare s'.gens ∧ Un (frs outer) [] H H' s.heap s'.heap ∧ HOk P w H' s'.heap ∧ RelV v u ∧ Q v H'
def CR (CX : CXT) (outer : List Env) (P : Program) (w : World) (H : Hp) (s : Shared) (Q : VK) (E : XK) (r : Result) (s' : Shared) : Prop :=
  match r with
  | .ok (.ret u) => CE outer P w H s Q u s'
  | .ok _ => False
  | .error e => CX outer H s E e s'
structure FnOk (P : Program) (w : World) (K : PySem.W.Frag) (mg : Str → Option Value) (base : Heap) (CX : CXT) (k : Nat) (f : Addr) (fd : FuncData) (ps : List Str) (sp : Sp) : Prop where
  len : ∀ vs H Q E, sp vs H Q E → vs.length = ps.length
  run : ∀ (A : Around) (outer : List Env) (s : Shared) (H : Hp) (args : Args) (us : List Value) (vs : List V) (Q : VK) (E : XK), Room k A → Env0 P w K mg base A outer s H → BindsTo s fd args (ps.zip us) → Vals vs us → sp vs H Q E →
    codeAny (model P w) A (.call (.ref f) args) (CR CX outer P w H s Q E) s
theorem FnOk.mono {P : Program} {w : World} {K : PySem.W.Frag} {mg : Str → Option Value} {base : Heap} {CX : CXT} {j k : Nat} {f : Addr} {fd : FuncData} {ps : List Str} {sp : Sp} (F : FnOk P w K mg base CX j f fd ps sp) (h : j ≤ k) :
    FnOk P w K mg base CX k f fd ps sp := ⟨F.len, fun A outer s H args us vs Q E hr => F.run A outer s H args us vs Q E (hr.mono h)⟩
/-- a weaker promise -/
theorem FnOk.imp {P : Program} {w : World} {K : PySem.W.Frag} {mg : Str → Option Value} {base : Heap} {CX : CXT} {k : Nat} {f : Addr} {fd : FuncData} {ps : List Str} {sp sp' : Sp} (F : FnOk P w K mg base CX k f fd ps sp)
    (h : ∀ vs H Q E, sp' vs H Q E → sp vs H Q E) : FnOk P w K mg base CX k f fd ps sp' :=
  ⟨fun vs H Q E q => F.len vs H Q E (h _ _ _ _ q), fun A outer s H args us vs Q E hr he hb hv hs => F.run A outer s H args us vs Q E hr he hb hv (h _ _ _ _ hs)⟩

theorem Env0.make {P : Program} {w : World} {K : PySem.W.Frag} {mg : Str → Option Value} {base : Heap} {A : Around} {outer : List Env} {s : Shared} {H : Hp} (e : Env0 P w K mg base A outer s H) (C : Addr) (us : List Value) (kw : List (Str × Value)) :
    Env0 P w K mg base (A.under (.builtin "type.__call__" ⟨.ref C :: us, kw⟩)) outer s H := ⟨by first | exact e.frames | (simpa [Around.under, Code.envs, Code.isFrame, pushEnvs] using e.frames), e.mod, e.bs, e.bsz, e.funs, e.frf, e.hok, e.bare⟩
theorem Env0.in1 {P : Program} {w : World} {K : PySem.W.Frag} {mg : Str → Option Value} {base : Heap} {A : Around} {outer : List Env} {s : Shared} {H : Hp} (e : Env0 P w K mg base A outer s H) :
    Env0 P w K mg base A.in1 outer s H := ⟨e.frames, e.mod, e.bs, e.bsz, e.funs, e.frf, e.hok, e.bare⟩

section
variable {X : Cx} {pins : List (Addr × Obj)} {σ : St} {H : Hp} {s s' : Shared}
/-- from a body: what a callee wants -/
theorem Inv.env0 (I : Inv X pins σ H s) : Env0 X.prog X.w X.K X.mg X.base X.A X.stack s H :=
  ⟨I.ok.frames, I.ok.mod, I.bs, Nat.le_trans I.ok.bsz I.sz, I.stack, I.stkFree, I.hok, I.bare⟩
/-- behind a call -/
theorem Inv.after {Q : VK} {u : Value} (I : Inv X pins σ H s) (h : CE X.stack X.prog X.w H s Q u s') : EP X pins σ Q u s' := by
  obtain ⟨v, H', os, bare, un, hok, r, q⟩ := h
  obtain ⟨hh, g, d, t, os'⟩ := s'
  obtain rfl : os' = s.os := os
  exact ⟨v, H', I.call (h' := hh) (g' := g) (d' := d) (t' := t) (ch := []) un hok bare (fun b z => absurd z (by simp)), r, q⟩
end

/-! ### calls -/
/-- f(..): the written arguments, then the defaults dvs; E: what is wanted of an exception -/
def tCall (sp : Sp) (dvs : List V) (E : XK) (t : TA) : TE := fun σ H Q => t σ H fun vs H1 => sp (vs ++ dvs) H1 Q E
/-- o.m(..) of an instance of the class at C -/
def tMeth (C : Addr) (m : Str) (sp : Sp) (dvs : List V) (E : XK) (ta : TE) (t : TA) : TE := fun σ H Q => ta σ H fun x H1 => ∃ a dx fs, x = .ref a ∧ H1 a = some (.ins C dx fs) ∧ fs.lookup m = none ∧
  t σ H1 fun vs H2 => sp (x :: (vs ++ dvs)) H2 Q E
/-- C(..): a new instance and its dict, then __init__ -/
def tMake (C : Addr) (sp : Sp) (dvs : List V) (E : XK) (t : TA) : TE := fun σ H Q => t σ H fun vs H1 => ∀ x dx, H1 x = none → H1 dx = none → dx ≠ x →
  sp (.ref x :: (vs ++ dvs)) (upd (upd H1 dx (.own x)) x (.ins C dx [])) (fun v H2 => v = .non ∧ Q (.ref x) H2) E

/-- how the parameters are bound: us the positional arguments, kw the keywords' values by name, ds the defaults that fill up -/
def Binds (K : PySem.W.Frag) (fd : FuncData) (ps : List Str) (ds : List Value) : Prop :=
  ∀ (s : Shared) (us : List Value), K.In s.heap → (us ++ ds).length = ps.length → BindsTo s fd ⟨us, []⟩ (ps.zip (us ++ ds))
/-- every parameter is given -/
theorem Binds.all {K : PySem.W.Frag} {fd : FuncData} {ps : List Str} (h : ∀ us : List Value, us.length = ps.length → bindArgs fd ⟨us, []⟩ = pure (ps.zip us)) : Binds K fd ps [] := fun s us _ hl => by
  rw [List.append_nil] at hl ⊢
  exact .of_eq (h us hl)

/-- an exception of a callee reaches what this body wants of exceptions -/
def Passes (CX : CXT) (X : Cx) (E : XK) : Prop := ∀ (pins : List (Addr × Obj)) (σ : St) (H : Hp) (s : Shared) (e : Value) (s' : Shared), Inv X pins σ H s → CX X.stack H s E e s' → X.xe e s'

section
variable {X : Cx} {CX : CXT} {k : Nat} {f C : Addr} {fd : FuncData} {ps : List Str} {sp : Sp} {dvs : List V} {ds : List Value} {E : XK} {x m : Str} {p pos apos : Pos} {e o : Expr} {es : List Expr} {ta : TE} {t : TA}

/-- the callee runs -/
theorem run_fn {pins : List (Addr × Obj)} {σ : St} {H : Hp} {s : Shared} {Q : VK} {us : List Value} {vs : List V} (F : FnOk X.prog X.w X.K X.mg X.base CX k f fd ps sp) (hr : Room k X.A) (hb : Binds X.K fd ps ds) (hd : Vals dvs ds) (hx : Passes CX X E)
    (I : Inv X pins σ H s) (r : Vals vs us) (h : sp (vs ++ dvs) H Q E) : wpAny (model X.prog X.w) X.A (call (.ref f) us) (EP X pins σ Q) X.xe s := by
  have r2 : Vals (vs ++ dvs) (us ++ ds) := r.append hd
  have hl : (us ++ ds).length = ps.length := by rw [← r2.length]; exact F.len _ _ _ _ h
  refine wpAny_call (codeAny_mono (F.run X.A X.stack s H ⟨us, []⟩ (us ++ ds) (vs ++ dvs) Q E hr I.env0 (hb s us I.kIn hl) r2 h) fun r s' hq => ?_)
  cases r with
  | error e => exact hx pins σ H s e s' I hq
  | ok fl =>
    cases fl with
    | ret u => exact I.after hq
    | next => exact False.elim hq
    | brk => exact False.elim hq
    | cont => exact False.elim hq

theorem pe_call (F : FnOk X.prog X.w X.K X.mg X.base CX k f fd ps sp) (hr : Room k X.A) (hg : Gl X x) (hm : X.mg x = some (.ref f)) (hk : PySem.W.keepIn X.K (.ref f) = true) (hb : Binds X.K fd ps ds) (hd : Vals dvs ds) (hx : Passes CX X E)
    (ha : PA X (e :: es) t) (hdb : (x == ("__debug__" : Str)) = false := by decide) (he : starEach (e :: es) X.env = (false, eval e X.env) :: starEach es X.env := by rfl) (hpl : (backTo pos (starEach es X.env)).any (·.1) = false := by rfl) :
    PE X (.Call (.Name x p) (e :: es) [] pos) (tCall sp dvs E t) := by
  intro pins s σ H Q I h
  refine wpAny_Call_Name_kw (ld_glob I hg hm ?_ hdb)
  refine PySem.W.callWith_K (h₀ := X.base) I.ok.mod.kin hk (thn (ha pos pins s σ H _ I h) fun us s1 ⟨vs, H1, I1, r, q⟩ => ⟨I1.kIn, ?_⟩) he hpl
  exact run_fn F hr hb hd hx I1 r q
theorem pe_call0 (F : FnOk X.prog X.w X.K X.mg X.base CX k f fd ps sp) (hr : Room k X.A) (hg : Gl X x) (hm : X.mg x = some (.ref f)) (hk : PySem.W.keepIn X.K (.ref f) = true) (hb : Binds X.K fd ps ds) (hd : Vals dvs ds) (hx : Passes CX X E)
    (hdb : (x == ("__debug__" : Str)) = false := by decide) : PE X (.Call (.Name x p) [] [] pos) (tCall sp dvs E tNil) := by
  intro pins s σ H Q I h
  refine wpAny_Call_Name_kw (ld_glob I hg hm ?_ hdb)
  exact PySem.W.callWith_K0 I.kIn hk (run_fn (us := []) F hr hb hd hx I .nil h)

/-- o.m(e, ..) -/
theorem pe_meth {pl : Sem Bool} (he : PE X o ta) (c : Cls X.K C) (hm : Meth X.K C m f) (F : FnOk X.prog X.w X.K X.mg X.base CX k f fd ps sp) (hr : Room k X.A) (hb : Binds X.K fd ps ds) (hd : Vals dvs ds) (hx : Passes CX X E) (ha : PA X (e :: es) t)
    (hst : starEach (e :: es) X.env = (false, eval e X.env) :: starEach es X.env := by rfl) (hpl : (backTo pos (starEach es X.env)).any (·.1) = false := by rfl)
    (ht : eval (.Call (.Attribute o m apos) (e :: es) [] pos) X.env = (do
      let ov ← eval o X.env
      standAt apos.atName
      let (f, first) ← holding [ov] (getMethod ov m pl)
      callWith pos f first (backTo pos (starEach (e :: es) X.env)) (backToKw pos (keywordEach [] X.env))) := by rfl) :
    PE X (.Call (.Attribute o m apos) (e :: es) [] pos) (tMeth C m sp dvs E ta t) := by
  intro pins s σ H Q I h
  refine PySem.W.methodCall_KW (pl := pl) (thn (he pins s σ H _ I h) fun u s1 ⟨x, H1, I1, rx, a, dx, fs, ex, ea, l, q⟩ => ?_) ht
  subst ex
  obtain rfl : u = Value.ref a := rx
  refine getmeth_ok I1 ea c hm l ?_
  refine PySem.W.callWith_K (first := [.ref a]) (h₀ := X.base) I.ok.mod.kin hm.kp (thn (ha pos pins s1 σ H1 _ I1 q) fun us s2 ⟨vs, H2, I2, r, q2⟩ => ⟨I2.kIn, ?_⟩) hst hpl
  exact run_fn (us := .ref a :: us) (vs := .ref a :: vs) F hr hb hd hx I2 (.cons rfl r) q2
/-- o.m() -/
theorem pe_meth0 {pl : Sem Bool} (he : PE X o ta) (c : Cls X.K C) (hm : Meth X.K C m f) (F : FnOk X.prog X.w X.K X.mg X.base CX k f fd ps sp) (hr : Room k X.A) (hb : Binds X.K fd ps ds) (hd : Vals dvs ds) (hx : Passes CX X E)
    (ht : eval (.Call (.Attribute o m apos) [] [] pos) X.env = (do
      let ov ← eval o X.env
      standAt apos.atName
      let (f, first) ← holding [ov] (getMethod ov m pl)
      callWith pos f first (backTo pos (starEach [] X.env)) (backToKw pos (keywordEach [] X.env))) := by rfl) :
    PE X (.Call (.Attribute o m apos) [] [] pos) (tMeth C m sp dvs E ta tNil) := by
  intro pins s σ H Q I h
  refine PySem.W.methodCall_KW (pl := pl) (thn (he pins s σ H _ I h) fun u s1 ⟨x, H1, I1, rx, a, dx, fs, ex, ea, l, q⟩ => ?_) ht
  subst ex
  obtain rfl : u = Value.ref a := rx
  refine getmeth_ok I1 ea c hm l ?_
  exact PySem.W.callWith_K0 (first := [.ref a]) I1.kIn hm.kp (run_fn (us := [.ref a]) (vs := [.ref a]) F hr hb hd hx I1 (.cons rfl .nil) q)

/-- what a class must have to be made -/
structure Mk (K : PySem.W.Frag) (C f : Addr) : Prop where
  makes : PySem.W.makesIn K C = true
  init : PySem.W.findIn K (.ref C) "__init__" = some (some (.ref f))
  fn : PySem.W.isFn K (.ref f) = true
  kp : PySem.W.keepIn K (.ref C) = true

theorem run_make {pins : List (Addr × Obj)} {σ : St} {H : Hp} {s : Shared} {Q : VK} {us : List Value} {vs : List V} (M : Mk X.K C f) (F : FnOk X.prog X.w X.K X.mg X.base CX k f fd ps sp) (hr : Room (k + 1) X.A) (hb : Binds X.K fd ps ds) (hd : Vals dvs ds)
    (hx : Passes CX X E) (I : Inv X pins σ H s) (r : Vals vs us)
    (h : ∀ x dx, H x = none → H dx = none → dx ≠ x → sp (.ref x :: (vs ++ dvs)) (upd (upd H dx (.own x)) x (.ins C dx [])) (fun v H2 => v = .non ∧ Q (.ref x) H2) E) :
    wpAny (model X.prog X.w) X.A (call (.ref C) us) (EP X pins σ Q) X.xe s := by
  have hq := h (s.heap.objs.size + 1) s.heap.objs.size (I.hok.fresh (Nat.le_succ _)) (I.hok.fresh (Nat.le_refl _)) (Nat.ne_of_lt (Nat.lt_succ_self _))
  have I2 := Inv.made (C := C) I
  have r2 : Vals (V.ref (s.heap.objs.size + 1) :: (vs ++ dvs)) (Value.ref (s.heap.objs.size + 1) :: (us ++ ds)) := .cons rfl (r.append hd)
  have hl : (Value.ref (s.heap.objs.size + 1) :: us ++ ds).length = ps.length := by
    have e := r2.length
    rw [F.len _ _ _ _ hq] at e
    exact e.symm
  refine wpAny_call (make_map (f := f) I.kIn M.makes M.init (beq_iff_eq.mp M.fn) (codeAny_mono (F.run _ X.stack _ _ ⟨Value.ref (s.heap.objs.size + 1) :: us, []⟩ (Value.ref (s.heap.objs.size + 1) :: (us ++ ds)) _ _ E (hr.make C us [])
    (I2.env0.make C us []) (hb _ (Value.ref (s.heap.objs.size + 1) :: us) I2.kIn hl) r2 hq) fun r s' hq' => ?_))
  cases r with
  | error e => exact hx pins σ _ _ e s' I2 hq'
  | ok fl =>
    cases fl with
    | ret u =>
      obtain ⟨v, H', I3, rv, ev, q3⟩ := I2.after hq'
      subst ev
      exact ⟨rv, ⟨V.ref (s.heap.objs.size + 1), H', I3, rfl, q3⟩⟩
    | next => exact False.elim hq'
    | brk => exact False.elim hq'
    | cont => exact False.elim hq'
theorem pe_make (M : Mk X.K C f) (F : FnOk X.prog X.w X.K X.mg X.base CX k f fd ps sp) (hr : Room (k + 1) X.A) (hg : Gl X x) (hm : X.mg x = some (.ref C)) (hb : Binds X.K fd ps ds) (hd : Vals dvs ds) (hx : Passes CX X E)
    (ha : PA X (e :: es) t) (hdb : (x == ("__debug__" : Str)) = false := by decide) (he : starEach (e :: es) X.env = (false, eval e X.env) :: starEach es X.env := by rfl) (hpl : (backTo pos (starEach es X.env)).any (·.1) = false := by rfl) :
    PE X (.Call (.Name x p) (e :: es) [] pos) (tMake C sp dvs E t) := by
  intro pins s σ H Q I h
  refine wpAny_Call_Name_kw (ld_glob I hg hm ?_ hdb)
  refine PySem.W.callWith_K (h₀ := X.base) I.ok.mod.kin M.kp (thn (ha pos pins s σ H _ I h) fun us s1 ⟨vs, H1, I1, r, q⟩ => ⟨I1.kIn, ?_⟩) he hpl
  exact run_make M F hr hb hd hx I1 r q
end

/-! ### keywords -/
/-- the values of the keywords, from the left -/
def PK (X : Cx) (kws : List Keyword) (t : TA) : Prop :=
  ∀ (pos : Pos) (pins : List (Addr × Obj)) (s : Shared) (σ : St) (H : Hp) (Q : List V → Hp → Prop), Inv X pins σ H s → t σ H Q → wpAny (model X.prog X.w) X.A (evalAll ((backToKw pos (keywordEach kws X.env)).map (·.2))) (AP X pins σ Q) X.xe s
section
variable {X : Cx} {CX : CXT} {k : Nat} {f C : Addr} {fd : FuncData} {ps ks : List Str} {sp : Sp} {E : XK} {x m : Str} {p pos apos kpos : Pos} {e o : Expr} {es : List Expr} {kws : List Keyword} {te ta : TE} {t tk : TA} {nm : Option Str}

/-- how a call with keywords binds: g puts the positional values us and the keywords' values ws (names ks) in the parameters' order, defaults among them -/
structure KBinds (K : PySem.W.Frag) (fd : FuncData) (ps ks : List Str) (g : List Value → List Value → List Value) (gV : List V → List V → List V) : Prop where
  to : ∀ (s : Shared) (us ws : List Value), K.In s.heap → (g us ws).length = ps.length → BindsTo s fd ⟨us, ks.zip ws⟩ (ps.zip (g us ws))
  rel : ∀ {vs : List V} {us : List Value} {zs : List V} {ws : List Value}, Vals vs us → Vals zs ws → Vals (gV vs zs) (g us ws)
def tCallK (sp : Sp) (gV : List V → List V → List V) (E : XK) (t tk : TA) : TE := fun σ H Q => t σ H fun vs H1 => tk σ H1 fun zs H2 => sp (gV vs zs) H2 Q E
variable {g : List Value → List Value → List Value} {gV : List V → List V → List V}
end

/-! ### a def's body keeps its promise -/
/-- names: the parameters first -/
structure FnScope (N P : List Str) (sc : Scope) : Prop where
  kind : sc.kind = .function
  co : sc.isCoroutine = false
  gen : sc.isGenerator = false
  nd : N.Nodup
  pre : N.take P.length = P
  par : ∀ x ∈ P, sc.names.lookup x = some .local ∨ sc.names.lookup x = some .cell
  nofree : ∀ y ∈ sc.names, y.2 ≠ .free

theorem bindL_out {kindOf : Str → Option NameKind} {x : Str} : ∀ {binds : List (Str × Value)} {m : Str → Option Value}, (∀ v, (x, v) ∉ binds) → bindL kindOf binds m x = m x
  | [], _, _ => rfl
  | (n, v) :: r, m, h => by
    unfold bindL
    rw [bindL_out fun w hw => h w (List.mem_cons_of_mem _ hw)]
    split
    · have : x ≠ n := by rintro rfl; exact h v List.mem_cons_self
      simp [this]
    · rfl
theorem bindC_out {kindOf : Str → Option NameKind} {x : Str} : ∀ {binds : List (Str × Value)} {m : Str → Option Value}, (∀ v, (x, v) ∉ binds) → bindC kindOf binds m x = m x
  | [], _, _ => rfl
  | (n, v) :: r, m, h => by
    unfold bindC
    rw [bindC_out fun w hw => h w (List.mem_cons_of_mem _ hw)]
    split
    · rfl
    · have : x ≠ n := by rintro rfl; exact h v List.mem_cons_self
      simp [this]
theorem bindL_get {kindOf : Str → Option NameKind} {x : Str} {v : Value} : ∀ {P : List Str} {vs : List Value} {i : Nat} {m : Str → Option Value}, P.Nodup → P[i]? = some x → vs[i]? = some v → kindOf x = some .local →
    bindL kindOf (P.zip vs) m x = some v
  | [], _, _, _, _, h, _, _ => by simp at h
  | _ :: _, [], _, _, _, _, h, _ => by simp at h
  | p :: P, w :: vs, 0, m, nd, h1, h2, hk => by
    simp at h1 h2; subst h1; subst h2
    show bindL kindOf ((p, w) :: P.zip vs) m p = _
    unfold bindL
    rw [bindL_out fun v hv => (List.nodup_cons.mp nd).1 (List.of_mem_zip hv).1, if_pos hk]
    simp
  | p :: P, w :: vs, i + 1, m, nd, h1, h2, hk => by
    show bindL kindOf ((p, w) :: P.zip vs) m x = _
    unfold bindL
    exact bindL_get (i := i) (List.nodup_cons.mp nd).2 (by simpa using h1) (by simpa using h2) hk
theorem bindC_get {kindOf : Str → Option NameKind} {x : Str} {v : Value} : ∀ {P : List Str} {vs : List Value} {i : Nat} {m : Str → Option Value}, P.Nodup → P[i]? = some x → vs[i]? = some v → kindOf x ≠ some .local →
    bindC kindOf (P.zip vs) m x = some v
  | [], _, _, _, _, h, _, _ => by simp at h
  | _ :: _, [], _, _, _, _, h, _ => by simp at h
  | p :: P, w :: vs, 0, m, nd, h1, h2, hk => by
    simp at h1 h2; subst h1; subst h2
    show bindC kindOf ((p, w) :: P.zip vs) m p = _
    unfold bindC
    rw [bindC_out fun v hv => (List.nodup_cons.mp nd).1 (List.of_mem_zip hv).1, if_neg hk]
    simp
  | p :: P, w :: vs, i + 1, m, nd, h1, h2, hk => by
    show bindC kindOf ((p, w) :: P.zip vs) m x = _
    unfold bindC
    exact bindC_get (i := i) (List.nodup_cons.mp nd).2 (by simpa using h1) (by simpa using h2) hk

/-- the names' values at the entry -/
def start (N : List Str) (vs : List V) : St := vs.map some ++ List.replicate (N.length - vs.length) none

/-- the context of a def's body, at its entry; an exception leaves the frame, then lies as CX says -/
def cxOf (CX : CXT) (P : Program) (w : World) (K : PySem.W.Frag) (mg : Str → Option Value) (base : Heap) (N : List Str) (qual : Str) (scope : Scope) (f : Addr) (cd : Value) (A : Around) (outer : List Env) (s : Shared) (H : Hp) (E : XK) : Cx where
  prog := P
  w := w
  K := K
  mg := mg
  base := base
  A := A.deeper (envOfC qual scope s.heap.objs.size f cd)
  N := N
  s₀ := s
  H₀ := H
  env := envOfC qual scope s.heap.objs.size f cd
  outer := outer
  stack := envOfC qual scope s.heap.objs.size f cd :: outer
  ex := []
  calm := true
  fn := fun _ => true
  pn := []
  xe := fun e s' => wpAny (model P w) (A.deeper (envOfC qual scope s.heap.objs.size f cd)) (leaving (envOfC qual scope s.heap.objs.size f cd) e) (fun _ s'' => CX outer H s E e s'') (fun e' s'' => CX outer H s E e' s'') s'

theorem cell_has {sc : Scope} {n : Nat} {x : Str} (h : sc.names.lookup x = some .cell) : ∃ c, (cellsFrom n sc.names []).lookup x = some c := by
  have q := PySem.W.cellsFrom_some sc.names n [] (.inl h)
  exact Option.isSome_iff_exists.mp q

theorem inv_start {CX : CXT} {P : Program} {w : World} {K : PySem.W.Frag} {mg : Str → Option Value} {base : Heap} {N ps : List Str} {qual : Str} {scope : Scope} {f : Addr} {cd : Value} {A : Around} {outer : List Env} {s s1 : Shared} {H : Hp} {E : XK} {us : List Value} {vs : List V}
    (S : FnScope N ps scope) (hd : A.handled = none) (e0 : Env0 P w K mg base A outer s H) (hl : vs.length = ps.length) (r : Vals vs us)
    (x : InCallC s s.heap.objs.size (bindL (envOfC qual scope s.heap.objs.size f cd).kindOf (ps.zip us) fun _ => none) (cellsFrom (s.heap.objs.size + 1) scope.names []) (bindC (envOfC qual scope s.heap.objs.size f cd).kindOf (ps.zip us) fun _ => none) s1) :
    Inv (cxOf CX P w K mg base N qual scope f cd A outer s H E) [] (start N vs) H s1 := by
  have hpl : ps.length ≤ N.length := by have := congrArg List.length S.pre; rw [List.length_take] at this; omega
  obtain ⟨h1, tk, rfl, hk⟩ := x.done
  have noA : ∀ b : Addr, b ∉ (cxOf CX P w K mg base N qual scope f cd A outer s H E).ex := fun b z => absurd (show b ∈ ([] : List Addr) from z) (by simp)
  refine ⟨⟨e0.mod, S.kind, rfl, rfl, Nat.le_refl _, fun y z c h1 h2 => ?_, fun y hy => ?_, fun y c _ h => ?_, fun _ => hd, Around.frames_deeper e0.frames, .inr ⟨rfl, rfl⟩, fun b z => absurd z (noA b), e0.bs, e0.bsz, fun b _ _ => noA b, fun b z => absurd z (noA b), e0.funs, e0.frf⟩,
    rfl, e0.bare, Un.kept hk, ⟨_, x.toInCall.ns, fun i y v h1 h2 h3 => ?_⟩, fun y c h => ⟨_, x.cell y c h⟩, e0.hok.fresh (Nat.le_refl _), fun y c h => ?_, fun p hp => absurd (show p ∈ ([] : List (Addr × Obj)) from hp) (by simp), e0.hok.kept hk, ?_⟩
  · exact name_of_addr x.apart (PySem.mem_of_lookup h1) (PySem.mem_of_lookup h2)
  · have hy : scope.names.lookup y = some .cell ∨ scope.names.lookup y = some .free := hy
    rcases hy with hy | hy
    · exact cell_has hy
    · exact absurd rfl (S.nofree _ (PySem.mem_of_lookup hy))
  · exact Nat.le_of_lt (x.above y c (PySem.mem_of_lookup h))
  · have hi : i < vs.length := by
      unfold start at h2
      by_cases hi : i < vs.length
      · exact hi
      · rw [List.getElem?_append_right (by simpa using hi)] at h2
        rw [List.getElem?_replicate] at h2
        split at h2 <;> cases h2
    have ha : vs[i]? = some v := by
      unfold start at h2
      rw [List.getElem?_append_left (by simpa using hi), List.getElem?_map] at h2
      cases e : vs[i]? with
      | none => rw [e] at h2; cases h2
      | some a => rw [e] at h2; cases h2; rfl
    obtain ⟨u, hu, rv⟩ := r.get ha
    have hp : ps[i]? = some y := by
      rw [← S.pre, List.getElem?_take_of_lt (by omega)]; exact h1
    have ndP : ps.Nodup := by rw [← S.pre]; exact S.nd.sublist (List.take_sublist _ _)
    refine ⟨u, rv, ?_⟩
    rcases S.par y (List.mem_of_getElem? hp) with k | k
    · exact .inl ⟨k, bindL_get ndP hp hu k⟩
    · obtain ⟨c, e⟩ := cell_has (n := s.heap.objs.size + 1) k
      refine .inr ⟨.inl k, c, e, ?_⟩
      have q := x.cell y c e
      rw [bindC_get ndP hp hu (by show scope.names.lookup y ≠ _; rw [k]; decide)] at q
      exact q
  · exact e0.hok.fresh (Nat.le_of_lt (x.above y c (PySem.mem_of_lookup h)))
  · unfold start
    show _ = N.length
    rw [List.length_append, List.length_map, List.length_replicate]
    omega

/-- THE RULE: a def (or a method) of the text, by its body. The body's reading t is chosen for each entry; it is run at the parameters' values -/
theorem fn_of {CX : CXT} {P : Program} {w : World} {K : PySem.W.Frag} {mg : Str → Option Value} {base : Heap} {k : Nat} {f : Addr} {name qual : Str} {params : Arguments} {body : List Stmt} {scope : Scope} {dV kV doc pm cdv ct oc : Value} {an od : Option Addr}
    {osl : Array (Option Value)} {N ps : List Str} {sp : Sp} (lk : K.lookup f = some ⟨oc, od, .func (PySem.W.fnOf name qual params body scope dV kV doc pm an cdv ct), osl⟩) (hcd : PySem.W.codeIn K cdv qual = true) (S : FnScope N ps scope)
    (len : ∀ vs H Q E, sp vs H Q E → vs.length = ps.length)
    (hbody : ∀ (A : Around) (outer : List Env) (s : Shared) (H : Hp) (vs : List V) (Q : VK) (E : XK), Room k (A.deeper (envOfC qual scope s.heap.objs.size f cdv)) → sp vs H Q E →
      ∃ t, PSs (cxOf CX P w K mg base N qual scope f cdv A outer s H E) body t ∧ t { nx := fun _ H' => Q .non H', rt := Q } (start N vs) H) :
    FnOk P w K mg base CX (k + 1) f (PySem.W.fnOf name qual params body scope dV kV doc pm an cdv ct) ps sp := by
  refine ⟨len, fun A outer s H args us vs Q E hr e0 hb r hsp => ?_⟩
  have hl := len _ _ _ _ hsp
  have KX : K.In s.heap := e0.mod.kin.keeps fun b o e => (e0.bs b o e).1
  have lim : s.heap.NoLimit := e0.mod.nolimit.keeps fun b o e => (e0.bs b o e).1
  have hkind : ∀ y ∈ ps.zip us, scope.names.lookup y.1 = some .local ∨ (scope.names.lookup y.1 = some .cell ∧ ((cellsFrom (s.heap.objs.size + 1) scope.names []).lookup y.1).isSome = true) := fun ⟨n, v⟩ hy => by
    rcases S.par n (List.of_mem_zip hy).1 with q | q
    · exact .inl q
    · exact .inr ⟨q, PySem.W.cellsFrom_some _ _ _ (.inl q)⟩
  refine codeAny_call_function hr.depth (KX _ _ lk) rfl S.co S.gen rfl (PySem.W.codeRec_of KX hcd) (hb _ _ _ _ ?_)
  refine wpAny_newFunctionEnv_cells S.kind hkind fun env he s1 x => ?_
  subst he
  refine ⟨lim.keeps x.toInCall.keep, codeAny_func ?_⟩
  obtain ⟨t, ht, hq⟩ := hbody A outer s H vs Q E (hr.deeper _) hsp
  have I : Inv (cxOf CX P w K mg base N qual scope f cdv A outer s H E) [] (start N vs) H s1 := inv_start S hr.hd e0 hl r x
  refine wpAny_mono (ht [] s1 (start N vs) H _ I hq) (fun fl s' hs => ?_) fun e s' hs => hs
  have fin : ∀ {σ' : St} {H' : Hp} {v : V} {u : Value}, Inv (cxOf CX P w K mg base N qual scope f cdv A outer s H E) [] σ' H' s' → RelV v u → Q v H' → CE outer P w H s Q u s' :=
    fun {σ' H' v u} J rv q => ⟨v, H', J.os, J.bare, J.base, J.hok, rv, q⟩
  cases fl with
  | ret u =>
    obtain ⟨v, σ', H', J, rv, q⟩ := hs
    exact fin J rv q
  | next =>
    obtain ⟨σ', H', J, q⟩ := hs
    exact fin (v := V.non) (u := Value.none) J rfl q
  | brk =>
    obtain ⟨_, _, _, q⟩ := hs
    exact False.elim q
  | cont =>
    obtain ⟨_, _, _, q⟩ := hs
    exact False.elim q
end L2

namespace L2
open PySem PySem.Spec PyProof.Rows
section
variable {X : Cx} {x : Str} {p pos : Pos} {e : Expr} {es : List Expr} {t : TA} {id T : String} {r : List V → Hp → VK → Prop}

def tCB (r : List V → Hp → VK → Prop) (t : TA) : TE := fun σ H Q => t σ H fun vs H1 => r vs H1 Q
/-- f(e, ..), f a built-in function -/
theorem pe_callB (hc : CallR X (.builtin id) r) (hg : Gl X x) (hm : X.mg x = none) (hv : bootBuiltins x = some (.builtin id)) (ha : PA X (e :: es) t) (hn : x ≠ "__name__" := by decide) (hdb : (x == ("__debug__" : Str)) = false := by decide)
    (he : starEach (e :: es) X.env = (false, eval e X.env) :: starEach es X.env := by rfl) (hpl : (backTo pos (starEach es X.env)).any (·.1) = false := by rfl) : PE X (.Call (.Name x p) (e :: es) [] pos) (tCB r t) := by
  intro pins s σ H Q I h
  refine wpAny_Call_Name_kw (ld_blt I hg hm hv ?_ hn hdb)
  exact PyProof.Rows.callWith_builtin1 (thn (ha pos pins s σ H _ I h) fun us s1 ⟨vs, H1, I1, r1, q1⟩ => hc pins s1 σ H1 vs us Q I1 r1 q1) he hpl
/-- T(e, ..), T a built-in type -/
theorem pe_callTy (hc : CallR X (.type T) r) (hg : Gl X x) (hm : X.mg x = none) (hv : bootBuiltins x = some (.type T)) (ha : PA X (e :: es) t) (hn : x ≠ "__name__" := by decide) (hdb : (x == ("__debug__" : Str)) = false := by decide)
    (he : starEach (e :: es) X.env = (false, eval e X.env) :: starEach es X.env := by rfl) (hpl : (backTo pos (starEach es X.env)).any (·.1) = false := by rfl) : PE X (.Call (.Name x p) (e :: es) [] pos) (tCB r t) := by
  intro pins s σ H Q I h
  refine wpAny_Call_Name_kw (ld_blt I hg hm hv ?_ hn hdb)
  exact PyProof.Rows.callWith_type1 (thn (ha pos pins s σ H _ I h) fun us s1 ⟨vs, H1, I1, r1, q1⟩ => hc pins s1 σ H1 vs us Q I1 r1 q1) he hpl
end
end L2

namespace L2
open PySem PySem.Spec PyProof.Rows

/-! ### lists of pairs as tables -/
section
variable {κ : Type} [DecidableEq κ]
def valV (kvs : List (κ × V)) (k : κ) : Option V := (kvs.find? fun kv => decide (kv.1 = k)).map (·.2)
/-- in its place, or at the end -/
def putK (kvs : List (κ × V)) (k : κ) (v : V) : List (κ × V) :=
  if (kvs.any fun kv => decide (kv.1 = k)) = true then kvs.map (fun kv => if kv.1 = k then (kv.1, v) else kv) else kvs ++ [(k, v)]
def dropK (kvs : List (κ × V)) (k : κ) : List (κ × V) := kvs.filter fun kv => decide (kv.1 ≠ k)

theorem valV_nil {k : κ} : valV ([] : List (κ × V)) k = none := rfl
theorem valV_pos {p : κ × V} {r : List (κ × V)} {k : κ} (e : p.1 = k) : valV (p :: r) k = some p.2 := by simp [valV, List.find?_cons, e]
theorem valV_neg {p : κ × V} {r : List (κ × V)} {k : κ} (e : ¬ p.1 = k) : valV (p :: r) k = valV r k := by simp [valV, List.find?_cons, e]
theorem valV_any (k : κ) : ∀ kvs : List (κ × V), (kvs.any fun kv => decide (kv.1 = k)) = (valV kvs k).isSome
  | [] => rfl
  | p :: r => by
    rw [List.any_cons]
    by_cases e : p.1 = k
    · simp only [valV_pos e, decide_eq_true e, Bool.true_or, Option.isSome_some]
    · rw [valV_neg e, decide_eq_false e, Bool.false_or]; exact valV_any k r
theorem length_putK (kvs : List (κ × V)) (k : κ) (v : V) : (putK kvs k v).length ≤ kvs.length + 1 := by
  unfold putK
  split
  · rw [List.length_map]; omega
  · rw [List.length_append, List.length_cons, List.length_nil]; omega

theorem RelO.isSome_eq {o : Option V} {u : Option Value} (r : RelO o u) : o.isSome = u.isSome := by
  cases o with
  | none => cases u with
    | none => rfl
    | some _ => exact (show False from r).elim
  | some _ => cases u with
    | none => exact (show False from r).elim
    | some _ => rfl
theorem RelO.getD {o : Option V} {u : Option Value} {d : V} {d' : Value} (r : RelO o u) (rd : RelV d d') : RelV (o.getD d) (u.getD d') := by
  cases o with
  | none => cases u with
    | none => exact rd
    | some _ => exact (show False from r).elim
  | some _ => cases u with
    | none => exact (show False from r).elim
    | some _ => exact r

/-- raw tables of the same keys -/
theorem KV.val {kvs : List (κ × V)} {vs : List (κ × Value)} (r : KV kvs vs) (k : κ) : RelO (valV kvs k) (valueAt vs k) := by
  unfold KV at r
  induction r with
  | nil => exact True.intro
  | @cons p q ps qs h t ih =>
    obtain ⟨h1, h2⟩ := h
    by_cases e : p.1 = k
    · have e' : q.1 = k := h1.symm.trans e
      have b : valueAt (q :: qs) k = some q.2 := by simp [valueAt, List.find?_cons, e']
      rw [valV_pos e, b]; exact h2
    · have e' : ¬ q.1 = k := fun z => e (h1.trans z)
      have b : valueAt (q :: qs) k = valueAt qs k := by simp [valueAt, List.find?_cons, e']
      rw [valV_neg e, b]; exact ih
theorem KV.any {kvs : List (κ × V)} {vs : List (κ × Value)} (r : KV kvs vs) (k : κ) : (kvs.any fun kv => decide (kv.1 = k)) = vs.any fun kv => decide (kv.1 = k) := by
  unfold KV at r
  induction r with
  | nil => rfl
  | cons h t ih => rw [List.any_cons, List.any_cons, ih, h.1]
theorem KV.repl {kvs : List (κ × V)} {vs : List (κ × Value)} (r : KV kvs vs) (k : κ) {y : V} {u : Value} (ry : RelV y u) :
    KV (kvs.map fun kv => if kv.1 = k then (kv.1, y) else kv) (vs.map fun kv => if kv.1 = k then (kv.1, u) else kv) := by
  unfold KV at r ⊢
  induction r with
  | nil => exact .nil
  | @cons p q ps qs h t ih =>
    rw [List.map_cons, List.map_cons]
    refine .cons ?_ ih
    obtain ⟨h1, h2⟩ := h
    by_cases e : p.1 = k
    · rw [if_pos e, if_pos (h1.symm.trans e)]; exact ⟨h1, ry⟩
    · rw [if_neg e, if_neg (fun z => e (h1.trans z))]; exact ⟨h1, h2⟩
theorem KV.put {kvs : List (κ × V)} {vs : List (κ × Value)} (r : KV kvs vs) (k : κ) {y : V} {u : Value} (ry : RelV y u) : KV (putK kvs k y) (stored vs k u) := by
  unfold putK stored
  rw [r.any k]
  by_cases e : (vs.any fun kv => decide (kv.1 = k)) = true
  · rw [if_pos e, if_pos e]; exact r.repl k ry
  · rw [if_neg e, if_neg e]; exact Paired.snoc r ⟨rfl, ry⟩
theorem KV.drop {kvs : List (κ × V)} {vs : List (κ × Value)} (r : KV kvs vs) (k : κ) : KV (dropK kvs k) (without vs k) := by
  unfold KV at r ⊢
  unfold dropK without
  induction r with
  | nil => exact .nil
  | @cons p q ps qs h t ih =>
    obtain ⟨h1, h2⟩ := h
    rw [List.filter_cons, List.filter_cons]
    by_cases e : p.1 = k
    · have a : ¬ decide (p.1 ≠ k) = true := by simp [e]
      have b : ¬ decide (q.1 ≠ k) = true := by simp [h1.symm.trans e]
      rw [if_neg a, if_neg b]; exact ih
    · have e' : ¬ q.1 = k := fun z => e (h1.trans z)
      have a : decide (p.1 ≠ k) = true := by simp [e]
      have b : decide (q.1 ≠ k) = true := by simp [e']
      rw [if_pos a, if_pos b]; exact .cons ⟨h1, h2⟩ ih
theorem KV.keys {kvs : List (κ × V)} {vs : List (κ × Value)} (r : KV kvs vs) : kvs.map (·.1) = vs.map (·.1) := by
  unfold KV at r
  induction r with
  | nil => rfl
  | cons h t ih => rw [List.map_cons, List.map_cons, ih, h.1]
theorem KV.length {kvs : List (κ × V)} {vs : List (κ × Value)} (r : KV kvs vs) : kvs.length = vs.length := Paired.length r
end


/-! ### a tracked dict, its keys ints and texts or tuples of these -/
theorem kV_is {P : Program} {w : World} {k : Key} {u : Value} (r : RelV (kV k) u) : (mixKind P w).is k u = true := by
  cases k with
  | inl i => obtain ⟨t, e⟩ := (show ∃ t, u = Value.int i t from r); subst e; exact mixKind_int P w i t
  | inr x => obtain ⟨t, e⟩ := (show ∃ t, u = Value.str x t from r); subst e; exact mixKind_str P w x t
theorem items_are {P : Program} {w : World} : ∀ {ks : List Key} {us : List Value}, Vals (ks.map kV) us → ItemsAre (mixKind P w) ks us
  | [], _, r => by rw [List.map_nil] at r; cases r; exact .nil
  | k :: ks, _, r => by
    rw [List.map_cons] at r
    cases r with
    | cons h t => exact .cons (kV_is h) (items_are t)

/-- raw entries of a dict with tuple keys -/
abbrev KT (H : Hp) : List (List Key × V) → List (List Key × Addr × Value) → Prop := Paired fun p q => p.1 = q.1 ∧ H q.2.1 = some (.tup (p.1.map kV)) ∧ RelV p.2 q.2.2
theorem KT.val {H : Hp} {kvs : List (List Key × V)} {xs : List (List Key × Addr × Value)} (r : KT H kvs xs) (k : List Key) : RelO (valV kvs k) ((atKey xs k).map (·.2)) := by
  induction r with
  | nil => exact True.intro
  | @cons p q ps qs h t ih =>
    obtain ⟨h1, _, h2⟩ := h
    by_cases e : p.1 = k
    · have e' : q.1 = k := h1.symm.trans e
      have b : atKey (q :: qs) k = some q.2 := by simp [atKey, List.find?_cons, e']
      rw [valV_pos e, b]; exact h2
    · have e' : ¬ q.1 = k := fun z => e (h1.trans z)
      have b : atKey (q :: qs) k = atKey qs k := by simp [atKey, List.find?_cons, e']
      rw [valV_neg e, b]; exact ih
theorem KT.repl {H : Hp} {kvs : List (List Key × V)} {xs : List (List Key × Addr × Value)} (r : KT H kvs xs) (k : List Key) {y : V} {u : Value} (ry : RelV y u) :
    KT H (kvs.map fun kv => if kv.1 = k then (kv.1, y) else kv) (xs.map (putAt k u)) := by
  induction r with
  | nil => exact .nil
  | @cons p q ps qs h t ih =>
    rw [List.map_cons, List.map_cons]
    refine .cons ?_ ih
    obtain ⟨h1, h2, h3⟩ := h
    unfold putAt
    by_cases e : p.1 = k
    · rw [if_pos e, if_pos (h1.symm.trans e)]; exact ⟨h1, h2, ry⟩
    · rw [if_neg e, if_neg (fun z => e (h1.trans z))]; exact ⟨h1, h2, h3⟩
theorem KT.put {H : Hp} {kvs : List (List Key × V)} {xs : List (List Key × Addr × Value)} (r : KT H kvs xs) (k : List Key) {b : Addr} {y : V} {u : Value} (hb : H b = some (.tup (k.map kV))) (ry : RelV y u) :
    KT H (putK kvs k y) (storedH xs k b u) := by
  have e : (kvs.any fun kv => decide (kv.1 = k)) = (atKey xs k).isSome := by
    rw [valV_any, (r.val k).isSome_eq, Option.isSome_map]
  unfold putK storedH
  rw [e]
  by_cases q : (atKey xs k).isSome = true
  · rw [if_pos q, if_pos q]; exact r.repl k ry
  · rw [if_neg q, if_neg q]; exact Paired.snoc r ⟨rfl, hb, ry⟩
theorem KT.keeps {H H' : Hp} {kvs : List (List Key × V)} {xs : List (List Key × Addr × Value)} (r : KT H kvs xs) (ht : ∀ b ys, H b = some (.tup ys) → H' b = some (.tup ys)) : KT H' kvs xs :=
  Paired.mapP r fun _ _ z => ⟨z.1, ht _ _ z.2.1, z.2.2⟩

section
variable {P : Program} {w : World} {H : Hp} {h : Heap} {a : Addr}
theorem rd_of {u : HO} (ok : HOk P w H h) (e : Rd H a u) : ObjOk P w H h a u := e.ok ok
theorem dk_rd {kvs : List (Key × V)} (ok : HOk P w H h) (e : Rd H a (.dK kvs)) : kvs.length ≤ sizeLine ∧ (a == sysModules) = false ∧ ∃ vs, KV kvs vs ∧ h.DictOf (mixKind P w) a vs :=
  show ObjOk P w H h a (.dK kvs) from rd_of ok e
theorem dk_of {kvs : List (Key × V)} (ok : HOk P w H h) (e : H a = some (.dK kvs)) : kvs.length ≤ sizeLine ∧ (a == sysModules) = false ∧ ∃ vs, KV kvs vs ∧ h.DictOf (mixKind P w) a vs := dk_rd ok (.inl e)
/-- a tracked tuple of ints and texts is a key -/
theorem key_of {ks : List Key} (ok : HOk P w H h) (e : H a = some (.tup (ks.map kV))) : (tupleKind (mixKind P w)).is h ks a := by
  obtain ⟨_, its, r, o, h1, h2, n, h3⟩ := (show ObjOk P w H h a (.tup (ks.map kV)) from ok a _ e)
  exact ⟨o, its.toArray, n, h1, h2, h3, by simpa using items_are r⟩
theorem dt_rd {kvs : List (List Key × V)} (ok : HOk P w H h) (e : Rd H a (.dT kvs)) : kvs.length ≤ sizeLine ∧ (a == sysModules) = false ∧
    ∃ xs, KT H kvs xs ∧ h.DictOfH (tupleKind (mixKind P w)) a xs := by
  obtain ⟨z, y, xs, r, o, es, ep, h1, h2, h3, h4, h5⟩ := (show ObjOk P w H h a (.dT kvs) from rd_of ok e)
  refine ⟨z, y, xs, r, o, es, ep, h1, h2, h3, h4, fun x hx => ?_, h5⟩
  have all : ∀ {l : List (List Key × V)} {m : List (List Key × Addr × Value)}, KT H l m → ∀ x ∈ m, (tupleKind (mixKind P w)).is h x.1 x.2.1 := by
    intro l m q
    induction q with
    | nil => intro x hx; exact nomatch hx
    | @cons p q ps qs hq t ih =>
      intro x hx
      rcases List.mem_cons.mp hx with e | hx
      · subst e
        exact key_of ok (by rw [← hq.1]; exact hq.2.1)
      · exact ih x hx
  exact all r x hx
theorem dt_of {kvs : List (List Key × V)} (ok : HOk P w H h) (e : H a = some (.dT kvs)) : kvs.length ≤ sizeLine ∧ (a == sysModules) = false ∧
    ∃ xs, KT H kvs xs ∧ h.DictOfH (tupleKind (mixKind P w)) a xs := dt_rd ok (.inl e)
end

/-- what the dict at a holds at the key y -/
def DGet (H : Hp) (a : Addr) (y : V) (r : Option V) : Prop :=
  (∃ kvs k, Rd H a (.dK kvs) ∧ y = kV k ∧ r = valV kvs k) ∨ ∃ kvs k b, Rd H a (.dT kvs) ∧ y = .ref b ∧ H b = some (.tup (k.map kV)) ∧ r = valV kvs k
/-- the heap behind a[y] = v -/
def DPut (H : Hp) (a : Addr) (y v : V) (H' : Hp) : Prop :=
  (∃ kvs k, H a = some (.dK kvs) ∧ y = kV k ∧ kvs.length < sizeLine ∧ H' = upd H a (.dK (putK kvs k v))) ∨
  ∃ kvs k b, H a = some (.dT kvs) ∧ y = .ref b ∧ H b = some (.tup (k.map kV)) ∧ kvs.length < sizeLine ∧ H' = upd H a (.dT (putK kvs k v))
theorem DGet.k {H : Hp} {a : Addr} {kvs : List (Key × V)} {k : Key} (e : H a = some (.dK kvs)) : DGet H a (kV k) (valV kvs k) := .inl ⟨kvs, k, .inl e, rfl, rfl⟩
theorem DGet.t {H : Hp} {a b : Addr} {kvs : List (List Key × V)} {k : List Key} (e : H a = some (.dT kvs)) (eb : H b = some (.tup (k.map kV))) : DGet H a (.ref b) (valV kvs k) := .inr ⟨kvs, k, b, .inl e, rfl, eb, rfl⟩
theorem DPut.k {H : Hp} {a : Addr} {kvs : List (Key × V)} {k : Key} {v : V} (e : H a = some (.dK kvs)) (hl : kvs.length < sizeLine) : DPut H a (kV k) v (upd H a (.dK (putK kvs k v))) := .inl ⟨kvs, k, e, rfl, hl, rfl⟩
theorem DPut.t {H : Hp} {a b : Addr} {kvs : List (List Key × V)} {k : List Key} {v : V} (e : H a = some (.dT kvs)) (eb : H b = some (.tup (k.map kV))) (hl : kvs.length < sizeLine) :
    DPut H a (.ref b) v (upd H a (.dT (putK kvs k v))) := .inr ⟨kvs, k, b, e, rfl, eb, hl, rfl⟩


section
variable {X : Cx} {pins : List (Addr × Obj)} {σ : St} {H : Hp} {s : Shared} {a : Addr} {y v : V} {u r : Value} {o : Option V} {A : Around} {E : Value → Shared → Prop}

theorem Inv.big (I : Inv X pins σ H s) : sysModules < s.heap.objs.size := by
  have h : mainGlobals < s.heap.objs.size := (I.mod.glob.keeps I.bk).lt
  exact Nat.lt_trans (by decide) h

/-- d[y], there -/
theorem d_getItem {Q : Value → Shared → Prop} (hu : A.units + 1 < cLine) (I : Inv X pins σ H s) (g : DGet H a y (some v)) (ry : RelV y u) (h : ∀ w' s', Inv X pins σ H s' → RelV v w' → Q w' s') :
    wpAny (model X.prog X.w) A (getItem (.ref a) u) Q E s := by
  rcases g with ⟨kvs, k, e, ey, l⟩ | ⟨kvs, k, b, e, ey, eb, l⟩
  · subst ey
    obtain ⟨z, hd, vs, rel, dd⟩ := dk_rd I.hok e
    obtain ⟨w', hw, rw'⟩ := RelO.some_of (v := v) (o := valueAt vs k) (by rw [l]; exact rel.val k)
    exact wpAny_getItem_of (kV_is ry) dd.mapOf hw (h w' _ (I.tok _) rw')
  · subst ey
    cases (show u = Value.ref b from ry)
    obtain ⟨z, hd, xs, rel, dd⟩ := dt_rd I.hok e
    obtain ⟨w', hw, rw'⟩ := RelO.some_of (v := v) (o := (atKey xs k).map (·.2)) (by rw [l]; exact rel.val k)
    obtain ⟨p, hp, hp2⟩ := Option.map_eq_some_iff.mp hw
    refine wpAny_getItem_heap (tupleKind_room_in1 hu) (key_of I.hok eb) dd hp ?_
    rw [hp2]
    exact h w' _ (I.tok _) rw'
/-- a dict's object is replaced -/
theorem d_write {h' : Heap} {t' : Nat} {ob : HO} (I : Inv X pins σ H s) (mu : Mut (H a)) (hs : Heap.SameBut a s.heap h') (he : ∃ q, h'.get? a = some q) (new : ObjOk X.prog X.w (upd H a ob) h' a ob) :
    Inv X pins σ (upd H a ob) { s with heap := h', toks := t' } :=
  I.write (x := a) (e := a) mu (.inl rfl) (fun b q hb z => (hs.2 b hb).trans z) he new
theorem dk_new {P : Program} {w : World} {H' : Hp} {h' : Heap} {kvs : List (Key × V)} {vs : List (Key × Value)} (z : kvs.length ≤ sizeLine) (hd : (a == sysModules) = false) (rel : KV kvs vs) (dd : h'.DictOf (mixKind P w) a vs) :
    ObjOk P w H' h' a (.dK kvs) := ⟨z, hd, vs, rel, dd⟩
/-- d[y] = v -/
theorem d_setItem {H' : Hp} {Q : Unit → Shared → Prop} (hu : A.units + 1 < cLine) (I : Inv X pins σ H s) (g : DPut H a y v H') (ry : RelV y u) (rv : RelV v r) (h : ∀ s', Inv X pins σ H' s' → Q () s') :
    wpAny (model X.prog X.w) A (setItem (.ref a) u r) Q E s := by
  rcases g with ⟨kvs, k, e, ey, l, eH⟩ | ⟨kvs, k, b, e, ey, eb, l, eH⟩
  · subst ey eH
    obtain ⟨z, hd, vs, rel, dd⟩ := dk_of I.hok e
    have hz : vs.length ≤ sizeLine := by rw [← rel.length]; exact z
    have hl : (putK kvs k v).length ≤ sizeLine := by have := length_putK kvs k v; omega
    refine wpAny_setItem_pairs (hsz := hz) (kV_is ry) dd fun h' dd' hs => h _ ?_
    have he : ∃ q, h'.get? a = some q := let ⟨q, _, _, hq, _⟩ := dd'; ⟨q, hq⟩
    exact d_write I (by rw [e]; exact True.intro) hs he (dk_new hl hd (rel.put k rv) dd')
  · subst ey eH
    cases (show u = Value.ref b from ry)
    obtain ⟨z, hd, xs, rel, dd⟩ := dt_of I.hok e
    have hz : xs.length ≤ sizeLine := by rw [← Paired.length rel]; exact z
    have hl : (putK kvs k v).length ≤ sizeLine := by have := length_putK kvs k v; omega
    refine wpAny_setItem_heap (hsz := hz) (tupleKind_room_in1 hu) (key_of I.hok eb) dd fun h' dd' hs => h _ ?_
    obtain ⟨q, es, ep, hq, h2, h3, h4, _, h5⟩ := dd'
    refine d_write I (by rw [e]; exact True.intro) hs ⟨q, hq⟩ ⟨hl, hd, _, (rel.put k eb rv).keeps fun c ys ec => ?_, q, es, ep, hq, h2, h3, h4, h5⟩
    rw [upd_ne (ne_of ec e (fun z => nomatch z))]
    exact ec
end

section
variable {X : Cx} {pins : List (Addr × Obj)} {σ : St} {H : Hp} {s : Shared} {a : Addr} {kvs : List (Key × V)} {k : Key} {u : Value} {A : Around} {E : Value → Shared → Prop}
end


/-! ### readings and rules -/
/-- the element of a subscription, not a slice -/
def NoSl (i : Expr) : Prop := ∀ ov iv, subscripted i false ov iv = operate [ov, iv] (getItem ov iv)

theorem dict_typeIs {X : Cx} {pins : List (Addr × Obj)} {σ : St} {H : Hp} {s : Shared} {a : Addr} {y : V} {o : Option V} (I : Inv X pins σ H s) (g : DGet H a y o) : s.TypeIs (.ref a) "dict" := by
  rcases g with ⟨kvs, k, e, _, _⟩ | ⟨kvs, k, b, e, _, _, _⟩
  · obtain ⟨_, _, vs, _, dd⟩ := dk_rd I.hok e
    exact dd.typeIs
  · obtain ⟨_, _, xs, _, dd⟩ := dt_rd I.hok e
    exact dd.typeIs

/-- d[y] -/
def tDGet (td ty : TE) : TE := fun σ H Q => td σ H fun x H1 => ty σ H1 fun y H2 => ∃ a v, x = .ref a ∧ DGet H2 a y (some v) ∧ Q v H2
/-- y in d, y not in d -/
def tDIn (ty td : TE) : TE := fun σ H Q => ty σ H fun y H1 => td σ H1 fun x H2 => ∃ a o, x = .ref a ∧ DGet H2 a y o ∧ Q (.bl o.isSome) H2
def tDNotIn (ty td : TE) : TE := fun σ H Q => ty σ H fun y H1 => td σ H1 fun x H2 => ∃ a o, x = .ref a ∧ DGet H2 a y o ∧ Q (.bl (!o.isSome)) H2
/-- d[y] = v -/
def sDPut (td ty tv : TE) : TS := fun D σ H => tv σ H fun v H1 => td σ H1 fun x H2 => ty σ H2 fun y H3 => ∃ a H4, x = .ref a ∧ DPut H3 a y v H4 ∧ D.nx σ H4
/-- d[y] op= v -/
def sDAug (td ty tv : TE) (rd : V → V → Hp → VK → Prop) : TS := fun D σ H => td σ H fun x H1 => ty σ H1 fun y H2 => ∃ a v, x = .ref a ∧ DGet H2 a y (some v) ∧
  tv σ H2 fun y2 H3 => rd v y2 H3 fun z H4 => ∃ H5, DPut H4 a y z H5 ∧ D.nx σ H5
/-- del d[y] -/
def sDDel (td ty : TE) : TS := fun D σ H => td σ H fun x H1 => ty σ H1 fun y H2 => ∃ a kvs k, x = .ref a ∧ H2 a = some (.dK kvs) ∧ y = kV k ∧ (valV kvs k).isSome = true ∧ D.nx σ (upd H2 a (.dK (dropK kvs k)))

section
variable {X : Cx} {o i e value : Expr} {pos pos' tpos : Pos} {td ty tv : TE}
end


/-! ### displays -/
theorem dk_empty {P : Program} {w : World} {H : Hp} (h : Heap) (hb : sysModules < h.objs.size) : ObjOk P w H (h.push { cls := .type "dict", data := .dict #[] }) h.objs.size (.dK []) :=
  ⟨Nat.zero_le _, beq_eq_false_iff_ne.mpr (Ne.symm (Nat.ne_of_lt hb)), [], .nil, Heap.DictOf.new h⟩
/-- {}, to be a dict of the kind that is wanted -/
def tDNewK : TE := fun _ H Q => ∀ p, H p = none → Q (.ref p) (upd H p (.dK []))
def tDNewT : TE := fun _ H Q => ∀ p, H p = none → Q (.ref p) (upd H p (.dT []))
section
variable {X : Cx} {pos : Pos}
end

/-- the pairs of a display, from the left -/
def tPairs : List (TE × TE) → St → Hp → (List (V × V) → Hp → Prop) → Prop
  | [], _, H, Q => Q [] H
  | (tk, tv) :: r, σ, H, Q => tk σ H fun x H1 => tv σ H1 fun y H2 => tPairs r σ H2 fun ps H3 => Q ((x, y) :: ps) H3
abbrev VV : List (V × V) → List (Value × Value) → Prop := Paired fun p q => RelV p.1 q.1 ∧ RelV p.2 q.2
def PPs (X : Cx) (pos : Pos) (keys : List (Option Expr)) (values : List Expr) (trs : List (TE × TE)) : Prop :=
  ∀ (pins : List (Addr × Obj)) (s : Shared) (σ : St) (H : Hp) (Q : List (V × V) → Hp → Prop), Inv X pins σ H s → tPairs trs σ H Q →
    wpAny (model X.prog X.w) X.A (evalPairs (pairTrees keys values X.env pos)) (fun vs s' => ∃ ps H', Inv X pins σ H' s' ∧ VV ps vs ∧ Q ps H') X.xe s
theorem pps_nil {X : Cx} {pos : Pos} : PPs X pos [] [] [] := fun pins s σ H Q I h => pairTrees_nil_walk ⟨[], H, I, .nil, h⟩
theorem pps_cons {X : Cx} {pos : Pos} {k v : Expr} {ks : List (Option Expr)} {vs : List Expr} {tk tv : TE} {trs : List (TE × TE)} (hk : PE X k tk) (hv : PE X v tv) (hr : PPs X pos ks vs trs) :
    PPs X pos (some k :: ks) (v :: vs) ((tk, tv) :: trs) := fun pins s σ H Q I h =>
  pairTrees_cons_walk (thn (hk pins s σ H _ I h) fun u s1 ⟨x, H1, I1, rx, q1⟩ => thn (hv pins s1 σ H1 _ I1 q1) fun w2 s2 ⟨y, H2, I2, ry, q2⟩ =>
    thn (hr pins s2 σ H2 _ I2 q2) fun ws s3 ⟨ps, H3, I3, rel, q3⟩ => ⟨(x, y) :: ps, H3, I3, .cons ⟨rx, ry⟩ rel, q3⟩)

def mergeK (kvs more : List (Key × V)) : List (Key × V) := more.foldl (fun acc kv => putK acc kv.1 kv.2) kvs
theorem KV.merge : ∀ {more : List (Key × V)} {rs : List (Key × Value)} {kvs : List (Key × V)} {vs : List (Key × Value)}, KV more rs → KV kvs vs → KV (mergeK kvs more) (merged vs rs) := by
  intro more rs kvs vs r
  unfold KV at r
  induction r generalizing kvs vs with
  | nil => intro q; exact q
  | @cons p q ps qs h t ih =>
    intro r0
    have e : KV (putK kvs p.1 p.2) (stored vs q.1 q.2) := by
      have := r0.put p.1 h.2
      rw [← h.1]; exact this
    exact ih e
theorem length_mergeK : ∀ (more kvs : List (Key × V)), (mergeK kvs more).length ≤ kvs.length + more.length
  | [], kvs => by show kvs.length ≤ kvs.length + 0; omega
  | p :: r, kvs => by
    have h1 := length_mergeK r (putK kvs p.1 p.2)
    have h2 := length_putK kvs p.1 p.2
    show (mergeK (putK kvs p.1 p.2) r).length ≤ _
    rw [List.length_cons]; omega
theorem carries_of {P : Program} {w : World} : ∀ {kvs : List (Key × V)} {ws : List (Value × Value)}, VV (kvs.map fun kv => (kV kv.1, kv.2)) ws → ∃ rs, Carries (mixKind P w) ws rs ∧ KV kvs rs
  | [], _, r => by rw [List.map_nil] at r; cases r; exact ⟨[], True.intro, .nil⟩
  | p :: kvs, _, r => by
    rw [List.map_cons] at r
    cases r with
    | @cons a b as bs h t =>
      obtain ⟨rs, c, q⟩ := carries_of (P := P) (w := w) t
      obtain ⟨b1, b2⟩ := b
      exact ⟨(p.1, b2) :: rs, ⟨kV_is h.1, rfl, c⟩, .cons ⟨rfl, h.2⟩ q⟩
/-- {k: v, ..} with keys ints and texts; the new dict stands empty while the pairs are made -/
def tDisp (trs : List (TE × TE)) : TE := fun σ H Q => ∀ p, H p = none → tPairs trs σ (upd H p (.dK [])) fun ps H2 => H2 p = some (.dK []) ∧ ∃ kvs : List (Key × V), ps = kvs.map (fun kv => (kV kv.1, kv.2)) ∧ kvs.length ≤ 15 ∧ Q (.ref p) (upd H2 p (.dK (mergeK [] kvs)))
theorem pe_disp {X : Cx} {pos : Pos} {keys : List (Option Expr)} {values : List Expr} {trs : List (TE × TE)} (h : PPs X pos keys values trs) (hall : keys.all (·.isSome) = true) (hl : keys.length = values.length) (h0 : keys ≠ [])
    (h15 : keys.length ≤ 15) : PE X (.Dict keys values pos) (tDisp trs) := by
  intro pins s σ H Q I q
  have hn := I.hok.fresh (Nat.le_refl s.heap.objs.size)
  have I1 := I.laid (a := s.heap.objs.size) (o := .dK []) (h' := s.heap.push { cls := .type "dict", data := .dict #[] }) (t' := s.toks) (fun _ _ q => Heap.get?_push_of_some _ q) (Nat.le_refl _) (dk_empty s.heap I.big)
  refine wpAny_Dict_walk (knd := mixKind X.prog X.w) hall hl h0 h15 (thn (h pins _ σ _ _ I1 (q _ hn)) fun ws s2 ⟨ps, H2, I2, rel, e, kvs, ep, lk, q2⟩ => ?_)
  subst ep
  obtain ⟨rs, c, rk⟩ := carries_of (P := X.prog) (w := X.w) rel
  obtain ⟨z, hd, vs0, r0, dd⟩ := dk_of I2.hok e
  cases r0
  refine ⟨rs, c, dd, fun h' dd' hs => ⟨.ref s.heap.objs.size, _, ?_, rfl, q2⟩⟩
  have hz : (mergeK [] kvs).length ≤ sizeLine := by
    have h1 := length_mergeK kvs []
    rw [List.length_nil] at h1
    rw [sizeLine_eq]; omega
  have he : ∃ q, h'.get? s.heap.objs.size = some q := let ⟨q, _, _, hq, _⟩ := dd'; ⟨q, hq⟩
  exact d_write I2 (by rw [e]; exact True.intro) hs he (dk_new hz hd (rk.merge .nil) dd')


/-! ### methods -/
/-- a method call o.m(e) of a built-in, with one argument: what must be seen of the text -/
structure M1 (X : Cx) (o : Expr) (m : Str) (apos : Pos) (e : Expr) (cpos : Pos) : Prop where
  base : attributeBase o m X.env (eval o X.env) = eval o X.env
  few : ((backTo cpos (starEach [e] X.env)).all (fun x => !x.1) && (backToKw cpos (keywordEach [] X.env)).all (fun x => x.1.isSome)
    && decide (([e] : List Expr).length + ([] : List Keyword).length + (if ([] : List Keyword).isEmpty then 0 else 1) < 30)) = true
  line : (apos.endLine == cpos.line) = true
  trees : backTo cpos (starEach [e] X.env) = [(false, eval e X.env)]
structure M2 (X : Cx) (o : Expr) (m : Str) (apos : Pos) (e f : Expr) (cpos : Pos) : Prop where
  base : attributeBase o m X.env (eval o X.env) = eval o X.env
  few : ((backTo cpos (starEach [e, f] X.env)).all (fun x => !x.1) && (backToKw cpos (keywordEach [] X.env)).all (fun x => x.1.isSome)
    && decide (([e, f] : List Expr).length + ([] : List Keyword).length + (if ([] : List Keyword).isEmpty then 0 else 1) < 30)) = true
  line : (apos.endLine == cpos.line) = true
  trees : backTo cpos (starEach [e, f] X.env) = [(false, eval e X.env), (false, eval f X.env)]

/-- a is a dict, whatever its keys -/
def IsD (H : Hp) (a : Addr) : Prop := (∃ kvs, Rd H a (.dK kvs)) ∨ ∃ kvs, Rd H a (.dT kvs)
theorem isD_at {X : Cx} {pins : List (Addr × Obj)} {σ : St} {H : Hp} {s : Shared} {a : Addr} (I : Inv X pins σ H s) (d : IsD H a) :
    s.TypeIs (.ref a) "dict" ∧ (∀ b, Value.ref a = .ref b → ∃ ob, s.heap.get? b = some ob ∧ ob.dict = none) ∧ (a == sysModules) = false := by
  rcases d with ⟨kvs, e⟩ | ⟨kvs, e⟩
  · obtain ⟨_, hd, vs, _, dd⟩ := dk_rd I.hok e
    refine ⟨dd.typeIs, fun b q => ?_, hd⟩
    cases q
    obtain ⟨ob, _, _, h1, h2, _⟩ := dd
    exact ⟨ob, h1, h2.2.1⟩
  · obtain ⟨_, hd, xs, _, dd⟩ := dt_rd I.hok e
    refine ⟨dd.typeIs, fun b q => ?_, hd⟩
    cases q
    obtain ⟨ob, _, _, h1, h2, _⟩ := dd
    exact ⟨ob, h1, h2.2.1⟩

section
variable {X : Cx} {pins : List (Addr × Obj)} {σ : St} {H : Hp} {s : Shared} {a : Addr} {y d : V} {u r : Value} {o : Option V} {A : Around} {E : Value → Shared → Prop}
/-- d.get(y, x) -/
theorem d_get2 {Q : Value → Shared → Prop} (hu : A.units + 1 < cLine) (I : Inv X pins σ H s) (g : DGet H a y o) (ry : RelV y u) (rd : RelV d r) (h : ∀ w' s', Inv X pins σ H s' → RelV (o.getD d) w' → Q w' s') :
    wpAny (model X.prog X.w) A (call (.builtin "dict.get") [.ref a, u, r]) Q E s := by
  rcases g with ⟨kvs, k, e, ey, l⟩ | ⟨kvs, k, b, e, ey, eb, l⟩
  · subst ey
    obtain ⟨z, hd, vs, rel, dd⟩ := dk_rd I.hok e
    refine call_meetsIn PySem.F.slot_dict_get dd.typeIs PySem.F.entry_dict_get (PySem.F.args_dict_get_3 _ _ _) (meets_dict_get_default (mixKind X.prog X.w) a (kV_is ry) hd r) ⟨_, dd.mapOf, h _ _ (I.tok _) ?_⟩
    rw [l]
    exact (rel.val k).getD rd
  · subst ey
    cases (show u = Value.ref b from ry)
    obtain ⟨z, hd, xs, rel, dd⟩ := dt_rd I.hok e
    refine call_meetsIn PySem.F.slot_dict_get dd.typeIs PySem.F.entry_dict_get (PySem.F.args_dict_get_3 _ _ _) (meetsH_dict_get_default (tupleKind (mixKind X.prog X.w)) a b hd r) ⟨tupleKind_room_in1 hu, k, xs, key_of I.hok eb, dd, h _ _ (I.tok _) ?_⟩
    rw [l]
    exact (rel.val k).getD rd
end

def tDGet1 (td ty : TE) : TE := fun σ H Q => td σ H fun x H1 => ∃ a, x = .ref a ∧ IsD H1 a ∧ ty σ H1 fun y H2 => ∃ o, DGet H2 a y o ∧ Q (o.getD .non) H2
def tDGet2 (td ty tx : TE) : TE := fun σ H Q => td σ H fun x H1 => ∃ a, x = .ref a ∧ IsD H1 a ∧ ty σ H1 fun y H2 => tx σ H2 fun z H3 => ∃ o, DGet H3 a y o ∧ Q (o.getD z) H3
/-- d.pop(k): there; d.pop(k, x): there or not -/
def tDPop1 (td ty : TE) : TE := fun σ H Q => td σ H fun x H1 => ∃ a, x = .ref a ∧ IsD H1 a ∧ ty σ H1 fun y H2 => ∃ kvs k v, H2 a = some (.dK kvs) ∧ y = kV k ∧ valV kvs k = some v ∧ Q v (upd H2 a (.dK (dropK kvs k)))
def tDPop2 (td ty tx : TE) : TE := fun σ H Q => td σ H fun x H1 => ∃ a, x = .ref a ∧ IsD H1 a ∧ ty σ H1 fun y H2 => tx σ H2 fun z H3 => ∃ kvs k, H3 a = some (.dK kvs) ∧ y = kV k ∧
  (∀ v, valV kvs k = some v → Q v (upd H3 a (.dK (dropK kvs k)))) ∧ (valV kvs k = none → Q z H3)
section
variable {X : Cx} {o e f : Expr} {apos cpos : Pos} {td ty tx : TE}
theorem pe_dget2 (hu : X.A.units + 1 < cLine) (ho : PE X o td) (he : PE X e ty) (hf : PE X f tx) (m : M2 X o "get" apos e f cpos) : PE X (.Call (.Attribute o "get" apos) [e, f] [] cpos) (tDGet2 td ty tx) := by
  intro pins s σ H Q I h
  refine wpAny_Call_method m.base m.few m.line PySem.F.plainAttrs_dict PySem.F.slot_dict_get PySem.F.type_dict_get (thn (ho pins s σ H _ I h) fun u s1 ⟨x, H1, I1, rx, a, ex, d, q1⟩ => ?_)
  subst ex
  obtain rfl : u = Value.ref a := rx
  obtain ⟨t1, t2, _⟩ := isD_at I1 d
  refine ⟨t1, t2, ?_⟩
  rw [m.trees]
  refine Calls.callWith_builtin rfl (Calls.evalArgs_plain (Calls.spliced_cons (thn (he pins s1 σ H1 _ I1 q1) fun iv s2 ⟨y, H2, I2, ry, q2⟩ =>
    Calls.spliced_cons (thn (hf pins s2 σ H2 _ I2 q2) fun fv s3 ⟨z, H3, I3, rz, ov, g, q3⟩ => Calls.spliced_nil ?_))))
  exact d_get2 hu I3 g ry rz fun w' s4 I4 rw' => ⟨_, H3, I4, rw', q3⟩
end

/-! ### dict(d): a copy -/
section
variable {X : Cx} {pins : List (Addr × Obj)} {σ : St} {H : Hp} {s : Shared} {a : Addr} {kvs : List (Key × V)} {A : Around} {E : Value → Shared → Prop}
end


section
variable {X : Cx} {pins : List (Addr × Obj)} {σ : St} {H : Hp} {s : Shared} {a : Addr} {y : V} {u : Value} {A : Around} {E : Value → Shared → Prop}
end
end L2

namespace HT
open PySem PyProof.Rows

/-- t < u of tuples of ints -/
def lexLt : List Int → List Int → Bool
  | [], [] => false
  | [], _ :: _ => true
  | _ :: _, [] => false
  | x :: xs, y :: ys => if x = y then lexLt xs ys else decide (x < y)

theorem rcLt_int (A : Around) (s : Shared) (a : Int) (t : Tok) (c : Int) (u : Tok) (prog : Program) (w : World) (E : Value → Shared → Prop) (Q : Value → Shared → Prop) (h : Q (.bool (decide (a < c))) s) :
    wpAny (model prog w) A (richCompare .Lt (.int a t) (.int c u)) Q E s :=
  (PyProof.Rows.lt_int h : wpAny (model prog w) A (compareOp .Lt (.int a t) (.int c u)) Q E s)

section
open PySem.SeqAt
open PySem.AutoSeq1 (wpAny_loadPart')
open PySem.MeetsSeq PySem.MeetsSeq2 PySem.MeetsSeq3

end

section
variable {prog : Program} {w : World} {A : Around} {E : Value → Shared → Prop} {s : Shared}


/-- t + u, t not empty -/
theorem cat_tup {t b : Addr} {vs ws : List Value} {Q : Value → Shared → Prop} (ht : IsTup s.heap t vs.toArray) (hb : IsTup s.heap b ws.toArray) (hv : vs ≠ [])
    (h1 : ws = [] → Q (.ref t) s) (h2 : ws ≠ [] → Q (.ref s.heap.objs.size) { s with heap := s.heap.push { cls := .type "tuple", data := .seq (vs ++ ws).toArray } })
    (hsz : vs.length + ws.length ≤ sizeLine) : wpAny (model prog w) A (binaryOp .Add (.ref t) (.ref b)) Q E s := by
  obtain ⟨⟨cls, dd, data, sl⟩, ho, hc, n, hd⟩ := id ht
  obtain ⟨⟨cls2, dd2, data2, sl2⟩, ho2, hc2, n2, hd2⟩ := id hb
  simp only at hc hd hc2 hd2
  subst hc hd hc2 hd2
  have e : vs.toArray ++ ws.toArray = (vs ++ ws).toArray := by simp
  by_cases hw : ws = []
  · exact concat_meets ⟨_, ho, rfl⟩ ⟨_, ho2, rfl⟩ noFill_tuple_add seq_tuple_add PySem.F.slot_tuple_add PySem.F.entry_tuple_add (PySem.F.args_tuple_add_2 _ _)
      (tuple_addW1 t b vs.toArray ws.toArray n n2 dd dd2 sl sl2 (by simpa using hv) (by simp [hw])) ⟨ho, ho2, h1 hw⟩
  · refine concat_meets ⟨_, ho, rfl⟩ ⟨_, ho2, rfl⟩ noFill_tuple_add seq_tuple_add PySem.F.slot_tuple_add PySem.F.entry_tuple_add (PySem.F.args_tuple_add_2 _ _)
      (tuple_addW2 t b vs.toArray ws.toArray n n2 dd dd2 sl sl2 (by simpa using hv) (by simpa using hw) (by rw [List.size_toArray, List.size_toArray]; exact hsz)) ⟨ho, ho2, ?_⟩
    rw [e]
    exact h2 hw

/-! ### t[a:b], not the whole -/
/-- a slice's bound as a place among n (d where it is left out) -/
def sIx (n d : Nat) : Option Int → Nat
  | none => d
  | some v => if v < 0 then (v + (n : Int)).toNat else min v.toNat n
theorem sIx_nat (n d k : Nat) : sIx n d (some (k : Int)) = min k n := by
  show (if (k : Int) < 0 then ((k : Int) + (n : Int)).toNat else min (k : Int).toNat n) = min k n
  rw [if_neg (by omega), Int.toNat_natCast]
theorem sIx_le (n d : Nat) (hd : d ≤ n) (o : Option Int) : sIx n d o ≤ n := by
  cases o with
  | none => exact hd
  | some v =>
    show (if v < 0 then (v + (n : Int)).toNat else min v.toNat n) ≤ n
    by_cases hv : v < 0
    · rw [if_pos hv]; omega
    · rw [if_neg hv]; exact Nat.min_le_right _ _
theorem clip_eq (v : Int) (n d : Nat) : (if v < 0 then max (v + (n : Int)) 0 else min v (n : Int)) = ((sIx n d (some v) : Nat) : Int) := by
  show (if v < 0 then max (v + (n : Int)) 0 else min v (n : Int)) = (((if v < 0 then (v + (n : Int)).toNat else min v.toNat n) : Nat) : Int)
  by_cases hv : v < 0
  · simp only [if_pos hv]; omega
  · simp only [if_neg hv]; omega
theorem adjust_gen (lo hi : Option Int) (n : Nat) : Builtin.Slice.sliceAdjust lo hi 1 (n : Int) = (((sIx n 0 lo : Nat) : Int), ((sIx n n hi : Nat) : Int)) := by
  have h1 : ¬ ((1 : Int) < 0) := by omega
  unfold Builtin.Slice.sliceAdjust
  simp only [h1, if_false]
  refine Prod.ext ?_ ?_
  · cases lo with
    | none => rfl
    | some v => exact clip_eq v n 0
  · cases hi with
    | none => rfl
    | some v => exact clip_eq v n n
theorem places_gen (i j : Nat) : Builtin.Slice.slicePlaces (i : Int) (j : Int) 1 = j - i := by
  unfold Builtin.Slice.slicePlaces
  have h1 : (1 : Int) > 0 := by omega
  simp only [h1, if_true, Int.ediv_one]
  split <;> omega
theorem slicePart_ {v : Value} {o : Option Int} {Q : Option Int → Shared → Prop} (p : IsPart v o) (h : Q o s) : wpAny (model prog w) A (Builtin.Slice.slicePartIndex v) Q E s := by
  cases p with
  | none => exact slicePart_none h
  | int i t => exact slicePart_int h
theorem sliceApplied_gen {sl : Addr} {vl vu : Value} {lo hi : Option Int} {n : Nat} {Q : Int × Int × Nat → Shared → Prop} (hs : s.heap.IsSliceOf sl vl vu .none) (pl : IsPart vl lo) (pu : IsPart vu hi)
    (h : Q (((sIx n 0 lo : Nat) : Int), 1, sIx n n hi - sIx n 0 lo) s) : wpAny (model prog w) A (Builtin.Slice.sliceApplied (.ref sl) (pure (n : Int))) Q E s := by
  obtain ⟨os, hos, hcs, hds⟩ := id hs
  unfold Builtin.Slice.sliceApplied Builtin.Slice.sliceFields
  refine wpAny_bind (wpAny_bind (wpAny_field hos hds (x := vl) rfl (wpAny_bind (wpAny_field hos hds (x := vu) rfl (wpAny_bind (wpAny_field hos hds (x := .none) rfl (wpAny_pure ?_)))))))
  refine wpAny_bind (slicePart_none ?_)
  show wpAny _ _ (if ((1 : Int) == 0) = true then _ else _) _ _ s
  rw [if_neg (by decide)]
  refine wpAny_bind (slicePart_ pl (wpAny_bind (slicePart_ pu (wpAny_bind (wpAny_pure ?_)))))
  show wpAny _ _ (match Builtin.Slice.sliceAdjust lo hi 1 (n : Int) with | (lo, hi) => pure (lo, (1 : Int), Builtin.Slice.slicePlaces lo hi 1)) _ _ s
  rw [adjust_gen lo hi n]
  show wpAny _ _ (pure (((sIx n 0 lo : Nat) : Int), (1 : Int), Builtin.Slice.slicePlaces ((sIx n 0 lo : Nat) : Int) ((sIx n n hi : Nat) : Int) 1)) _ _ s
  rw [places_gen]
  exact wpAny_pure h
theorem pick_gen (xs : Array Value) (i k : Nat) : ((List.range k).filterMap fun (m : Nat) => xs[((i : Int) + (m : Int) * 1).toNat]?).toArray = ((xs.toList.drop i).take k).toArray := by
  have e : (fun (m : Nat) => xs[((i : Int) + (m : Int) * 1).toNat]?) = fun m => xs[i + m]? := by
    funext m
    have : ((i : Int) + (m : Int) * 1).toNat = i + m := by omega
    rw [this]
  rw [e]
  have := pick_run xs i k
  rw [List.filterMap_map] at this
  have e2 : ((fun x => xs[x]?) ∘ fun x => i + x) = fun m => xs[i + m]? := rfl
  rw [e2] at this
  rw [this]

theorem getItem_tuple_cut {t sl : Addr} {items : Array Value} {vl vu : Value} {lo hi : Option Int} {Q : Value → Shared → Prop} (ht : IsTup s.heap t items) (hs : s.heap.IsSliceOf sl vl vu .none) (pl : IsPart vl lo) (pu : IsPart vu hi)
    (hw : ¬ (sIx items.size 0 lo = 0 ∧ sIx items.size items.size hi = items.size))
    (h : Q (.ref s.heap.objs.size) { s with heap := s.heap.push { cls := .type "tuple", data := .seq ((items.toList.drop (sIx items.size 0 lo)).take (sIx items.size items.size hi - sIx items.size 0 lo)).toArray } })
    (hsz : items.size ≤ sizeLine) : wpAny (model prog w) A (getItem (.ref t) (.ref sl)) Q E s := by
  have htake : sizeOk (.seq ((items.toList.drop (sIx items.size 0 lo)).take (sIx items.size items.size hi - sIx items.size 0 lo)).toArray) := by
    show ((items.toList.drop (sIx items.size 0 lo)).take (sIx items.size items.size hi - sIx items.size 0 lo)).toArray.size ≤ sizeLine
    rw [List.size_toArray, List.length_take, List.length_drop, Array.length_toList]
    omega
  have hj : sIx items.size items.size hi ≤ items.size := sIx_le _ _ (Nat.le_refl _) hi
  obtain ⟨os, hos, hcs, hds⟩ := id hs
  have hTs : s.TypeIs (.ref sl) "slice" := ⟨os, hos, hcs⟩
  unfold getItem
  try with_reducible refine wpAny_holding ?_
  first | refine wpAny_bind (wpAny_pure ?_) | skip
  refine wpAny_bind (wpAny_sequenceKey ht.typeIs (by decide) ?_)
  refine wpAny_bind (wpAny_callSpecial?_slot (name := Str.ofString "__getitem__") ht.typeIs PyProof.Rows.slot_tuple_getitem
    (wpAny_call_entry PyProof.Rows.slot_tuple_getitem ht.typeIs entry_tuple_getitem ?_ (args_tuple_getitem _ _)))
  show wpAny _ _ (Builtin.Tuple.tupleItemsOf (.ref t) >>= _) _ _ s
  refine wpAny_bind (tupleItemsOf_ ht ?_)
  refine wpAny_bind (wpAny_typeOf hTs ?_)
  rw [if_pos (by decide)]
  refine wpAny_bind (sliceApplied_gen hs pl pu ?_)
  have hno : ¬ ((((sIx items.size 0 lo : Nat) : Int) == 0 && (1 : Int) == 1 && (sIx items.size items.size hi - sIx items.size 0 lo) == items.size) = true) := by
    intro q
    rw [Bool.and_eq_true, Bool.and_eq_true] at q
    have q1 : ((sIx items.size 0 lo : Nat) : Int) = 0 := eq_of_beq q.1.1
    have q2 : sIx items.size items.size hi - sIx items.size 0 lo = items.size := eq_of_beq q.2
    exact hw ⟨by omega, by omega⟩
  show wpAny _ _ (if (((sIx items.size 0 lo : Nat) : Int) == 0 && (1 : Int) == 1 && (sIx items.size items.size hi - sIx items.size 0 lo) == items.size) = true then _ else _) _ _ s
  rw [if_neg hno, pick_gen]
  first
    | exact wpAny_bind (m := Builtin.Tuple.tupleExact _) (wpAny_newObj_type (wpAny_pure ⟨_, rfl, wpAny_pure h⟩) htake)
    | exact wpAny_bind (m := Builtin.Tuple.tupleExact _) (wpAny_newObj_type (wpAny_bind (wpAny_pure (wpAny_pure ⟨_, rfl, wpAny_pure h⟩))) htake)
    | exact wpAny_bind (wpAny_bind (m := Builtin.Tuple.tupleExact _) (wpAny_newObj_type (wpAny_pure (wpAny_pure ⟨_, rfl, wpAny_pure h⟩)) htake))
    | exact wpAny_bind (wpAny_bind (m := Builtin.Tuple.tupleExact _) (wpAny_newObj_type (wpAny_pure ⟨_, rfl, wpAny_pure h⟩) htake))
end
end HT

namespace L2
open PySem PySem.Spec PyProof.Rows

/-! ### the parts of a slice -/
abbrev TO := St → Hp → (Option Int → Hp → Prop) → Prop
/-- a slice's part (left out, or an int) -/
def PO (X : Cx) (e : Option Expr) (t : TO) : Prop :=
  ∀ (pins : List (Addr × Obj)) (s : Shared) (σ : St) (H : Hp) (Q : Option Int → Hp → Prop), Inv X pins σ H s → t σ H Q →
    wpAny (model X.prog X.w) X.A (evalPart e X.env) (fun u s' => ∃ o H', Inv X pins σ H' s' ∧ IsPart u o ∧ Q o H') X.xe s
def tNoPart : TO := fun _ H Q => Q none H
def tPart (t : TE) : TO := fun σ H Q => t σ H fun x H1 => ∃ i, x = .int i ∧ Q (some i) H1

theorem intsAre_of {ns : List Int} : ∀ {us : List Value}, Vals (ns.map V.int) us → IntsAre us ns := by
  induction ns with
  | nil => intro us r; rw [List.map_nil] at r; cases r; exact .nil
  | cons n ns ih =>
    intro us r
    rw [List.map_cons] at r
    cases r with
    | cons r1 r2 =>
      obtain ⟨t, e⟩ := r1
      subst e
      exact .cons n t (ih r2)

section
variable {X : Cx} {e : Expr} {te : TE} {lo hi : Option Expr} {tl th : TO} {pos p2 : Pos}

theorem po_none : PO X none tNoPart := by
  intro pins s σ H Q I h
  rw [evalPart_none]
  exact wpAny_pure ⟨none, H, I, .none, h⟩
theorem po_some (h : PE X e te) : PO X (some e) (tPart te) := by
  intro pins s σ H Q I hw
  rw [evalPart_some]
  refine thn (h pins s σ H _ I hw) fun u s1 ⟨x, H1, I1, r1, q1⟩ => ?_
  obtain ⟨i, rfl, q⟩ := q1
  obtain ⟨t, rfl⟩ := r1
  exact ⟨some i, H1, I1, .int i t, q⟩

/-- what a slice of a value is, by values: the slice object stands at sl -/
def SlR (X : Cx) (r : V → Option Int → Option Int → Hp → VK → Prop) : Prop :=
  ∀ (pins : List (Addr × Obj)) (s : Shared) (σ : St) (H : Hp) (x : V) (v vl vu : Value) (lo hi : Option Int) (sl : Addr) (Q : VK), Inv X pins σ H s → RelV x v → s.heap.IsSliceOf sl vl vu .none → IsPart vl lo → IsPart vu hi → r x lo hi H Q →
    ∃ T id, typeLookup (.type T) "__getitem__" = pure (some (.builtin id)) ∧ s.TypeIs v T ∧ wpAny (model X.prog X.w) X.A (getItem v (.ref sl)) (EP X pins σ Q) X.xe s
theorem SlR.or {r r' : V → Option Int → Option Int → Hp → VK → Prop} (h : SlR X r) (h' : SlR X r') : SlR X (fun x lo hi H Q => r x lo hi H Q ∨ r' x lo hi H Q) := by
  intro pins s σ H x v vl vu lo hi sl Q I rx hs pl pu q
  rcases q with q | q
  · exact h pins s σ H x v vl vu lo hi sl Q I rx hs pl pu q
  · exact h' pins s σ H x v vl vu lo hi sl Q I rx hs pl pu q
def tSl (r : V → Option Int → Option Int → Hp → VK → Prop) (te : TE) (tl th : TO) : TE := fun σ H Q => te σ H fun x H1 => tl σ H1 fun l H2 => th σ H2 fun u H3 => r x l u H3 Q
/-- a[lo:hi], any a -/
theorem pe_slice {r : V → Option Int → Option Int → Hp → VK → Prop} (hr : SlR X r) (he : PE X e te) (hl : PO X lo tl) (hu : PO X hi th) : PE X (.Subscript e (.Slice lo hi none p2) pos) (tSl r te tl th) := by
  intro pins s σ H Q I h
  refine Subscript_ (thn (he pins s σ H _ I h) fun v s1 ⟨x, H1, I1, r1, q1⟩ => ?_)
  refine wpAny_Slice (thn (hl pins s1 σ H1 _ I1 q1) fun vl s2 ⟨l, H2, I2, pl, q2⟩ => thn (hu pins s2 σ H2 _ I2 q2) fun vu s3 ⟨u, H3, I3, pu, q3⟩ => ?_)
  rw [evalPart_none]
  refine wpAny_pure ?_
  have I4 : Inv X pins σ H3 { s3 with heap := s3.heap.push { cls := .type "slice", data := .fields #[vl, vu, .none] } } := I3.kept (t' := s3.toks) fun b ob q => Heap.get?_push_of_some _ q
  obtain ⟨T, id, hT, ht, hg⟩ := hr pins { s3 with heap := s3.heap.push { cls := .type "slice", data := .fields #[vl, vu, .none] } } σ H3 x v vl vu l u s3.heap.objs.size Q I4 r1 (Heap.IsSliceOf.new ..) pl pu q3
  show wpAny (model X.prog X.w) X.A (subscriptTail e (.Slice lo hi none p2) v (.ref s3.heap.objs.size)) (EP X pins σ Q) X.xe { s3 with heap := s3.heap.push { cls := .type "slice", data := .fields #[vl, vu, .none] } }
  exact tail_any (ops := [.ref s3.heap.objs.size, v]) ht hT hg (by with_unfolding_all rfl)

/-- the items of xs[lo:hi] -/
def cutV (xs : List V) (lo hi : Option Int) : List V := (xs.drop (HT.sIx xs.length 0 lo)).take (HT.sIx xs.length xs.length hi - HT.sIx xs.length 0 lo)
theorem cutV_length (xs : List V) (lo hi : Option Int) : (cutV xs lo hi).length ≤ xs.length := by
  unfold cutV
  rw [List.length_take, List.length_drop]
  omega
/-- t[lo:hi], not the whole of it (the whole would be t itself) -/
def rSlT (K : PySem.W.Frag) : V → Option Int → Option Int → Hp → VK → Prop := fun x lo hi H Q => ∃ a xs, x = .ref a ∧ SqT K H a xs ∧
  ¬ (HT.sIx xs.length 0 lo = 0 ∧ HT.sIx xs.length xs.length hi = xs.length) ∧ ∀ p, H p = none → Q (.ref p) (upd H p (.tup (cutV xs lo hi)))
theorem sl_tup : SlR X (rSlT X.K) := by
  intro pins s σ H x v vl vu lo hi sl Q I rx hs pl pu h
  obtain ⟨a, xs, rfl, hx, hw, q⟩ := h
  cases rx
  obtain ⟨its, r, ht, hz⟩ := I.tuple hx
  have hlen : its.toArray.size = xs.length := by rw [List.size_toArray]; exact r.length.symm
  refine ⟨"tuple", _, PyProof.Rows.slot_tuple_getitem.lookup, ht.typeIs, ?_⟩
  refine HT.getItem_tuple_cut ht hs pl pu (by rw [hlen]; exact hw) ?_ (by rw [hlen]; exact hz)
  rw [hlen]
  refine ⟨.ref s.heap.objs.size, _, I.laid (t' := s.toks) (o := .tup (cutV xs lo hi)) (fun b ob q => Heap.get?_push_of_some _ q) (Nat.le_refl _) ?_, rfl, q _ (I.hok.fresh (Nat.le_refl _))⟩
  exact ⟨Nat.le_trans (cutV_length xs lo hi) hz, _, (r.drop (HT.sIx xs.length 0 lo)).take (HT.sIx xs.length xs.length hi - HT.sIx xs.length 0 lo), IsTup.new _ _⟩

/-! ### t < u, t + u -/
def rLtT (K : PySem.W.Frag) : R2 := fun x y H Q => ∃ a b ns ms, x = .ref a ∧ y = .ref b ∧ SqT K H a (ns.map V.int) ∧ SqT K H b (ms.map V.int) ∧ Q (.bl (HT.lexLt ns ms)) H
/-- t + u, t not empty: u empty gives t itself -/
def rCatT (K : PySem.W.Frag) : R2 := fun x y H Q => ∃ a b xs ys, x = .ref a ∧ y = .ref b ∧ SqT K H a xs ∧ SqT K H b ys ∧ xs ≠ [] ∧ xs.length + ys.length ≤ sizeLine ∧
  (ys = [] → Q (.ref a) H) ∧ (ys ≠ [] → ∀ p, H p = none → Q (.ref p) (upd H p (.tup (xs ++ ys))))
theorem Vals.nil_iff {xs : List V} {us : List Value} (r : Vals xs us) : us = [] ↔ xs = [] := by
  cases r with
  | nil => simp
  | cons _ _ => simp
theorem op_catT : OpR X (binaryOp .Add) (rCatT X.K) := by
  intro pins s σ H x y v u Q I rx ry h
  obtain ⟨a, b, xs, ys, rfl, rfl, ha, hb, hx, hz, q1, q2⟩ := h
  cases rx
  cases ry
  obtain ⟨its, r1, p1, _⟩ := I.tuple ha
  obtain ⟨its2, r2, p2, _⟩ := I.tuple hb
  refine HT.cat_tup p1 p2 (fun z => hx (r1.nil_iff.mp z)) (fun z => ⟨.ref a, H, I, rfl, q1 (r2.nil_iff.mp z)⟩) (fun z => ?_) (by rw [← r1.length, ← r2.length]; exact hz)
  refine ⟨.ref s.heap.objs.size, _, I.laid (t' := s.toks) (o := .tup (xs ++ ys)) (fun b ob q => Heap.get?_push_of_some _ q) (Nat.le_refl _) ?_, rfl, q2 (fun w => z (r2.nil_iff.mpr w)) _ (I.hok.fresh (Nat.le_refl _))⟩
  exact ⟨by rw [List.length_append]; exact hz, _, r1.append r2, IsTup.new _ _⟩
end
end L2

namespace L2
open PySem PySem.Spec PyProof.Rows

/-! ### places -/
/-- the place that an index of any sign means -/
def ixN (n : Nat) (i : Int) : Option Nat := if 0 ≤ i then (if i < n then some i.toNat else none) else if -(n : Int) ≤ i then some (i + n).toNat else none
def atI {α : Type} (xs : List α) (i : Int) : Option α := (ixN xs.length i).bind fun j => xs[j]?
theorem ixN_seq {n : Nat} {i : Int} {j : Nat} (h : ixN n i = some j) : seqIndex? i n = some j ∧ j < n ∧ -(n : Int) ≤ i ∧ i < n := by
  unfold ixN at h
  by_cases h0 : 0 ≤ i
  · rw [if_pos h0] at h
    by_cases h1 : i < n
    · rw [if_pos h1] at h
      have e : i.toNat = j := Option.some.inj h
      exact ⟨by rw [seqIndex_of h0 h1, e], by omega, by omega, h1⟩
    · rw [if_neg h1] at h; cases h
  · rw [if_neg h0] at h
    by_cases h1 : -(n : Int) ≤ i
    · rw [if_pos h1] at h
      have e : (i + n).toNat = j := Option.some.inj h
      exact ⟨by rw [seqIndex_neg (by omega) h1, e], by omega, h1, by omega⟩
    · rw [if_neg h1] at h; cases h
theorem atI_get {α : Type} {xs : List α} {i : Int} {v : α} (h : atI xs i = some v) : ∃ j, seqIndex? i xs.length = some j ∧ xs[j]? = some v ∧ j < xs.length ∧ -(xs.length : Int) ≤ i ∧ i < xs.length := by
  unfold atI at h
  cases e : ixN xs.length i with
  | none => rw [e] at h; cases h
  | some j =>
    rw [e] at h
    obtain ⟨h1, h2, h3, h4⟩ := ixN_seq e
    exact ⟨j, h1, h, h2, h3, h4⟩
theorem atI_nat {α : Type} {xs : List α} {j : Nat} {v : α} (h : xs[j]? = some v) : atI xs (j : Int) = some v := by
  have hj : j < xs.length := (List.getElem?_eq_some_iff.mp h).1
  have e : ixN xs.length (j : Int) = some j := by
    unfold ixN
    rw [if_pos (by omega), if_pos (by omega)]; simp
  unfold atI; rw [e]; exact h

/-! ### what may be subscripted -/
/-- what stands as an index of a plain subscript -/
def PlainIx (b : Expr) : Prop := ∀ o i, subscripted b false o i = operate [o, i] (getItem o i)
/-- a subscript by values -/
def IxR (X : Cx) (r : R2) : Prop :=
  ∀ (value slice : Expr) (pins : List (Addr × Obj)) (s : Shared) (σ : St) (H : Hp) (x y : V) (v u : Value) (Q : VK), Inv X pins σ H s → RelV x v → RelV y u → r x y H Q →
    subscripted slice false v u = operate [v, u] (getItem v u) → wpAny (model X.prog X.w) X.A (subscriptTail value slice v u) (EP X pins σ Q) X.xe s
/-- a call of a builtin's method by values: the receiver, the arguments -/
def MtR (X : Cx) (id : String) (r : V → List V → Hp → VK → Prop) : Prop :=
  ∀ (pins : List (Addr × Obj)) (s : Shared) (σ : St) (H : Hp) (x : V) (xs : List V) (v : Value) (us : List Value) (Q : VK), Inv X pins σ H s → RelV x v → Vals xs us → r x xs H Q →
    wpAny (model X.prog X.w) X.A (call (.builtin id) (v :: us)) (EP X pins σ Q) X.xe s
section
variable {X : Cx} {a b : Expr} {ta tb : TE} {pos : Pos}
theorem IxR.or {r r' : R2} (h : IxR X r) (h' : IxR X r') : IxR X (fun x y H Q => r x y H Q ∨ r' x y H Q) := by
  intro value slice pins s σ H x y v u Q I rx ry q hs
  rcases q with q | q
  · exact h value slice pins s σ H x y v u Q I rx ry q hs
  · exact h' value slice pins s σ H x y v u Q I rx ry q hs
theorem MtR.or {id : String} {r r' : V → List V → Hp → VK → Prop} (h : MtR X id r) (h' : MtR X id r') : MtR X id (fun x xs H Q => r x xs H Q ∨ r' x xs H Q) := by
  intro pins s σ H x xs v us Q I rx rs q
  rcases q with q | q
  · exact h pins s σ H x xs v us Q I rx rs q
  · exact h' pins s σ H x xs v us Q I rx rs q
/-- a[b] -/
theorem pe_ix {r : R2} (hr : IxR X r) (ha : PE X a ta) (hb : PE X b tb) (hs : PlainIx b) : PE X (.Subscript a b pos) (tOp r ta tb) := by
  intro pins s σ H Q I h
  exact Subscript_ (binT ha hb I h fun v u s2 x y H2 I2 rx ry q => hr a b pins s2 σ H2 x y v u Q I2 rx ry q (hs _ _))

def rIxL (K : PySem.W.Frag) : R2 := fun x y H Q => ∃ p xs i v, x = .ref p ∧ y = .int i ∧ SqL K H p xs ∧ atI xs i = some v ∧ Q v H
def rIxT (K : PySem.W.Frag) : R2 := fun x y H Q => ∃ p xs i v, x = .ref p ∧ y = .int i ∧ SqT K H p xs ∧ atI xs i = some v ∧ Q v H
def rIxS : R2 := fun x y H Q => ∃ z i c, x = .str z ∧ y = .int i ∧ z.length ≤ sizeLine ∧ atI z.cps.toList i = some c ∧ Q (.str ⟨#[c]⟩) H
theorem ix_list : IxR X (rIxL X.K) := by
  intro value slice pins s σ H x y v u Q I rx ry h hs
  obtain ⟨p, xs, i, z, rfl, rfl, hq, he, q⟩ := h
  cases rx
  obtain ⟨t, rfl⟩ := ry
  obtain ⟨its, r, pl, hz⟩ := I.list hq
  obtain ⟨j, h1, h2, h3, h4, h5⟩ := atI_get he
  obtain ⟨w, ew, rw'⟩ := r.get h2
  have hl := r.length
  have hn := line63
  have fin : EP X pins σ Q w s := ⟨z, H, I, rw', q⟩
  by_cases h0 : 0 ≤ i
  · have hj : i.toNat = j := by
      rw [seqIndex_of h0 h5] at h1
      exact Option.some.inj h1
    exact item_listR pl.isList h0 (by omega) (by rw [hj]; simpa using ew) fin hs
  · have hj : (i + (its.toArray.size : Int)).toNat = j := by
      rw [seqIndex_neg (by omega) h4] at h1
      rw [List.size_toArray, ← hl]
      exact Option.some.inj h1
    exact subscriptTail_builtinR (x := w) pl.isList.typeIs slot_list_getitem.lookup
      (wpAny_getItem_list_neg (Q := fun r s' => r = w ∧ EP X pins σ Q r s') pl.isList (by omega) (by rw [List.size_toArray] <;> omega) (by omega) (by rw [hj]; simpa using ew) ⟨rfl, fin⟩) hs
theorem ix_tup : IxR X (rIxT X.K) := by
  intro value slice pins s σ H x y v u Q I rx ry h hs
  obtain ⟨p, xs, i, z, rfl, rfl, hq, he, q⟩ := h
  cases rx
  obtain ⟨t, rfl⟩ := ry
  obtain ⟨its, r, pl, hz⟩ := I.tuple hq
  obtain ⟨j, h1, h2, h3, h4, h5⟩ := atI_get he
  obtain ⟨w, ew, rw'⟩ := r.get h2
  have hl := r.length
  have hn := line63
  have fin : EP X pins σ Q w s := ⟨z, H, I, rw', q⟩
  exact subscriptTail_builtinR (x := w) pl.typeIs slot_tuple_getitem.lookup
    (getItem_tuple (j := j) (Q := fun r s' => r = w ∧ EP X pins σ Q r s') pl (by omega) (by omega) (by rw [List.size_toArray, ← hl]; exact h1) (by simpa using ew) ⟨rfl, fin⟩) hs
theorem ix_str : IxR X rIxS := by
  intro value slice pins s σ H x y v u Q I rx ry h hs
  obtain ⟨z, i, c, rfl, rfl, hz, he, q⟩ := h
  obtain ⟨t, rfl⟩ := rx
  obtain ⟨t', rfl⟩ := ry
  obtain ⟨j, h1, h2, h3, h4, h5⟩ := atI_get he
  have hl : z.cps.toList.length = z.length := by simp [Str.length]
  rw [hl] at h1 h4 h5
  have hn := line63
  exact tail_any (typeIs_str s z t) slot_str_getitem.lookup (getItem_str (c := c) (by
    have e1 : decide (i < -(2 ^ 63 : Int)) = false := decide_eq_false (by omega)
    have e2 : decide (i ≥ 2 ^ 63) = false := decide_eq_false (by omega)
    rw [e1, e2, Bool.or_false]) (by rw [h1]; simpa using h2) ⟨.str ⟨#[c]⟩, H, I.tok _, ⟨_, rfl⟩, q⟩) hs
/-- list, tuple or str -/
def rIx (K : PySem.W.Frag) : R2 := fun x y H Q => rIxL K x y H Q ∨ rIxT K x y H Q ∨ rIxS x y H Q

/-! ### xs[i] = v, any sign -/
/-- the list's object behind a store -/
theorem mapSeq_set (its : List Value) (n j : Nat) (u : Value) : Obj.mapSeq (·.setIfInBounds j u) { cls := .type "list", data := .seq its.toArray n } = { cls := .type "list", data := .seq (its.set j u).toArray n } := by
  simp [Obj.mapSeq]
theorem Inv.lst {pins : List (Addr × Obj)} {σ : St} {H : Hp} {s : Shared} {p : Addr} {xs : List V} (I : Inv X pins σ H s) (h : H p = some (.lst xs)) :
    ∃ (its : List Value) (n : Nat), Vals xs its ∧ s.heap.get? p = some { cls := .type "list", data := .seq its.toArray n } ∧ xs.length ≤ sizeLine := by
  obtain ⟨z, its, n, r, e⟩ := I.hok p _ h
  exact ⟨its, n, r, e, z⟩
/-- the list at p is written by an update of its object -/
theorem Inv.lstUpd {pins : List (Addr × Obj)} {σ : St} {H : Hp} {s : Shared} {p : Addr} {xs ys : List V} {its its' : List Value} {n n' : Nat} {f : Obj → Obj} (I : Inv X pins σ H s) (h : H p = some (.lst xs))
    (ho : s.heap.get? p = some { cls := .type "list", data := .seq its.toArray n }) (hf : f { cls := .type "list", data := .seq its.toArray n } = { cls := .type "list", data := .seq its'.toArray n' }) (r : Vals ys its') (hz : ys.length ≤ sizeLine) (t : Nat) :
    Inv X pins σ (upd H p (.lst ys)) { s with heap := s.heap.update p f, toks := t } := by
  have e : (s.heap.update p f).get? p = some { cls := .type "list", data := .seq its'.toArray n' } := by
    rw [Heap.get?_update_self f ho (by rw [hf] <;> rfl), hf]
  refine I.write (x := p) (e := p) (by rw [h]; trivial) (.inl rfl) (fun b u hb q => (Heap.get?_update_other _ _ (Ne.symm hb)).trans q) ⟨_, e⟩ ?_
  exact ⟨hz, its', n', r, e⟩
def rSetL : V → V → V → Hp → (Hp → Prop) → Prop := fun o i v H Q => ∃ p xs k j, o = .ref p ∧ i = .int k ∧ H p = some (.lst xs) ∧ ixN xs.length k = some j ∧ Q (upd H p (.lst (xs.set j v)))
theorem set_list : PSet X rSetL := by
  intro pins s σ H o i v ov iv u Q I ro ri rv h
  obtain ⟨p, xs, k, j, rfl, rfl, hp, hj, q⟩ := h
  cases ro
  obtain ⟨t, rfl⟩ := ri
  obtain ⟨its, n, r, ho, hz⟩ := I.lst hp
  obtain ⟨h1, h2, h3, h4⟩ := ixN_seq hj
  have hl := r.length
  have hn := line63
  have I' : Inv X pins σ (upd H p (.lst (xs.set j v))) { s with heap := s.heap.update p (Obj.mapSeq (·.setIfInBounds j u)) } :=
    I.lstUpd hp ho (mapSeq_set its n j u) (r.set rv j) (by rw [List.length_set]; exact hz) s.toks
  by_cases h0 : 0 ≤ k
  · have hk : k.toNat = j := by
      rw [seqIndex_of h0 h4] at h1
      exact Option.some.inj h1
    exact PySem.W.ki_setAt ho h0 (by omega) (by rw [List.size_toArray, ← hl]; exact h4) (by rw [hk]; exact ⟨_, I', q⟩)
  · have hk : (k + (its.toArray.size : Int)).toNat = j := by
      rw [seqIndex_neg (by omega) h3] at h1
      rw [List.size_toArray, ← hl]
      exact Option.some.inj h1
    exact PySem.W.ki_setBack ho (by omega) (by rw [List.size_toArray, ← hl]; exact h3) (by omega) (by rw [hk]; exact ⟨_, I', q⟩)

/-! ### slices -/
theorem slice_bounds (lo hi : Option Int) (n : Nat) : (sliceBounds lo hi none n).1 = ((HT.sIx n 0 lo : Nat) : Int) ∧ (sliceBounds lo hi none n).2.1 = ((HT.sIx n n hi : Nat) : Int) ∧ (sliceBounds lo hi none n).2.2 = 1 := by
  refine ⟨?_, ?_, rfl⟩
  · cases lo with
    | none => simp [sliceBounds, HT.sIx]
    | some i =>
      simp only [sliceBounds, HT.sIx, Option.getD_none, show (1 : Int) > 0 by decide, if_true]
      by_cases h : i < 0
      · simp only [h, if_true] <;> omega
      · simp only [h, if_false] <;> omega
  · cases hi with
    | none => simp [sliceBounds, HT.sIx]
    | some i =>
      simp only [sliceBounds, HT.sIx, Option.getD_none, show (1 : Int) > 0 by decide, if_true]
      by_cases h : i < 0
      · simp only [h, if_true] <;> omega
      · simp only [h, if_false] <;> omega
theorem slicePick_cut (its : List Value) (lo hi : Option Int) : slicePick its.toArray lo hi none = ((its.drop (HT.sIx its.length 0 lo)).take (HT.sIx its.length its.length hi - HT.sIx its.length 0 lo)).toArray := by
  obtain ⟨h1, h2, h3⟩ := slice_bounds lo hi its.toArray.size
  unfold slicePick
  rw [h1, h2, h3]
  simp only [sliceRange_one, pick_run, List.size_toArray] <;> rfl
/-- xs[lo:hi] of a list: a new list -/
def rSlL (K : PySem.W.Frag) : V → Option Int → Option Int → Hp → VK → Prop := fun x lo hi H Q => ∃ a xs, x = .ref a ∧ SqL K H a xs ∧ ∀ p, H p = none → Q (.ref p) (upd H p (.lst (cutV xs lo hi)))
theorem sl_list : SlR X (rSlL X.K) := by
  intro pins s σ H x v vl vu lo hi sl Q I rx hs pl pu h
  obtain ⟨a, xs, rfl, hx, q⟩ := h
  cases rx
  obtain ⟨its, r, ht, hz⟩ := I.list hx
  have hlen := r.length
  refine ⟨"list", _, slot_list_getitem.lookup, ht.isList.typeIs, ?_⟩
  refine wpAny_getItem_list_slice ht.isList hs pl pu .none (by simp) ?_ (by rw [List.size_toArray] <;> omega)
  rw [slicePick_cut, ← hlen]
  refine ⟨.ref s.heap.objs.size, _, I.laid (t' := s.toks) (o := .lst (cutV xs lo hi)) (fun b ob q => Heap.get?_push_of_some _ q) (Nat.le_refl _) ?_, rfl, q _ (I.hok.fresh (Nat.le_refl _))⟩
  exact ⟨Nat.le_trans (cutV_length xs lo hi) hz, _, 0, (r.drop (HT.sIx xs.length 0 lo)).take (HT.sIx xs.length xs.length hi - HT.sIx xs.length 0 lo), Heap.get?_push_size _ rfl⟩

/-! ### in, not in: flat items -/
def flatV : V → Bool
  | .non => true
  | .bl _ => true
  | .int _ => true
  | .str _ => true
  | _ => false
/-- == of flat values -/
def eqV : V → V → Bool
  | .non, .non => true
  | .bl a, .bl b => a == b
  | .bl a, .int b => (if a then 1 else 0) == b
  | .int a, .bl b => a == (if b then 1 else 0)
  | .int a, .int b => a == b
  | .str a, .str b => a == b
  | _, _ => false
theorem eqAt_V {A : Around} {s : Shared} {y x : V} {u v : Value} (ry : RelV y u) (rx : RelV x v) (fy : flatV y = true) (fx : flatV x = true) : SeqAt.EqAt A s u v (eqV y x) := by
  cases y with
  | non =>
    cases ry
    cases x with
    | non => cases rx; exact SeqAt.EqAt.same _
    | bl b => cases rx; exact SeqAt.EqAt.none_bool b
    | int b => obtain ⟨t, rfl⟩ := rx; exact SeqAt.EqAt.none_int b t
    | str b => obtain ⟨t, rfl⟩ := rx; exact SeqAt.EqAt.none_str b t
    | _ => exact absurd (show false = true from fx) Bool.false_ne_true
  | bl a =>
    cases ry
    cases x with
    | non => cases rx; exact SeqAt.EqAt.bool_none a
    | bl b => cases rx; exact SeqAt.EqAt.bool_bool a b
    | int b => obtain ⟨t, rfl⟩ := rx; exact SeqAt.EqAt.bool_int a b t
    | str b => obtain ⟨t, rfl⟩ := rx; exact SeqAt.EqAt.bool_str a b t
    | _ => exact absurd (show false = true from fx) Bool.false_ne_true
  | int a =>
    obtain ⟨t', rfl⟩ := ry
    cases x with
    | non => cases rx; exact SeqAt.EqAt.int_none a t'
    | bl b => cases rx; exact SeqAt.EqAt.int_bool a t' b
    | int b => obtain ⟨t, rfl⟩ := rx; exact SeqAt.EqAt.int_int a t' b t
    | str b => obtain ⟨t, rfl⟩ := rx; exact SeqAt.EqAt.int_str a t' b t
    | _ => exact absurd (show false = true from fx) Bool.false_ne_true
  | str a =>
    obtain ⟨t', rfl⟩ := ry
    cases x with
    | non => cases rx; exact SeqAt.EqAt.str_none a t'
    | bl b => cases rx; exact SeqAt.EqAt.str_bool a t' b
    | int b => obtain ⟨t, rfl⟩ := rx; exact SeqAt.EqAt.str_int a t' b t
    | str b => obtain ⟨t, rfl⟩ := rx; exact SeqAt.EqAt.str_str a t' b t
    | _ => exact absurd (show false = true from fx) Bool.false_ne_true
  | _ => exact absurd (show false = true from fy) Bool.false_ne_true
/-- the items' answers, read off the values (a value's own answer does not lean on its token) -/
def eqU (x : V) (u : Value) : Bool := match u with
  | .none => eqV .non x
  | .bool b => eqV (.bl b) x
  | .int i _ => eqV (.int i) x
  | .str z _ => eqV (.str z) x
  | _ => false
theorem eqU_of {x y : V} {u : Value} (r : RelV y u) (f : flatV y = true) : eqU x u = eqV y x := by
  cases y with
  | non => cases r; rfl
  | bl b => cases r; rfl
  | int i => obtain ⟨t, rfl⟩ := r; rfl
  | str z => obtain ⟨t, rfl⟩ := r; rfl
  | _ => exact absurd (show false = true from f) Bool.false_ne_true
theorem any_eqU {x : V} : ∀ {xs : List V} {us : List Value}, Vals xs us → xs.all flatV = true → us.any (eqU x) = xs.any fun y => eqV y x
  | _, _, .nil, _ => rfl
  | y :: xs, u :: us, .cons r t, f => by
    rw [List.all_cons, Bool.and_eq_true] at f
    rw [List.any_cons, List.any_cons, eqU_of r f.1, any_eqU t f.2]
theorem mem_eqAt {A : Around} {s : Shared} {x : V} {v : Value} (rx : RelV x v) (fx : flatV x = true) : ∀ {xs : List V} {us : List Value}, Vals xs us → xs.all flatV = true → ∀ u ∈ us, SeqAt.EqAt A s u v (eqU x u)
  | _, _, .nil, _ => fun u hu => by cases hu
  | y :: xs, u :: us, .cons r t, f => fun u' hu => by
    rw [List.all_cons, Bool.and_eq_true] at f
    rcases List.mem_cons.mp hu with rfl | hu
    · rw [eqU_of r f.1]; exact eqAt_V r rx f.1 fx
    · exact mem_eqAt rx fx t f.2 u' hu
def inV (x : V) (xs : List V) : Bool := xs.any fun y => eqV y x
/-- x in a list or tuple of flat items -/
def rIn (K : PySem.W.Frag) (neg : Bool) : R2 := fun x y H Q => ∃ p xs, y = .ref p ∧ (SqL K H p xs ∨ SqT K H p xs) ∧ flatV x = true ∧ xs.all flatV = true ∧ Q (.bl (if neg then !inV x xs else inV x xs)) H
theorem op_in_seq : OpR X (compareOp .In) (rIn X.K false) := by
  intro pins s σ H x y v u Q I rx ry h
  obtain ⟨p, xs, rfl, hq, fx, fs, q⟩ := h
  cases ry
  rcases hq with hq | hq
  · obtain ⟨its, r, pl, hz⟩ := I.list hq
    refine SeqAt.in_listAt (eqU x) pl.isList (fun w hw => mem_eqAt rx fx r fs w (by simpa using hw)) ⟨.bl _, H, I, rfl, ?_⟩
    rw [show its.toArray.any (eqU x) = its.any (eqU x) by simp, any_eqU r fs]
    exact q
  · obtain ⟨its, r, pl, hz⟩ := I.tuple hq
    refine SeqAt.in_tupleAt (eqU x) pl (fun w hw => mem_eqAt rx fx r fs w (by simpa using hw)) ⟨.bl _, H, I, rfl, ?_⟩
    rw [show its.toArray.any (eqU x) = its.any (eqU x) by simp, any_eqU r fs]
    exact q

/-! ### len, list(x), tuple(x) of any list or tuple that is read -/
theorem call_len_seq : CallR X (.builtin "len") (fun xs H Q => ∃ p ys, xs = [.ref p] ∧ (SqL X.K H p ys ∨ SqT X.K H p ys) ∧ Q (.int ys.length) H) := by
  intro pins s σ H xs us Q I r h
  obtain ⟨p, ys, rfl, hq, q⟩ := h
  obtain ⟨u, rfl, rx⟩ := vals1 r
  cases rx
  have hn := line63
  rcases hq with hq | hq
  · obtain ⟨its, r', pl, hz⟩ := I.list hq
    have hlen := r'.length
    exact Calls.call_len_list pl.isList (by simp only [List.size_toArray] <;> omega) ⟨.int ys.length, H, I.tok _, ⟨s.toks + 1, by rw [List.size_toArray, hlen]⟩, q⟩
  · obtain ⟨its, r', pl, hz⟩ := I.tuple hq
    have hlen := r'.length
    exact len_tuple pl (by simp only [List.size_toArray] <;> omega) ⟨.int ys.length, H, I.tok _, ⟨s.toks + 1, by rw [List.size_toArray, hlen]⟩, q⟩
theorem call_len_str : CallR X (.builtin "len") (fun xs H Q => ∃ z, xs = [.str z] ∧ z.length ≤ sizeLine ∧ Q (.int z.length) H) := by
  intro pins s σ H xs us Q I r h
  obtain ⟨z, rfl, hz, q⟩ := h
  obtain ⟨u, rfl, t, rfl⟩ := vals1 r
  have hn := line63
  exact len_str (by omega) ⟨.int z.length, H, I.tok _, ⟨_, rfl⟩, q⟩
theorem CallR.or {f : Value} {r r' : List V → Hp → VK → Prop} (h : CallR X f r) (h' : CallR X f r') : CallR X f (fun xs H Q => r xs H Q ∨ r' xs H Q) := by
  intro pins s σ H xs us Q I rs q
  rcases q with q | q
  · exact h pins s σ H xs us Q I rs q
  · exact h' pins s σ H xs us Q I rs q
theorem call_list_of : CallR X (.type "list") (fun xs H Q => ∃ p ys, xs = [.ref p] ∧ (SqL X.K H p ys ∨ SqT X.K H p ys) ∧ ∀ l, H l = none → Q (.ref l) (upd H l (.lst ys))) := by
  intro pins s σ H xs us Q I r h
  obtain ⟨p, ys, rfl, hq, q⟩ := h
  obtain ⟨u, rfl, rx⟩ := vals1 r
  cases rx
  have fin : ∀ (its : List Value), Vals ys its → ys.length ≤ sizeLine → ∀ (h' : Heap) (c' : Nat), (∀ b o', s.heap.get? b = some o' → h'.get? b = some o') →
      h'.get? s.heap.objs.size = some { cls := .type "list", dict := none, data := .seq its.toArray c', slots := #[] } → EP X pins σ Q (.ref s.heap.objs.size) { s with heap := h' } := fun its r' hz h' c' kp e =>
    ⟨.ref s.heap.objs.size, _, I.laid (t' := s.toks) kp (Nat.le_refl _) (show ObjOk X.prog X.w _ h' _ (.lst ys) from ⟨hz, its, c', r', e⟩), rfl, q _ (I.hok.fresh (Nat.le_refl _))⟩
  rcases hq with hq | hq
  · obtain ⟨its, r', pl, hz⟩ := I.list hq
    have hlen := r'.length
    obtain ⟨o, ho, hc, n, hd⟩ := pl.isList
    exact call_list_seq p (.inl rfl) ho hc hd (fun h' c' kp e => fin its r' hz h' c' kp e) (by simp only [List.size_toArray] <;> omega)
  · obtain ⟨its, r', pl, hz⟩ := I.tuple hq
    have hlen := r'.length
    obtain ⟨o, ho, hc, n, hd⟩ := pl
    exact call_list_seq p (.inr rfl) ho hc hd (fun h' c' kp e => fin its r' hz h' c' kp e) (by simp only [List.size_toArray] <;> omega)
theorem call_tuple_of : CallR X (.type "tuple") (fun xs H Q => ∃ p ys, xs = [.ref p] ∧ ((SqL X.K H p ys ∧ ∀ l, H l = none → Q (.ref l) (upd H l (.tup ys))) ∨ (SqT X.K H p ys ∧ Q (.ref p) H))) := by
  intro pins s σ H xs us Q I r h
  obtain ⟨p, ys, rfl, h⟩ := h
  obtain ⟨u, rfl, rx⟩ := vals1 r
  cases rx
  rcases h with ⟨hq, q⟩ | ⟨hq, q⟩
  · obtain ⟨its, r', pl, hz⟩ := I.list hq
    have hlen := r'.length
    refine call_tuple_list pl.isList (fun h' kp => ?_) (by simp only [List.size_toArray] <;> omega)
    have I1 : Inv X pins σ H { s with heap := h' } := I.kept (t' := s.toks) kp
    have I2 : Inv X pins σ (upd H h'.objs.size (.tup ys)) { s with heap := h'.push { cls := .type "tuple", data := .seq its.toArray } } :=
      I1.laid (t' := s.toks) (fun b o e => Heap.get?_push_of_some _ e) (Nat.le_refl _) (show ObjOk X.prog X.w _ _ _ (.tup ys) from ⟨hz, its, r', IsTup.new _ _⟩)
    exact ⟨.ref h'.objs.size, _, I2, rfl, q _ (I1.hok.fresh (Nat.le_refl _))⟩
  · obtain ⟨its, r', pl, hz⟩ := I.tuple hq
    exact call_tuple_same pl ⟨.ref p, H, I, rfl, q⟩

/-! ### the call of a builtin's method: o.m(..) -/
/-- the value is of that builtin type -/
def tyV (K : PySem.W.Frag) (T : String) (x : V) (H : Hp) : Prop := match x with
  | .str _ => T = "str"
  | .int _ => T = "int"
  | .ref p => (T = "list" ∧ ∃ xs, SqL K H p xs) ∨ (T = "tuple" ∧ ∃ o, K.lookup p = some o ∧ o.cls = .type "tuple" ∧ o.dict = none) ∨
      (T = "dict" ∧ ((∃ kvs, H p = some (.dK kvs)) ∨ ∃ kvs, H p = some (.dT kvs))) ∨ (T = "set" ∧ ∃ S n, H p = some (.set S n))
  | _ => False
theorem tyV_is {pins : List (Addr × Obj)} {σ : St} {H : Hp} {s : Shared} {T : String} {x : V} {v : Value} (I : Inv X pins σ H s) (r : RelV x v) (ty : tyV X.K T x H) :
    s.TypeIs v T ∧ ∀ a, v = .ref a → ∃ ob, s.heap.get? a = some ob ∧ ob.dict = none := by
  cases x with
  | str z =>
    obtain ⟨t, rfl⟩ := r
    cases (show T = "str" from ty)
    exact ⟨typeIs_str s z t, fun _ e => nomatch e⟩
  | int i =>
    obtain ⟨t, rfl⟩ := r
    cases (show T = "int" from ty)
    exact ⟨typeIs_int s i t, fun _ e => nomatch e⟩
  | ref p =>
    cases r
    rcases ty with ⟨rfl, xs, hq⟩ | ⟨rfl, o, hk, hc, hd⟩ | ⟨rfl, hk⟩ | ⟨rfl, S, n, hk⟩
    · obtain ⟨its, _, pl, _⟩ := I.list hq
      refine ⟨pl.isList.typeIs, fun a e => ?_⟩
      cases e
      obtain ⟨o, n, e, c, hd, _⟩ := pl
      exact ⟨o, e, hd⟩
    · refine ⟨⟨o, I.kIn p o hk, hc⟩, fun a e => ?_⟩
      cases e
      exact ⟨o, I.kIn _ o hk, hd⟩
    · have z : ∃ o, s.heap.get? p = some o ∧ o.ExactDict := by
        rcases hk with ⟨kvs, hk⟩ | ⟨kvs, hk⟩
        · obtain ⟨_, _, _, _, o, _, _, e, ex, _⟩ := I.hok p _ hk
          exact ⟨o, e, ex⟩
        · obtain ⟨_, _, _, _, o, _, _, e, ex, _⟩ := I.hok p _ hk
          exact ⟨o, e, ex⟩
      obtain ⟨o, e, ex⟩ := z
      refine ⟨⟨o, e, ex.1⟩, fun a e2 => ?_⟩
      cases e2
      exact ⟨o, e, ex.2.1⟩
    · obtain ⟨o, _, _, _, e, ex, _⟩ := I.hok p _ hk
      refine ⟨⟨o, e, ex.1⟩, fun a e2 => ?_⟩
      cases e2
      exact ⟨o, e, ex.2.1⟩
  | _ => exact False.elim ty
def tBM0 (K : PySem.W.Frag) (T : String) (r : V → List V → Hp → VK → Prop) (to : TE) : TE := fun σ H Q => to σ H fun x H1 => tyV K T x H1 ∧ r x [] H1 Q
def tBM (K : PySem.W.Frag) (T : String) (r : V → List V → Hp → VK → Prop) (to : TE) (t : TA) : TE := fun σ H Q => to σ H fun x H1 => tyV K T x H1 ∧ t σ H1 fun xs H2 => r x xs H2 Q
variable {o e : Expr} {es : List Expr} {to : TE} {t : TA} {name : Str} {apos cpos : Pos} {T id : String} {r : V → List V → Hp → VK → Prop}
theorem pe_bm (pa : PlainAttrs T) (slot : Slot T name id) (hty : typeOf (.builtin id) = pure (.type "method_descriptor")) (hm : MtR X id r) (ho : PE X o to) (ha : PA X (e :: es) t)
    (hbase : attributeBase o name X.env (eval o X.env) = eval o X.env := by rfl)
    (hfew : ((backTo cpos (starEach (e :: es) X.env)).all (fun x => !x.1) && (backToKw cpos (keywordEach [] X.env)).all (fun x => x.1.isSome)
      && decide ((e :: es).length + ([] : List Keyword).length + (if ([] : List Keyword).isEmpty then 0 else 1) < 30)) = true := by rfl)
    (hline : (apos.endLine == cpos.line) = true := by rfl) (hs : starEach (e :: es) X.env = (false, eval e X.env) :: starEach es X.env := by rfl) (hplain : (backTo cpos (starEach es X.env)).any (·.1) = false := by rfl) :
    PE X (.Call (.Attribute o name apos) (e :: es) [] cpos) (tBM X.K T r to t) := by
  intro pins s σ H Q I h
  refine wpAny_Call_method_late hbase hfew hline rfl (thn (ho pins s σ H _ I h) fun v s1 ⟨x, H1, I1, r1, ty, q1⟩ => ?_)
  obtain ⟨h1, h2⟩ := tyV_is I1 r1 ty
  refine ⟨T, id, pa, slot, hty, h1, h2, ?_⟩
  have hA := ha cpos pins s1 σ H1 _ I1 q1
  rw [hs] at hA ⊢
  refine Calls.callWith_builtin (by show (false || (backTo cpos (starEach es X.env)).any (·.1)) = false; rw [hplain] <;> rfl) (Calls.evalArgs_plain ?_)
  exact thn hA fun us s2 ⟨vs, H2, I2, r2, q2⟩ => hm pins s2 σ H2 x vs v us Q I2 r1 r2 q2
/- xs.append(e), list.index on a module's tuple .. are MtR facts of 06m -/
end
end L2

namespace L2
open PySem PySem.Spec PyProof.Rows

def MtM (X : Cx) (id : String) (r : V → List V → Hp → VK → Prop) : Prop :=
  ∀ (pins : List (Addr × Obj)) (s : Shared) (σ : St) (H : Hp) (x : V) (xs : List V) (v : Value) (us : List Value) (Q : VK), Inv X pins σ H s → RelV x v → Vals xs us → r x xs H Q →
    wpAny (model X.prog X.w) X.A (call (.builtin id) (v :: us)) (EP X pins σ Q) X.xe s

/-! ### lists of values -/
theorem Vals.one : ∀ {x : V} {us : List Value}, Vals [x] us → ∃ u, us = [u] ∧ RelV x u
  | _, _, .cons r .nil => ⟨_, rfl, r⟩
theorem Vals.two : ∀ {x y : V} {us : List Value}, Vals [x, y] us → ∃ u v, us = [u, v] ∧ RelV x u ∧ RelV y v
  | _, _, _, .cons r (.cons q .nil) => ⟨_, _, rfl, r, q⟩
theorem Vals.zero : ∀ {us : List Value}, Vals [] us → us = []
  | _, .nil => rfl
theorem Vals.dropLast {xs : List V} {us : List Value} (h : Vals xs us) : Vals xs.dropLast us.dropLast := by
  induction h with
  | nil => exact .nil
  | cons r t ih =>
    cases t with
    | nil => exact .nil
    | cons q t' => exact .cons r ih
theorem Vals.eraseIdx : ∀ {xs : List V} {us : List Value} (i : Nat), Vals xs us → Vals (xs.eraseIdx i) (us.eraseIdx i)
  | _, _, _, .nil => .nil
  | _, _, 0, .cons _ t => t
  | _, _, i + 1, .cons r t => .cons r (Vals.eraseIdx i t)
theorem Vals.reverse {xs : List V} {us : List Value} (h : Vals xs us) : Vals xs.reverse us.reverse := by
  induction h with
  | nil => exact .nil
  | cons r t ih => rw [List.reverse_cons, List.reverse_cons]; exact Vals.append ih (.cons r .nil)

section
variable {X : Cx} {pins : List (Addr × Obj)} {σ : St} {H : Hp} {s : Shared} {l b : Addr} {xs ys zs : List V}

/-! ### the two steps: a tracked list is rewritten, a new list is laid -/
theorem Inv.lset {its its' : List Value} {n : Nat} {f : Array Value → Array Value} {t' : Nat} (I : Inv X pins σ H s) (hH : H l = some (.lst xs))
    (e : s.heap.get? l = some { cls := .type "list", data := .seq its.toArray n }) (hf : f its.toArray = its'.toArray) (hv : Vals ys its') (hz : ys.length ≤ sizeLine) :
    Inv X pins σ (upd H l (.lst ys)) { s with heap := s.heap.update l (Obj.mapSeq f), toks := t' } := by
  have q := PySem.IsL.update e f
  rw [hf] at q
  refine I.write (x := l) (e := l) (by rw [hH]; exact trivial) (.inl rfl) (fun b' u hb hu => (Heap.get?_update_other s.heap (Obj.mapSeq f) (Ne.symm hb)).trans hu) ⟨_, q⟩ ?_
  exact ⟨hz, its', _, hv, q⟩
theorem Inv.lnew {its : List Value} {t' : Nat} (I : Inv X pins σ H s) (hv : Vals ys its) (hz : ys.length ≤ sizeLine) :
    Inv X pins σ (upd H s.heap.objs.size (.lst ys)) { s with heap := s.heap.push { cls := .type "list", data := .seq its.toArray }, toks := t' } :=
  I.laid (fun _ _ q => Heap.get?_push_of_some _ q) (Nat.le_refl _) ⟨hz, its, 0, hv, Heap.get?_push_size _ rfl⟩
theorem Inv.fresh (I : Inv X pins σ H s) : H s.heap.objs.size = none := I.hok.fresh (Nat.le_refl _)
theorem Inv.lstM (I : Inv X pins σ H s) (hH : H l = some (.lst xs)) : xs.length ≤ sizeLine ∧ ∃ (its : List Value) (n : Nat), Vals xs its ∧ xs.length = its.length ∧ s.heap.get? l = some { cls := .type "list", data := .seq its.toArray n } := by
  obtain ⟨z, its, n, r, e⟩ := I.hok l _ hH
  exact ⟨z, its, n, r, r.length, e⟩

end

section
variable {X : Cx}

/-! ### methods -/
def rAppend : V → List V → Hp → VK → Prop := fun x vs H Q => ∃ l xs y, x = .ref l ∧ vs = [y] ∧ H l = some (.lst xs) ∧ xs.length < sizeLine ∧ Q .non (upd H l (.lst (xs ++ [y])))
theorem mt_append : MtM X "list.append" rAppend := by
  intro pins s σ H x vs v us Q I rx rv h
  obtain ⟨l, xs, y, rfl, rfl, hH, hz, q⟩ := h
  cases rx
  obtain ⟨u, rfl, ru⟩ := rv.one
  obtain ⟨z, its, n, r, hl, e⟩ := I.lstM hH
  refine call_meets F.slot_list_append ⟨_, e, rfl⟩ F.entry_list_append (F.args_list_append_2 _ _) (PySem.list_append l its.toArray n u (by rw [List.size_toArray]; omega)) ⟨e, ?_⟩
  refine ⟨.non, _, I.lset (its' := its ++ [u]) hH e (by simp) (r.append (.cons ru .nil)) ?_, rfl, q⟩
  rw [List.length_append, List.length_singleton]
  omega

def rExtend : V → List V → Hp → VK → Prop := fun x vs H Q => ∃ l b xs zs, x = .ref l ∧ vs = [.ref b] ∧ H l = some (.lst xs) ∧ H b = some (.lst zs) ∧ xs.length + zs.length ≤ sizeLine ∧ Q .non (upd H l (.lst (xs ++ zs)))

def rPop : V → List V → Hp → VK → Prop := fun x vs H Q => ∃ l xs y, x = .ref l ∧ vs = [] ∧ H l = some (.lst xs) ∧ xs[xs.length - 1]? = some y ∧ Q y (upd H l (.lst xs.dropLast))

def rPopAt : V → List V → Hp → VK → Prop := fun x vs H Q => ∃ l xs i k y, x = .ref l ∧ vs = [.int i] ∧ H l = some (.lst xs) ∧ -(2 ^ 63) ≤ i ∧ i < 2 ^ 63 ∧ seqIndex? i xs.length = some k ∧ xs[k]? = some y ∧ Q y (upd H l (.lst (xs.eraseIdx k)))

def rReverse : V → List V → Hp → VK → Prop := fun x vs H Q => ∃ l xs, x = .ref l ∧ vs = [] ∧ H l = some (.lst xs) ∧ Q .non (upd H l (.lst xs.reverse))

def rClear : V → List V → Hp → VK → Prop := fun x vs H Q => ∃ l xs, x = .ref l ∧ vs = [] ∧ H l = some (.lst xs) ∧ Q .non (upd H l (.lst []))

/-! ### list + list, list += list, list * int -/
def rCat : R2 := fun x y H Q => ∃ l b xs zs, x = .ref l ∧ y = .ref b ∧ H l = some (.lst xs) ∧ H b = some (.lst zs) ∧ xs.length + zs.length ≤ sizeLine ∧ ∀ p, H p = none → Q (.ref p) (upd H p (.lst (xs ++ zs)))
theorem op_cat : OpR X (binaryOp .Add) rCat := by
  intro pins s σ H x y v u Q I rx ry h
  obtain ⟨l, b, xs, zs, rfl, rfl, hH, hB, hz, q⟩ := h
  cases rx
  cases ry
  obtain ⟨z, its, n, r, hl, e⟩ := I.lstM hH
  obtain ⟨z2, its2, n2, r2, hl2, e2⟩ := I.lstM hB
  refine PySem.P.add_list e e2 ?_ (by rw [List.size_toArray, List.size_toArray]; omega)
  have ea : its.toArray ++ its2.toArray = (its ++ its2).toArray := by simp
  rw [ea]
  exact ⟨.ref _, _, I.lnew (t' := s.toks) (r.append r2) (by rw [List.length_append]; omega), rfl, q _ I.fresh⟩
/-- a list times an int (a negative one is nothing) -/
def rRep : R2 := fun x y H Q => ∃ l k xs, x = .ref l ∧ y = .int k ∧ H l = some (.lst xs) ∧ -(2 ^ 63) ≤ k ∧ k < 2 ^ 63 ∧ xs.length * k.toNat ≤ sizeLine ∧
  ∀ p, H p = none → Q (.ref p) (upd H p (.lst (List.replicate k.toNat xs).flatten))

/-! ### del xs[i] -/
end

/-! ### xs[a:b] = ys -/
section
variable {prog : Program} {w : World} {A : Around} {E : Value → Shared → Prop} {s : Shared}
set_option maxRecDepth 100000 in
end

section
variable {X : Cx}
end
end L2

namespace Att
open PySem PySem.W PySem.Calls PyProof.Rows

/-! ### the script -/
theorem ints_of_wellAll {P : Params} {h : Heap} : ∀ (ns : List Int) (vs : List Value), WellAll P h vs (ns.map WData.int) → IntsAre vs ns := by
  intro ns
  induction ns with
  | nil =>
    intro vs w
    rw [List.map_nil] at w
    cases w
    exact .nil
  | cons n ns ih =>
    intro vs w
    rw [List.map_cons] at w
    cases w with
    | cons a b =>
      cases a
      exact .cons _ _ (ih _ b)

theorem script_of {l : OpenLaw} {n : Nat} (hn : l.most = some n) {P : Params} {h : Heap} {args : List WData} {vals : List Value}
    (hpre : l.row.toRowW.claim.pre args = true) (hwl : WellAll P h vals args) :
    ∃ a vs ns, vals = [Value.ref a] ∧ args = [WData.list (ns.map WData.int)] ∧ h.get? a = some { cls := .type "list", data := .seq vs.toArray } ∧ IntsAre vs ns ∧ ns.length ≤ n := by
  have hsh : WShape.hasAll [] args [.list .int] = true := (pre_splitW hpre).1
  have hc : l.pre.holds [] { args := args } = true := (pre_splitW hpre).2
  obtain ⟨d, r, rfl, h1, h2⟩ := hasAllW_cons hsh
  obtain rfl := hasAllW_nil h2
  obtain ⟨xs, rfl, h3⟩ := hasW_list h1
  obtain ⟨ns, rfl⟩ := items_int h3
  have hlen : ns.length ≤ n := by
    unfold OpenLaw.pre at hc
    have h4 : (WTm.not (.lt (.lit (.int (n : Int))) (.len (.arg 0)))).holds [] { args := [.list (ns.map .int)] } = true := by
      have h4 := (holds_andW hc).1
      rw [hn] at h4
      exact h4
    have h5 := condW_of h4 (w_not (w_lt w_lit (w_len_list (w_arg rfl))))
    rw [List.length_map] at h5
    refine Nat.le_of_not_lt fun q => ?_
    have q' : (n : Int) < ((ns.length : Nat) : Int) := by omega
    first
      | (rw [decide_eq_true q'] at h5; exact absurd h5 (by decide))
      | (simp at h5; omega)
  cases hwl with
  | cons w1 w2 =>
    cases w2
    cases w1 with
    | list ho hall => exact ⟨_, _, ns, rfl, rfl, ho, ints_of_wellAll ns _ hall, hlen⟩

theorem post_true (l : OpenLaw) (args : List WData) : l.row.toRowW.claim.post args (.bool true) args = true :=
  postW_of (r := l.row.toRowW) (X := (true == true))
    (show WShape.has [] (.bool true) .bool = true by first | rfl | decide | simp [WShape.has, WShape.arms, WShape.armsAll])
    (show (WTm.eq .res (.lit (.bool true))).value [] { args := args, res := some (.bool true), after := args } = some (.bool (true == true)) from w_eq_bool (w_res rfl) w_lit) rfl

/-! ### the attachment: holds_open's last premise (the goal 'hc' behind k_head) from a wpAny of the law's body -/

/-- the same from a codeAny of the CALL (for a layer whose function contracts speak of calls) -/
theorem attach_call {l : OpenLaw} {n : Nat} {q : Program} {loose : List Str} {XP : (Str → Option Value) → Heap → Prop} {YP : World → Heap → Prop} {d : DefRec}
    (hn : l.most = some n) (hdf : d.params.defaults = [])
    (call : ∀ (w : World) (s₀ s₁ : Shared) (mg mb : Str → Option Value) (fa : Addr) (o : Obj) (pm cd doc : Value) (a : Addr) (vs : List Value) (ns : List Int),
      Ground q loose [] XP w s₀ mg mb s₁.heap → YP w s₁.heap →
      s₁.heap.get? fa = some o → o.data = .func (docDef d.name d.params d.body d.scope pm cd doc) → s₁.heap.CodeRec cd d.name → mg d.name = some (.ref fa) →
      s₁.heap.get? a = some { cls := .type "list", data := .seq vs.toArray } → IntsAre vs ns → ns.length ≤ n → s₁.gens = #[] →
      codeAny (model l.prog w) callerA (.call (.ref fa) ⟨[.ref a], []⟩) (fun r s' => r = .ok (.ret (.bool true)) ∧ OldK s₁.heap s'.heap ∧ s'.os = s₁.os ∧ AllBare s'.gens) s₁) :
    WalkO q loose XP YP l.row.toRowW d [] (fun f vs => PySem.call f vs) := by
  intro w s₀ s₁ mg mb G Y fa o pm cd doc dV kV ho hd hcd hD hmg hg args vals as hpre hlay hrd hwl hlo
  obtain rfl : dV = .none := Dflts.none hD hdf
  obtain rfl : kV = .none := Dflts.noKw hD
  obtain ⟨a, vs, ns, rfl, rfl, hobj, hints, hlen⟩ := script_of hn hpre hwl
  refine enter_call (codeAny_mono (call w s₀ s₁ mg mb fa o pm cd doc a vs ns G Y ho (fd_plain hd) hcd hmg hobj hints hlen hg) fun r s' hq => ?_)
  obtain ⟨rfl, h2, h3, h4⟩ := hq
  exact ⟨.inl ⟨.bool true, .bool true, [], rfl, fun _ => rfl, .bool true, post_true l _, fun _ => ⟨List.Pairwise.nil, fun _ hm => (nomatch hm)⟩⟩, h2, h3, h4⟩


/-! ### rules over ANY heap (no ledger) from facts about the written part K: the library's own take a ledger (News) for what they write -/
section
variable {prog : Program} {w : World} {A : Around} {E : Value → Shared → Prop} {s : Shared} {K : Frag}





/-! the whole heap as the ledger: makes every rule that writes through a ledger a rule over any heap -/
def noObjs (h : Heap) : Heap := { h with objs := #[] }
def ledger (h : Heap) (L d : Addr) : List (Addr × Obj) := (List.range h.objs.size).filterMap fun a => if a = L ∨ a = d then none else (h.get? a).map fun o => (a, o)

end
end Att

namespace L2
open PySem PySem.Spec PyProof.Rows

theorem vals_ints : ∀ {vs : List Value} {ns : List Int}, IntsAre vs ns → Vals (ns.map V.int) vs
  | _, _, .nil => .nil
  | _, _, .cons n t h => .cons ⟨t, rfl⟩ (vals_ints h)

/-- nothing is tracked but the script, known to the object (or it is an object of the module) -/
def Only (H : Hp) : Prop := ∀ b, H b = none ∨ ∃ o xs, H b = some (.frz o (.lst xs))

/-- THE HEAD: the law's promise, at the heap behind the top. F, the promise of the law's def, may use that base is part of the heap (so K.In base, base.Ns mainGlobals mg stand in Mod) -/
theorem law_call {P : Program} {w : World} {K : PySem.W.Frag} {mg mb : Str → Option Value} {CX : CXT} {k : Nat} {fa a : Addr} {fd : FuncData} {x : Str} {sp : Sp} {s₁ : Shared} {vs : List Value} {ns : List Int}
    (KX : K.In s₁.heap) (hns : s₁.heap.Ns mainGlobals mg) (hb : s₁.heap.Ns builtinsNs mb) (hbb : ∀ x : Str, x ≠ "__name__" → mb x = bootBuiltins x) (hlim : s₁.heap.NoLimit) (hg : s₁.gens = #[])
    (ha : s₁.heap.get? a = some { cls := .type "list", data := .seq vs.toArray }) (hi : IntsAre vs ns) (hl : ns.length ≤ sizeLine) (hr : Room k callerA)
    (F : ∀ base : Heap, K.In base → base.Ns mainGlobals mg → FnOk P w K mg base CX k fa fd [x] sp) (hbind : ∀ (s : Shared) (u : Value), BindsTo s fd ⟨[u], []⟩ [(x, u)])
    (hsp : ∀ H : Hp, Only H → SqL K H a (ns.map V.int) → sp [.ref a] H (fun v _ => v = .bl true) fun _ _ _ => False)
    (hCX : ∀ H e s', CX [] H s₁ (fun _ _ _ => False) e s' → False) :
    codeAny (model P w) callerA (.call (.ref fa) ⟨[.ref a], []⟩) (fun r s' => r = .ok (.ret (.bool true)) ∧ OldK s₁.heap s'.heap ∧ s'.os = s₁.os ∧ AllBare s'.gens) s₁ := by
  have rv := vals_ints hi
  have lenV := hi.length
  -- from an abstract heap in which nothing but the script may be tracked
  have core : ∀ H : Hp, Only H → SqL K H a (ns.map V.int) → HOk P w H s₁.heap → (∀ b, H b ≠ none → b = a) → (H a ≠ none → K.lookup a = none) →
      codeAny (model P w) callerA (.call (.ref fa) ⟨[.ref a], []⟩) (fun r s' => r = .ok (.ret (.bool true)) ∧ OldK s₁.heap s'.heap ∧ s'.os = s₁.os ∧ AllBare s'.gens) s₁ := by
    intro H hO hS hok hA hK
    have base_of : ∀ {b : Addr} {o : Obj}, s₁.heap.get? b = some o → H b = none → (hidT s₁.heap H).get? b = some o := fun e n => hidT_get e n
    have noA : ∀ {b : Addr} {o : Obj} {es : Array DictEntry} {ep : Nat}, s₁.heap.get? b = some o → o.data = .dict es ep → H b = none := fun {b o es ep} e d => by
      cases q : H b with
      | none => rfl
      | some u =>
        have e' : b = a := hA b (by rw [q]; simp)
        subst e'
        rw [ha] at e; cases e
        have d' : Data.seq vs.toArray _ = Data.dict es ep := d
        cases d'
    have nsK : ∀ {b : Addr} {m : Str → Option Value}, s₁.heap.Ns b m → (hidT s₁.heap H).Ns b m := fun {b m} ⟨o, es, ep, e, d, r⟩ => ⟨o, es, ep, base_of e (noA e d), d, r⟩
    have hKb : K.In (hidT s₁.heap H) := fun b o e => base_of (KX b o e) (by
      cases q : H b with
      | none => rfl
      | some u =>
        have e' : b = a := hA b (by rw [q]; simp)
        subst e'
        rw [hK (by rw [q]; simp)] at e; cases e)
    have hM : Mod K mg (hidT s₁.heap H) := ⟨hKb, nsK hns, ⟨mb, nsK hb, hbb⟩, let ⟨mc, h1, h2⟩ := hlim; ⟨mc, nsK h1, h2⟩⟩
    have e0 : Env0 P w K mg (hidT s₁.heap H) callerA [] s₁ H := ⟨rfl, hM, fun b o e => of_hidT e, Nat.le_of_eq (hidT_size _ _), trivial, fun b hb => absurd (show b ∈ ([] : List Addr) from hb) (by simp), hok, .of_eq hg⟩
    refine codeAny_mono ((F _ hKb (nsK hns)).run callerA [] s₁ H ⟨[.ref a], []⟩ [.ref a] [.ref a] _ _ hr e0 (hbind s₁ (.ref a)) (.cons rfl .nil) (hsp H hO hS)) fun r s' h => ?_
    cases r with
    | error e => exact (hCX H e s' h).elim
    | ok fl =>
      cases fl with
      | next => exact False.elim h
      | brk => exact False.elim h
      | cont => exact False.elim h
      | ret u =>
        obtain ⟨v, H', os, bare, un, hok', r', q⟩ := h
        have q' : v = .bl true := q
        subst q'
        obtain rfl : u = Value.bool true := r'
        refine ⟨rfl, OldK.of_keep fun b o e => ?_, os, bare⟩
        cases q : H b with
        | none => exact un.keep b o e q (by intro z; exact absurd (show b ∈ ([] : List Addr) from z) (by simp)) (by simp)
        | some u =>
          rcases hO b with z | ⟨ob, xs, z⟩
          · rw [q] at z; cases z
          · have z2 := un.frzs b ob _ z
            obtain ⟨e1, _⟩ := hok b _ z
            obtain ⟨e2, _⟩ := hok' b _ z2
            rw [e] at e1; cases e1
            exact e2
  cases hk : K.lookup a with
  | some o =>
    -- the script is one of the module's own objects
    have e := KX a o hk
    rw [ha] at e
    cases e
    refine core (fun _ => none) (fun _ => .inl rfl) (.inr ⟨_, vs.toArray, _, hk, rfl, rfl, rfl, by rw [List.size_toArray, lenV]; exact hl, by simpa using rv⟩) (fun b u z => by have z' : (none : Option HO) = some u := z; cases z') (fun b z => absurd rfl z) fun z => absurd rfl z
  | none =>
    refine core (fun b => if b = a then some (.frz { cls := .type "list", data := .seq vs.toArray } (.lst (ns.map V.int))) else none) (fun b => ?_) (.inl (.inr ⟨{ cls := .type "list", data := .seq vs.toArray }, if_pos rfl⟩)) (fun b u z => ?_) (fun b z => ?_) fun _ => hk
    · by_cases hb : b = a
      · exact .inr ⟨_, _, if_pos hb⟩
      · exact .inl (if_neg hb)
    · by_cases hb : b = a
      · have z' := (if_pos hb).symm.trans z
        cases z'
        subst hb
        exact ⟨ha, by rw [List.length_map]; exact hl, vs, _, rv, ha⟩
      · have z' := (if_neg hb).symm.trans z
        cases z'
    · by_cases hb : b = a
      · exact hb
      · exact absurd (if_neg hb) z
end L2

namespace L2
open PySem PySem.Spec PyProof.Rows

abbrev KOf {K : PySem.W.Frag} {h : Heap} (_ : K.In h) : PySem.W.Frag := K

/-- the goal that k_head leaves (case hc), from the law's promise. F gives the function object fd (K's own) once, then the promise over every base -/
theorem walk_of {l : PySem.W.OpenLaw} {n k : Nat} {q : Program} {loose : List Str} {XP : (Str → Option Value) → Heap → Prop} {YP : World → Heap → Prop} {d : DefRec} {K : Params → PySem.W.Frag} {CX : World → CXT} {sp : World → Sp} {x : Str}
    (hn : l.most = some n) (hn2 : n ≤ sizeLine) (hdf : d.params.defaults = []) (hr : Room k callerA)
    (hY : ∀ (w : World) (h : Heap), YP w h → (K w.params).In h)
    (F : ∀ (w : World) (mg : Str → Option Value) (fa : Addr) (h : Heap), (K w.params).In h → h.Ns mainGlobals mg → mg d.name = some (.ref fa) →
      ∃ fd : FuncData, (∀ (s : Shared) (u : Value), BindsTo s fd ⟨[u], []⟩ [(x, u)]) ∧
        ∀ base : Heap, (K w.params).In base → base.Ns mainGlobals mg → FnOk l.prog w (K w.params) mg base (CX w) k fa fd [x] (sp w))
    (hsp : ∀ (w : World) (H : Hp) (a : Addr) (ns : List Int), ns.length ≤ n → Only H → SqL (K w.params) H a (ns.map V.int) → sp w [.ref a] H (fun v _ => v = .bl true) fun _ _ _ => False)
    (hCX : ∀ (w : World) (H : Hp) (s : Shared) (e : Value) (s' : Shared), CX w [] H s (fun _ _ _ => False) e s' → False) :
    PySem.W.WalkO q loose XP YP l.row.toRowW d [] (fun f vs => PySem.call f vs) := by
  refine Att.attach_call hn hdf fun w s₀ s₁ mg mb fa o pm cd doc a vs ns G Y ho hd hcd hmg hobj hints hlen hg => ?_
  have KX := hY w _ Y
  obtain ⟨fd, hb, hF⟩ := F w mg fa _ KX G.T.g hmg
  exact law_call KX G.T.g G.T.b G.T.builtins G.T.nolimit hg hobj hints (Nat.le_trans hlen hn2) hr hF hb (fun H hO hS => hsp w H a ns hlen hO hS) fun H e s' => hCX w H s₁ e s'
end L2

/- THE LAST THEOREM (shape; LID, My.* are yours):
   My.Adr: a structure of the addresses that your layer names (classes, functions); My.Txt K t: a structure (Prop) of the equations over K;
   My.txt_mk : {K} {implicit addresses ..} (e1 : nsIn K mainGlobals "law" = some (some (.ref f))) (e2 : K.lookup f = some ⟨oc, od, .func (fnOf "law" "law" params body scope dV kV doc pm an cdv ct), sl⟩) (e3 : codeIn K cdv "law" = true) .. : ∃ t, My.Txt K t

set_option maxRecDepth 100000 in
set_option maxHeartbeats 0 in
theorem PySem.Challenge.cw_LID_holds : PySem.Challenge.rw_LID.Holds := by
  w_on; o_law; k_head; (case hw => w_witness2)
  k_fill
  refine L2.walk_of (l := PySem.Challenge.rw_LID) (n := 63) (k := 40) (x := "script") (CX := fun w => ..) (sp := fun _ => My.sp_law) rfl (by decide) rfl ⟨rfl, by decide, by decide⟩ (fun w h Y => PySem.W.kIn_of Y) ?F ?S ?C
  case F =>
    intro w mg fa h KX G hmg
    have T : ∃ t, My.Txt (L2.KOf KX) t := by
      dsimp only [L2.KOf]                          -- K must stand as «<heap const> w.params» for k_is
      refine' My.txt_mk ?e1 ?e2 ?e3 ..
      (case e1 => PySem.W.k_is)                    -- in the order: a name -> its address -> its object -> its parts
      (case e2 => PySem.W.k_is)
      ..
    obtain ⟨t, T⟩ := T
    have e0 := hmg.symm.trans (PySem.W.mg_of KX G T.law)
    cases e0                                       -- fa is the law's own address
    exact ⟨_, fun s u => .of_eq rfl, fun base kb nb => My.law_fn T kb nb⟩     -- if «.of_eq rfl» comes too early: refine' ⟨_, ?b, fun base kb nb => My.law_fn T kb nb⟩; exact fun s u => .of_eq rfl
  case S => exact fun w H a ns hl hO hS => ..
  case C => exact ..
(the tactic k_is has no namespace: write k_is) -/

/-! SHORT WORDS over the layer: a def of the text, its body, what a loop and a test want. -/
namespace L2
open PySem PySem.Spec PyProof.Rows

/-! ### the text by places -/
/-- the j-th statement of a class's body -/
def inClass (s : Stmt) (j : Nat) : Stmt := match s with
  | .ClassDef _ _ _ body _ _ _ _ _ _ _ => body.getD j (.Pass ⟨0, 0, 0, 0⟩)
  | _ => .Pass ⟨0, 0, 0, 0⟩
def defArgs (s : Stmt) : Arguments := match s with
  | .FunctionDef _ a _ _ _ _ _ _ _ _ => a
  | _ => { posonlyargs := [], args := [], vararg := none, kwonlyargs := [], kw_defaults := [], kwarg := none, defaults := [] }
def defBody (s : Stmt) : List Stmt := match s with
  | .FunctionDef _ _ b _ _ _ _ _ _ _ => b
  | _ => []
def defScope (s : Stmt) : Scope := match s with
  | .FunctionDef _ _ _ _ _ _ sc _ _ _ => sc
  | _ => { kind := .function, names := [], isGenerator := false, isCoroutine := false }

/-! ### no exception leaves a def -/
abbrev CX0 : CXT := fun _ _ _ _ _ _ => False
abbrev E0 : XK := fun _ _ _ => False
theorem pass0 {X : Cx} : Passes CX0 X E0 := fun _ _ _ _ _ _ _ h => h.elim

/-! ### a def (or method) of the text as it stands behind the top -/
structure Fun (K : PySem.W.Frag) (x qual : Str) (st : Stmt) (f : Addr) (fd : FuncData) : Prop where
  ex : ∃ (oc : Value) (od : Option Addr) (kV doc pm : Value) (an : Option Addr) (cdv ct : Value) (osl : Array (Option Value)),
    fd = PySem.W.fnOf x qual (defArgs st) (defBody st) (defScope st) .none kV doc pm an cdv ct ∧ K.lookup f = some ⟨oc, od, .func fd, osl⟩ ∧ PySem.W.codeIn K cdv qual = true
  kp : PySem.W.keepIn K (.ref f) = true
section
variable {P : Program} {w : World} {K : PySem.W.Frag} {mg : Str → Option Value} {base : Heap}
/-- THE RULE for a def: its body as a term of rules, and the reading of that term -/
theorem Fun.ok {x qual : Str} {st : Stmt} {f : Addr} {fd : FuncData} {N ps : List Str} {k : Nat} {sp : Sp} (F : Fun K x qual st f fd) (S : FnScope N ps (defScope st)) (len : ∀ vs H Q E, sp vs H Q E → vs.length = ps.length)
    (hbody : ∀ (cdv : Value) (A : Around) (outer : List Env) (s : Shared) (H : Hp) (vs : List V) (Q : VK) (E : XK), Room k (A.deeper (envOfC qual (defScope st) s.heap.objs.size f cdv)) → sp vs H Q E →
      ∃ t, PSs (cxOf CX0 P w K mg base N qual (defScope st) f cdv A outer s H E).nox (defBody st) t ∧ t { nx := fun _ H' => Q .non H', rt := Q } (start N vs) H) : FnOk P w K mg base CX0 (k + 1) f fd ps sp := by
  obtain ⟨oc, od, kV, doc, pm, an, cdv, ct, osl, rfl, lk, hcd⟩ := F.ex
  refine fn_of lk hcd S len fun A outer s H vs Q E hr hsp => ?_
  obtain ⟨t, h, q⟩ := hbody cdv A outer s H vs Q E hr hsp
  exact ⟨t, h.nox, q⟩
/-- how its arguments bind (no defaults): h is «fun _ _ _ _ _ _ us hl => match us, hl with | [_, _], _ => rfl», one _ a parameter -/
theorem Fun.binds {x qual : Str} {st : Stmt} {f : Addr} {fd : FuncData} {ps : List Str} (F : Fun K x qual st f fd)
    (h : ∀ (kV doc pm : Value) (an : Option Addr) (cdv ct : Value) (us : List Value), us.length = ps.length → bindArgs (PySem.W.fnOf x qual (defArgs st) (defBody st) (defScope st) .none kV doc pm an cdv ct) ⟨us, []⟩ = pure (ps.zip us)) : Binds K fd ps [] := by
  obtain ⟨oc, od, kV, doc, pm, an, cdv, ct, osl, rfl, lk, hcd⟩ := F.ex
  exact .all (h kV doc pm an cdv ct)
theorem fun_mk {x qual : Str} {st : Stmt} {f : Addr} {oc : Value} {od an : Option Addr} {osl : Array (Option Value)} {kV doc pm cdv ct : Value} (l : K.lookup f = some ⟨oc, od, .func (PySem.W.fnOf x qual (defArgs st) (defBody st) (defScope st) .none kV doc pm an cdv ct), osl⟩)
    (c : PySem.W.codeIn K cdv qual = true) (k : PySem.W.keepIn K (.ref f) = true) : Fun K x qual st f (PySem.W.fnOf x qual (defArgs st) (defBody st) (defScope st) .none kV doc pm an cdv ct) := ⟨⟨oc, od, kV, doc, pm, an, cdv, ct, osl, rfl, l, c⟩, k⟩
end
theorem hu_of {A : Around} {k : Nat} (hr : Room k A) : A.units + 1 < cLine := Nat.lt_of_le_of_lt (Nat.add_le_add_left (by decide : 1 ≤ 64) _) hr.units

/-! ### expressions in short: the name that stands in the i-th slot -/
section
variable {X : Cx}
end

/-! ### tests -/
theorem iteF {A B : Prop} (h : B) : if false = true then A else B := by
  rw [if_neg Bool.false_ne_true]
  exact h
theorem iteT {A B : Prop} (h : A) : if true = true then A else B := by
  rw [if_pos rfl]
  exact h
theorem ite2 {c A B : Prop} [Decidable c] (h1 : c → A) (h2 : ¬ c → B) : if c then A else B := by
  by_cases h : c
  · rw [if_pos h]
    exact h1 h
  · rw [if_neg h]
    exact h2 h

/-! ### heaps -/
/-- all that was tracked is as it was -/
def Same (H H' : Hp) : Prop := ∀ b o, H b = some o → H' b = some o
theorem Same.refl (H : Hp) : Same H H := fun _ _ h => h
theorem Same.trans {H H1 H2 : Hp} (a : Same H H1) (b : Same H1 H2) : Same H H2 := fun c o h => b c o (a c o h)
theorem Same.free {H H' : Hp} (e : Same H H') {l : Addr} (h : H' l = Option.none) : H l = Option.none := by
  cases q : H l with
  | none => rfl
  | some o =>
    rw [e l o q] at h
    cases h
theorem Same.seq {K : PySem.W.Frag} {H H' : Hp} {a : Addr} {xs : List V} (e : Same H H') (h : SqL K H a xs) : SqL K H' a xs := by
  rcases h with (h | ⟨o, h⟩) | h
  · exact .inl (.inl (e _ _ h))
  · exact .inl (.inr ⟨o, e _ _ h⟩)
  · exact .inr h

end L2

namespace L2
open PySem PySem.Spec PyProof.Rows
section
variable {X : Cx}
end
end L2
namespace L2
open PySem PySem.Spec PyProof.Rows
/-! ### a dict's pairs: keys that differ -/
section
variable {κ : Type} [DecidableEq κ]
end
end L2
end
section
set_option Elab.async false
set_option linter.all false
set_option maxRecDepth 100000
set_option maxHeartbeats 4000000
namespace L2
open PySem
/-! ### a dict walked by its entries, whatever its keys -/
def DRaw (h : Heap) (d : Addr) (es : Array DictEntry) (ep : Nat) : Prop := ∃ ob, h.get? d = some ob ∧ ob.ExactDict ∧ ob.data = .dict es ep
theorem DRaw.type {s : Shared} {d : Addr} {es : Array DictEntry} {ep : Nat} (m : DRaw s.heap d es ep) : s.TypeIs (.ref d) "dict" := let ⟨ob, a, b, _⟩ := m; ⟨ob, a, b.1⟩
theorem DRaw.lt {h : Heap} {d : Addr} {es : Array DictEntry} {ep : Nat} (m : DRaw h d es ep) : d < h.objs.size := let ⟨_, a, _⟩ := m; Heap.lt_size a
theorem DRaw.at {h h' : Heap} {d : Addr} {es : Array DictEntry} {ep : Nat} (m : DRaw h d es ep) (k : ∀ o, h.get? d = some o → h'.get? d = some o) : DRaw h' d es ep := let ⟨ob, a, r⟩ := m; ⟨ob, k _ a, r⟩
section
variable {prog : Program} {w : World} {A : Around} {E : Value → Shared → Prop} {s : Shared}
end
end L2
end
section
set_option linter.all false
namespace Kn
open PySem
/-- a value of the document, as a tree -/
inductive Val where
  | num (i : Int)
  | word (s : Str)
  | row (ps : List (Str × Val))
  | bag (ps : List (Val × Int))
/-- an item of an order key -/
inductive KE where
  | i (n : Int)
  | s (x : Str)
noncomputable instance : DecidableEq Val := fun a b => Classical.propDecidable (a = b)
noncomputable instance : DecidableEq KE := fun a b => Classical.propDecidable (a = b)
def sLt (a b : Str) : Bool := decide (a.cps.toList < b.cps.toList)
def rank : Val → Int
  | .num _ => 0
  | .word _ => 1
  | .row _ => 2
  | .bag _ => 3
mutual
def key : Val → List KE
  | .num i => [.i 0, .i i]
  | .word s => [.i 1, .s s]
  | .row ps => .i 2 :: keyR ps
  | .bag ps => .i 3 :: keyB ps
def keyR : List (Str × Val) → List KE
  | [] => [.i 0]
  | p :: ps => .i 1 :: .s p.1 :: (key p.2 ++ keyR ps)
def keyB : List (Val × Int) → List KE
  | [] => [.i 0]
  | p :: ps => .i 1 :: (key p.1 ++ .i p.2 :: keyB ps)
end
mutual
noncomputable def ltV : Val → Val → Bool
  | .num i, .num j => decide (i < j)
  | .word s, .word t => sLt s t
  | .row ps, .row qs => ltR ps qs
  | .bag ps, .bag qs => ltB ps qs
  | x, y => decide (rank x < rank y)
noncomputable def ltR : List (Str × Val) → List (Str × Val) → Bool
  | [], [] => false
  | [], _ :: _ => true
  | _ :: _, [] => false
  | p :: ps, q :: qs => if p = q then ltR ps qs else if p.1 = q.1 then ltV p.2 q.2 else sLt p.1 q.1
noncomputable def ltB : List (Val × Int) → List (Val × Int) → Bool
  | [], [] => false
  | [], _ :: _ => true
  | _ :: _, [] => false
  | p :: ps, q :: qs => if p = q then ltB ps qs else if p.1 = q.1 then decide (p.2 < q.2) else ltV p.1 q.1
end
/-- tuples of ints and texts by < : none where an int meets a text -/
def kEl : KE → KE → Option Bool
  | .i m, .i n => some (decide (m < n))
  | .s x, .s y => some (sLt x y)
  | _, _ => none
noncomputable def cmpK : List KE → List KE → Option Bool
  | [], [] => some false
  | [], _ :: _ => some true
  | _ :: _, [] => some false
  | a :: as, b :: bs => if a = b then cmpK as bs else kEl a b

/-- what ahead tells -/
noncomputable def aheadB (x y : Val) : Bool := if x = y then false else ltV x y
end Kn
end
section
set_option Elab.async false
set_option linter.all false
set_option maxRecDepth 100000
set_option maxHeartbeats 4000000
namespace L2
open PySem PySem.Spec PyProof.Rows

/-! ### data: ints, texts, tuples of data -/
inductive Dt where
  | int (i : Int)
  | str (x : Str)
  | tup (ds : List Dt)
noncomputable instance : DecidableEq Dt := fun a b => Classical.propDecidable (a = b)
mutual
def Dt.dep : Dt → Nat
  | .int _ => 0
  | .str _ => 0
  | .tup ds => depL ds + 1
def depL : List Dt → Nat
  | [] => 0
  | d :: ds => max d.dep (depL ds)
end
theorem dep_mem : ∀ {ds : List Dt} {d : Dt}, d ∈ ds → d.dep ≤ depL ds
  | d :: ds, e, h => by
    rw [depL]
    rcases List.mem_cons.mp h with rfl | h
    · exact Nat.le_max_left _ _
    · exact Nat.le_trans (dep_mem h) (Nat.le_max_right _ _)
mutual
def IsDt (H : Hp) : Dt → V → Prop
  | .int i, v => v = .int i
  | .str x, v => v = .str x
  | .tup ds, v => ∃ a xs, v = .ref a ∧ H a = some (.tup xs) ∧ IsDts H ds xs
def IsDts (H : Hp) : List Dt → List V → Prop
  | [], xs => xs = []
  | d :: ds, xs => ∃ y ys, xs = y :: ys ∧ IsDt H d y ∧ IsDts H ds ys
end
/-- tuples stay -/
def Tups (H H' : Hp) : Prop := ∀ b xs, H b = some (.tup xs) → H' b = some (.tup xs)
theorem Tups.refl (H : Hp) : Tups H H := fun _ _ h => h
theorem Tups.trans {H H1 H2 : Hp} (a : Tups H H1) (b : Tups H1 H2) : Tups H H2 := fun c xs h => b c xs (a c xs h)
theorem Same.tups {H H' : Hp} (h : Same H H') : Tups H H' := fun b xs e => h b _ e
theorem Tups.new {H : Hp} {p : Addr} (h : H p = none) (o : HO) : Tups H (upd H p o) := fun b xs e => by rw [upd_ne (ne_of_none e h)]; exact e
theorem Tups.lst {H : Hp} {p : Addr} {xs ys : List V} (h : H p = some (.lst xs)) : Tups H (upd H p (.lst ys)) := fun b zs e => by
  rw [upd_ne (ne_of e h (by intro z; cases z))]; exact e
mutual
theorem IsDt.mono {H H' : Hp} (t : Tups H H') : ∀ {d : Dt} {v : V}, IsDt H d v → IsDt H' d v
  | .int i, v, h => by rw [IsDt] at h ⊢; exact h
  | .str x, v, h => by rw [IsDt] at h ⊢; exact h
  | .tup ds, v, h => by
    rw [IsDt] at h ⊢
    obtain ⟨a, xs, e, h1, h2⟩ := h
    exact ⟨a, xs, e, t a xs h1, IsDts.mono t h2⟩
theorem IsDts.mono {H H' : Hp} (t : Tups H H') : ∀ {ds : List Dt} {xs : List V}, IsDts H ds xs → IsDts H' ds xs
  | [], xs, h => by rw [IsDts] at h ⊢; exact h
  | d :: ds, xs, h => by
    rw [IsDts] at h ⊢
    obtain ⟨y, ys, e, h1, h2⟩ := h
    exact ⟨y, ys, e, IsDt.mono t h1, IsDts.mono t h2⟩
end
mutual
theorem IsDt.inj {H : Hp} : ∀ {d e : Dt} {v : V}, IsDt H d v → IsDt H e v → d = e
  | .int i, e, v, h, h' => by
    rw [IsDt] at h; subst h
    cases e with
    | int j => rw [IsDt] at h'; cases h'; rfl
    | str y => rw [IsDt] at h'; cases h'
    | tup es => rw [IsDt] at h'; obtain ⟨_, _, z, _⟩ := h'; cases z
  | .str i, e, v, h, h' => by
    rw [IsDt] at h; subst h
    cases e with
    | int j => rw [IsDt] at h'; cases h'
    | str y => rw [IsDt] at h'; cases h'; rfl
    | tup es => rw [IsDt] at h'; obtain ⟨_, _, z, _⟩ := h'; cases z
  | .tup ds, e, v, h, h' => by
    rw [IsDt] at h
    obtain ⟨a, xs, rfl, h1, h2⟩ := h
    cases e with
    | int j => rw [IsDt] at h'; cases h'
    | str y => rw [IsDt] at h'; cases h'
    | tup es =>
      rw [IsDt] at h'
      obtain ⟨b, ys, z, g1, g2⟩ := h'
      cases z
      rw [h1] at g1
      cases g1
      rw [IsDts.inj h2 g2]
theorem IsDts.inj {H : Hp} : ∀ {ds es : List Dt} {xs : List V}, IsDts H ds xs → IsDts H es xs → ds = es
  | [], es, xs, h, h' => by
    rw [IsDts] at h; subst h
    cases es with
    | nil => rfl
    | cons e es => rw [IsDts] at h'; obtain ⟨_, _, z, _⟩ := h'; cases z
  | d :: ds, es, xs, h, h' => by
    rw [IsDts] at h
    obtain ⟨y, ys, rfl, h1, h2⟩ := h
    cases es with
    | nil => rw [IsDts] at h'; cases h'
    | cons e es =>
      rw [IsDts] at h'
      obtain ⟨y', ys', z, g1, g2⟩ := h'
      cases z
      rw [IsDt.inj h1 g1, IsDts.inj h2 g2]
end
theorem IsDts.length {H : Hp} : ∀ {ds : List Dt} {xs : List V}, IsDts H ds xs → xs.length = ds.length
  | [], xs, h => by rw [IsDts] at h; subst h; rfl
  | d :: ds, xs, h => by
    rw [IsDts] at h
    obtain ⟨y, ys, rfl, h1, h2⟩ := h
    simp [IsDts.length h2]
theorem IsDts.get {H : Hp} : ∀ {ds : List Dt} {xs : List V} {i : Nat} {d : Dt}, IsDts H ds xs → ds[i]? = some d → ∃ y, xs[i]? = some y ∧ IsDt H d y
  | [], xs, i, d, h, e => by simp at e
  | c :: ds, xs, 0, d, h, e => by
    rw [IsDts] at h
    obtain ⟨y, ys, rfl, h1, h2⟩ := h
    simp at e; subst e
    exact ⟨y, rfl, h1⟩
  | c :: ds, xs, i + 1, d, h, e => by
    rw [IsDts] at h
    obtain ⟨y, ys, rfl, h1, h2⟩ := h
    obtain ⟨z, q, r⟩ := IsDts.get (i := i) h2 (by simpa using e)
    exact ⟨z, by simpa using q, r⟩
theorem IsDts.append {H : Hp} : ∀ {ds es : List Dt} {xs ys : List V}, IsDts H ds xs → IsDts H es ys → IsDts H (ds ++ es) (xs ++ ys)
  | [], es, xs, ys, h, h' => by rw [IsDts] at h; subst h; exact h'
  | d :: ds, es, xs, ys, h, h' => by
    rw [IsDts] at h
    obtain ⟨z, zs, rfl, h1, h2⟩ := h
    rw [List.cons_append, List.cons_append, IsDts]
    exact ⟨z, zs ++ ys, rfl, h1, IsDts.append h2 h'⟩
theorem IsDts.take {H : Hp} : ∀ {ds : List Dt} {xs : List V} (n : Nat), IsDts H ds xs → IsDts H (ds.take n) (xs.take n)
  | _, _, 0, _ => by rw [List.take_zero, List.take_zero, IsDts]
  | [], xs, n + 1, h => by rw [IsDts] at h; subst h; rw [List.take_nil, List.take_nil, IsDts]
  | d :: ds, xs, n + 1, h => by
    rw [IsDts] at h
    obtain ⟨z, zs, rfl, h1, h2⟩ := h
    rw [List.take_succ_cons, List.take_succ_cons, IsDts]
    exact ⟨z, _, rfl, h1, IsDts.take n h2⟩
theorem IsDts.drop {H : Hp} : ∀ {ds : List Dt} {xs : List V} (n : Nat), IsDts H ds xs → IsDts H (ds.drop n) (xs.drop n)
  | _, _, 0, h => by rw [List.drop_zero, List.drop_zero]; exact h
  | [], xs, n + 1, h => by rw [IsDts] at h; subst h; rw [List.drop_nil, List.drop_nil, IsDts]
  | d :: ds, xs, n + 1, h => by
    rw [IsDts] at h
    obtain ⟨z, zs, rfl, h1, h2⟩ := h
    rw [List.drop_succ_cons, List.drop_succ_cons]
    exact IsDts.drop n h2
theorem IsDts.one {H : Hp} {d : Dt} {v : V} (h : IsDt H d v) : IsDts H [d] [v] := by
  rw [IsDts]; exact ⟨v, [], rfl, h, by rw [IsDts]⟩
theorem IsDts.cons {H : Hp} {d : Dt} {v : V} {ds : List Dt} {vs : List V} (h : IsDt H d v) (h' : IsDts H ds vs) : IsDts H (d :: ds) (v :: vs) := by
  rw [IsDts]; exact ⟨v, vs, rfl, h, h'⟩
theorem IsDts.nil {H : Hp} : IsDts H [] [] := by rw [IsDts]
theorem isDt_tup {H : Hp} {a : Addr} {xs : List V} {ds : List Dt} (h : H a = some (.tup xs)) (h' : IsDts H ds xs) : IsDt H (.tup ds) (.ref a) := by rw [IsDt]; exact ⟨a, xs, rfl, h, h'⟩
/-- a tuple of data just made -/
theorem isDt_new {H : Hp} {p : Addr} {xs : List V} {ds : List Dt} (hp : H p = none) (h' : IsDts H ds xs) : IsDt (upd H p (.tup xs)) (.tup ds) (.ref p) :=
  isDt_tup upd_same (h'.mono (.new hp _))

/-! ### == of data -/
section
variable {P : Program} {w : World} {H : Hp}
theorem all_eq (ds es : List Dt) : ((List.range (min ds.length es.length)).all (fun j => decide (ds[j]? = es[j]?)) && ds.length == es.length) = decide (ds = es) := by
  rw [Bool.eq_iff_iff]
  simp only [Bool.and_eq_true, List.all_eq_true, List.mem_range, decide_eq_true_eq, beq_iff_eq]
  constructor
  · rintro ⟨h1, h2⟩
    refine List.ext_getElem? fun i => ?_
    by_cases hi : i < min ds.length es.length
    · exact h1 i hi
    · rw [List.getElem?_eq_none (by omega), List.getElem?_eq_none (by omega)]
  · rintro rfl
    exact ⟨fun _ _ => rfl, rfl⟩
theorem eqAt_D : ∀ (n : Nat) (A : Around) (s : Shared) (d e : Dt) (v u : V) (x y : Value), HOk P w H s.heap → d.dep ≤ n → A.units + n < cLine → IsDt H d v → IsDt H e u → RelV v x → RelV u y → SeqAt.EqAt A s x y (decide (d = e)) := by
  intro n
  induction n with
  | zero =>
    intro A s d e v u x y ok hd hu iv iu rv ru
    cases d with
    | int i =>
      rw [IsDt] at iv; subst iv
      obtain ⟨t, rfl⟩ := rv
      cases e with
      | int j =>
        rw [IsDt] at iu; subst iu
        obtain ⟨t', rfl⟩ := ru
        have z : decide (Dt.int i = Dt.int j) = (i == j) := by rw [Bool.eq_iff_iff]; simp
        rw [z]; exact SeqAt.EqAt.int_int i t j t'
      | str z =>
        rw [IsDt] at iu; subst iu
        obtain ⟨t', rfl⟩ := ru
        rw [decide_eq_false (by intro q; cases q)]; exact SeqAt.EqAt.int_str i t z t'
      | tup es =>
        rw [IsDt] at iu
        obtain ⟨a, xs, rfl, h1, h2⟩ := iu
        cases ru
        obtain ⟨hz, its, r, p⟩ := ok a _ h1
        rw [decide_eq_false (by intro q; cases q)]; exact SeqAt.EqAt.int_tuple i t p (by omega)
    | str i =>
      rw [IsDt] at iv; subst iv
      obtain ⟨t, rfl⟩ := rv
      cases e with
      | int j =>
        rw [IsDt] at iu; subst iu
        obtain ⟨t', rfl⟩ := ru
        rw [decide_eq_false (by intro q; cases q)]; exact SeqAt.EqAt.str_int i t j t'
      | str z =>
        rw [IsDt] at iu; subst iu
        obtain ⟨t', rfl⟩ := ru
        have q : decide (Dt.str i = Dt.str z) = (i == z) := by rw [Bool.eq_iff_iff]; simp
        rw [q]; exact SeqAt.EqAt.str_str i t z t'
      | tup es =>
        rw [IsDt] at iu
        obtain ⟨a, xs, rfl, h1, h2⟩ := iu
        cases ru
        obtain ⟨hz, its, r, p⟩ := ok a _ h1
        rw [decide_eq_false (by intro q; cases q)]; exact SeqAt.EqAt.str_tuple i t p (by omega)
    | tup ds => rw [Dt.dep] at hd; omega
  | succ n ih =>
    intro A s d e v u x y ok hd hu iv iu rv ru
    cases d with
    | int i => exact ih A s _ e v u x y ok (by rw [Dt.dep]; omega) (by omega) iv iu rv ru
    | str i => exact ih A s _ e v u x y ok (by rw [Dt.dep]; omega) (by omega) iv iu rv ru
    | tup ds =>
      rw [IsDt] at iv
      obtain ⟨a, xs, rfl, h1, h2⟩ := iv
      cases rv
      obtain ⟨hz, its, r, p⟩ := ok a _ h1
      cases e with
      | int j =>
        rw [IsDt] at iu; subst iu
        obtain ⟨t', rfl⟩ := ru
        rw [decide_eq_false (by intro q; cases q)]; exact SeqAt.EqAt.tuple_int j t' p (by omega)
      | str z =>
        rw [IsDt] at iu; subst iu
        obtain ⟨t', rfl⟩ := ru
        rw [decide_eq_false (by intro q; cases q)]; exact SeqAt.EqAt.tuple_str z t' p (by omega)
      | tup es =>
        have iu' := iu
        rw [IsDt] at iu
        obtain ⟨b, ys, rfl, g1, g2⟩ := iu
        cases ru
        obtain ⟨hz2, its2, r2, p2⟩ := ok b _ g1
        by_cases hab : a = b
        · subst hab
          rw [h1] at g1
          cases g1
          rw [IsDts.inj h2 g2, decide_eq_true rfl]
          exact SeqAt.EqAt.same _
        · have l1 : its.toArray.size = ds.length := by rw [List.size_toArray, ← r.length, h2.length]
          have l2 : its2.toArray.size = es.length := by rw [List.size_toArray, ← r2.length, g2.length]
          have q := SeqAt.RcAt.tuples (s := s) (A := A) (e := fun j => decide (ds[j]? = es[j]?)) p p2 (by omega) fun j hj1 hj2 => by
            have k1 : j < ds.length := by rw [← l1]; exact hj1
            have k2 : j < es.length := by rw [← l2]; exact hj2
            obtain ⟨y1, e1, i1⟩ := h2.get (i := j) (List.getElem?_eq_getElem k1)
            obtain ⟨y2, e2, i2⟩ := g2.get (i := j) (List.getElem?_eq_getElem k2)
            obtain ⟨u1, f1, q1⟩ := r.get e1
            obtain ⟨u2, f2, q2⟩ := r2.get e2
            have w1 : its.toArray[j] = u1 := by
              have := (List.getElem?_eq_some_iff.mp f1).2
              simpa using this
            have w2 : its2.toArray[j] = u2 := by
              have := (List.getElem?_eq_some_iff.mp f2).2
              simpa using this
            rw [w1, w2, List.getElem?_eq_getElem k1, List.getElem?_eq_getElem k2]
            have z : decide (some ds[j] = some es[j]) = decide (ds[j] = es[j]) := by rw [Bool.eq_iff_iff]; simp
            rw [z]
            have hdep : ds[j].dep ≤ n := by
              have := dep_mem (List.getElem_mem k1)
              rw [Dt.dep] at hd
              omega
            exact ih A.in1 s _ _ y1 y2 u1 u2 ok hdep (by show A.units + 1 + n < cLine; omega) i1 i2 q1 q2
          rw [l1, l2, all_eq] at q
          have z : decide (Dt.tup ds = Dt.tup es) = decide (ds = es) := by rw [Bool.eq_iff_iff]; simp
          rw [z]
          exact SeqAt.EqAt.of_refs hab q
end
section
variable {X : Cx}
/-- how deep data may be for == -/
def depMax : Nat := 100
def rEqD : R2 := fun x y H Q => ∃ d e, IsDt H d x ∧ IsDt H e y ∧ d.dep ≤ depMax ∧ Q (.bl (decide (d = e))) H
def rNeD : R2 := fun x y H Q => ∃ d e, IsDt H d x ∧ IsDt H e y ∧ d.dep ≤ depMax ∧ Q (.bl (!decide (d = e))) H
theorem items_eq {P : Program} {w : World} {H : Hp} {s : Shared} {A : Around} {ds es : List Dt} {xs ys : List V} {its its2 : List Value} {n : Nat} (ok : HOk P w H s.heap) (hd : depL ds ≤ n) (hu : A.units + n < cLine) (h2 : IsDts H ds xs) (g2 : IsDts H es ys) (r : Vals xs its) (r2 : Vals ys its2) :
    ∀ j (h1 : j < its.toArray.size) (h2 : j < its2.toArray.size), SeqAt.EqAt A s its.toArray[j] its2.toArray[j] (decide (ds[j]? = es[j]?)) := fun j hj1 hj2 => by
  have l1 : its.toArray.size = ds.length := by rw [List.size_toArray, ← r.length, h2.length]
  have l2 : its2.toArray.size = es.length := by rw [List.size_toArray, ← r2.length, g2.length]
  have k1 : j < ds.length := by rw [← l1]; exact hj1
  have k2 : j < es.length := by rw [← l2]; exact hj2
  obtain ⟨y1, e1, i1⟩ := h2.get (i := j) (List.getElem?_eq_getElem k1)
  obtain ⟨y2, e2, i2⟩ := g2.get (i := j) (List.getElem?_eq_getElem k2)
  obtain ⟨u1, f1, q1⟩ := r.get e1
  obtain ⟨u2, f2, q2⟩ := r2.get e2
  have w1 : its.toArray[j] = u1 := by
    have := (List.getElem?_eq_some_iff.mp f1).2
    simpa using this
  have w2 : its2.toArray[j] = u2 := by
    have := (List.getElem?_eq_some_iff.mp f2).2
    simpa using this
  rw [w1, w2, List.getElem?_eq_getElem k1, List.getElem?_eq_getElem k2]
  have z : decide (some ds[j] = some es[j]) = decide (ds[j] = es[j]) := by rw [Bool.eq_iff_iff]; simp
  rw [z]
  exact eqAt_D n A s _ _ y1 y2 u1 u2 ok (Nat.le_trans (dep_mem (List.getElem_mem k1)) hd) hu i1 i2 q1 q2
theorem op_eqD (hu : X.A.units + 110 < cLine) : OpR X (compareOp .Eq) rEqD := by
  intro pins s σ H x y v u Q I rx ry h
  obtain ⟨d, e, ix, iy, hd, q⟩ := h
  cases d with
  | int i =>
    rw [IsDt] at ix; subst ix
    cases e with
    | int j =>
      rw [IsDt] at iy; subst iy
      refine op_eq pins s σ H _ _ v u Q I rx ry ⟨rfl, ?_⟩
      have z : decide (V.int i = V.int j) = decide (Dt.int i = Dt.int j) := by rw [Bool.eq_iff_iff]; simp
      rw [z]; exact q
    | str j =>
      rw [IsDt] at iy; subst iy
      refine op_eq pins s σ H _ _ v u Q I rx ry ⟨rfl, ?_⟩
      have z : decide (V.int i = V.str j) = decide (Dt.int i = Dt.str j) := by rw [Bool.eq_iff_iff]; simp
      rw [z]; exact q
    | tup es =>
      rw [IsDt] at iy
      obtain ⟨a, xs, rfl, h1, h2⟩ := iy
      cases ry
      obtain ⟨t, rfl⟩ := rx
      obtain ⟨hz, its, r, p⟩ := I.hok a _ h1
      rw [decide_eq_false (by intro q; cases q)] at q
      exact SeqAt.RcAt.int_tuple i t p (by omega) _ _ _ _ ⟨.bl false, H, I, rfl, q⟩
  | str i =>
    rw [IsDt] at ix; subst ix
    cases e with
    | int j =>
      rw [IsDt] at iy; subst iy
      refine op_eq pins s σ H _ _ v u Q I rx ry ⟨rfl, ?_⟩
      have z : decide (V.str i = V.int j) = decide (Dt.str i = Dt.int j) := by rw [Bool.eq_iff_iff]; simp
      rw [z]; exact q
    | str j =>
      rw [IsDt] at iy; subst iy
      refine op_eq pins s σ H _ _ v u Q I rx ry ⟨rfl, ?_⟩
      have z : decide (V.str i = V.str j) = decide (Dt.str i = Dt.str j) := by rw [Bool.eq_iff_iff]; simp
      rw [z]; exact q
    | tup es =>
      rw [IsDt] at iy
      obtain ⟨a, xs, rfl, h1, h2⟩ := iy
      cases ry
      obtain ⟨t, rfl⟩ := rx
      obtain ⟨hz, its, r, p⟩ := I.hok a _ h1
      rw [decide_eq_false (by intro q; cases q)] at q
      exact SeqAt.RcAt.str_tuple i t p (by omega) _ _ _ _ ⟨.bl false, H, I, rfl, q⟩
  | tup ds =>
    rw [IsDt] at ix
    obtain ⟨a, xs, rfl, h1, h2⟩ := ix
    cases rx
    obtain ⟨hz, its, r, p⟩ := I.hok a _ h1
    cases e with
    | int j =>
      rw [IsDt] at iy; subst iy
      obtain ⟨t, rfl⟩ := ry
      rw [decide_eq_false (by intro q; cases q)] at q
      exact SeqAt.RcAt.tuple_int j t p (by omega) _ _ _ _ ⟨.bl false, H, I, rfl, q⟩
    | str j =>
      rw [IsDt] at iy; subst iy
      obtain ⟨t, rfl⟩ := ry
      rw [decide_eq_false (by intro q; cases q)] at q
      exact SeqAt.RcAt.tuple_str j t p (by omega) _ _ _ _ ⟨.bl false, H, I, rfl, q⟩
    | tup es =>
      rw [IsDt] at iy
      obtain ⟨b, ys, rfl, g1, g2⟩ := iy
      cases ry
      obtain ⟨hz2, its2, r2, p2⟩ := I.hok b _ g1
      have l1 : its.toArray.size = ds.length := by rw [List.size_toArray, ← r.length, h2.length]
      have l2 : its2.toArray.size = es.length := by rw [List.size_toArray, ← r2.length, g2.length]
      rw [Dt.dep] at hd
      have z : decide (Dt.tup ds = Dt.tup es) = decide (ds = es) := by rw [Bool.eq_iff_iff]; simp
      rw [z] at q
      refine SeqAt.RcAt.tuples (s := s) (A := X.A) (e := fun j => decide (ds[j]? = es[j]?)) p p2 (by omega) (items_eq (n := depMax) (A := X.A.in1) I.hok (by omega) (by show X.A.units + 1 + depMax < cLine; unfold depMax; omega) h2 g2 r r2) _ _ _ _ ?_
      rw [l1, l2, all_eq]
      exact ⟨.bl _, H, I, rfl, q⟩
/-- != where the one is a tuple -/
theorem op_neD (hu : X.A.units + 110 < cLine) : OpR X (compareOp .NotEq) (fun x y H Q => ∃ ds es, IsDt H (.tup ds) x ∧ IsDt H (.tup es) y ∧ depL ds ≤ depMax ∧ Q (.bl (!decide (ds = es))) H) := by
  intro pins s σ H x y v u Q I rx ry h
  obtain ⟨ds, es, ix, iy, hd, q⟩ := h
  rw [IsDt] at ix iy
  obtain ⟨a, xs, rfl, h1, h2⟩ := ix
  obtain ⟨b, ys, rfl, g1, g2⟩ := iy
  cases rx
  cases ry
  obtain ⟨hz, its, r, p⟩ := I.hok a _ h1
  obtain ⟨hz2, its2, r2, p2⟩ := I.hok b _ g1
  have l1 : its.toArray.size = ds.length := by rw [List.size_toArray, ← r.length, h2.length]
  have l2 : its2.toArray.size = es.length := by rw [List.size_toArray, ← r2.length, g2.length]
  refine SeqAt.RcNeAt.tuples (s := s) (A := X.A) (e := fun j => decide (ds[j]? = es[j]?)) p p2 (by omega) (items_eq (n := depMax) (A := X.A.in1) I.hok (by omega) (by show X.A.units + 1 + depMax < cLine; unfold depMax; omega) h2 g2 r r2) _ _ _ _ ?_
  rw [l1, l2, all_eq]
  exact ⟨.bl _, H, I, rfl, q⟩

/-! ### in, index, over lists of data -/
noncomputable def eqDv (H : Hp) (d : Dt) (u : Value) : Bool := @decide (∃ v, RelV v u ∧ IsDt H d v) (Classical.propDecidable _)
theorem relV_inj {v v' : V} {u : Value} (h : RelV v u) (h' : RelV v' u) : v = v' := by
  cases v <;> cases v' <;> simp only [RelV] at h h' <;> first
    | rfl
    | (obtain ⟨t, rfl⟩ := h; obtain ⟨t', h'⟩ := h'; injection h' with h' _; subst h'; rfl)
    | (obtain ⟨t, rfl⟩ := h; obtain ⟨t', h'⟩ := h'; cases h'; done)
    | (subst h; cases h'; rfl)
    | (subst h; obtain ⟨t', h'⟩ := h'; cases h')
    | (obtain ⟨t, rfl⟩ := h; cases h')
theorem eqDv_of {H : Hp} {d e : Dt} {v : V} {u : Value} (r : RelV v u) (i : IsDt H e v) : eqDv H d u = decide (e = d) := by
  unfold eqDv
  rw [Bool.eq_iff_iff]
  simp only [decide_eq_true_eq]
  constructor
  · rintro ⟨v', r', i'⟩
    rw [relV_inj r' r] at i'
    exact i.inj i'
  · rintro rfl
    exact ⟨v, r, i⟩
theorem mem_eqD {P : Program} {w : World} {H : Hp} {s : Shared} {A : Around} {d : Dt} {x : V} {v : Value} {n : Nat} (ok : HOk P w H s.heap) (hu : A.units + n < cLine) (rx : RelV x v) (ix : IsDt H d x) :
    ∀ {ds : List Dt} {xs : List V} {us : List Value}, depL ds ≤ n → IsDts H ds xs → Vals xs us → (∀ u ∈ us, SeqAt.EqAt A s u v (eqDv H d u)) ∧ us.map (eqDv H d) = ds.map fun e => decide (e = d)
  | [], xs, us, hd, hi, r => by
    rw [IsDts] at hi; subst hi; cases r
    exact ⟨fun u hu => (nomatch hu), rfl⟩
  | e :: ds, xs, us, hd, hi, r => by
    rw [IsDts] at hi
    obtain ⟨y, ys, rfl, h1, h2⟩ := hi
    cases r with
    | cons r1 r2 =>
      rw [depL] at hd
      obtain ⟨m1, m2⟩ := mem_eqD ok hu rx ix (by omega) h2 r2
      have e1 := eqDv_of (d := d) r1 h1
      refine ⟨fun u hu' => ?_, by rw [List.map_cons, List.map_cons, e1, m2]⟩
      rcases List.mem_cons.mp hu' with rfl | hu'
      · rw [e1]; exact eqAt_D n A s e d y x _ v ok (by omega) hu h1 ix r1 rx
      · exact m1 u hu'
theorem any_map_of {α : Type} {us : List α} {f : α → Bool} {ds : List Dt} {d : Dt} (h : us.map f = ds.map fun e => decide (e = d)) : us.any f = decide (d ∈ ds) := by
  have e1 : us.any f = (us.map f).any id := by simp
  have e2 : (ds.map fun e => decide (e = d)).any id = decide (d ∈ ds) := by
    rw [Bool.eq_iff_iff]
    simp
  rw [e1, h, e2]
def rInD (K : PySem.W.Frag) (neg : Bool) : R2 := fun x y H Q => ∃ p xs d ds, y = .ref p ∧ SqL K H p xs ∧ IsDt H d x ∧ IsDts H ds xs ∧ depL ds ≤ depMax ∧ Q (.bl (if neg then !decide (d ∈ ds) else decide (d ∈ ds))) H
theorem op_inD (hu : X.A.units + 110 < cLine) : OpR X (compareOp .In) (rInD X.K false) := by
  intro pins s σ H x y v u Q I rx ry h
  obtain ⟨p, xs, d, ds, rfl, hq, ix, is, hd, q⟩ := h
  cases ry
  obtain ⟨its, r, pl, hz⟩ := I.list hq
  obtain ⟨m1, m2⟩ := mem_eqD (A := X.A.in1) I.hok (by show X.A.units + 1 + depMax < cLine; unfold depMax; omega) rx ix hd is r
  refine SeqAt.in_listAt (eqDv H d) pl.isList (fun w hw => m1 w (by simpa using hw)) ⟨.bl _, H, I, rfl, ?_⟩
  rw [show its.toArray.any (eqDv H d) = its.any (eqDv H d) by simp, any_map_of m2]
  exact q
/-- xs.index(x), where it is -/
def rIndexD : V → List V → Hp → VK → Prop := fun o vs H Q => ∃ l xs x d ds, o = .ref l ∧ vs = [x] ∧ H l = some (.lst xs) ∧ IsDt H d x ∧ IsDts H ds xs ∧ depL ds ≤ depMax ∧ d ∈ ds ∧ ∀ j : Nat, ds[j]? = some d → Q (.int j) H
end
end L2
end
section
set_option Elab.async false
set_option linter.all false
set_option maxRecDepth 100000
set_option maxHeartbeats 4000000
namespace L2
open PySem PySem.Spec PyProof.Rows
open Kn (KE cmpK kEl sLt)

/-! ### t < u of tuples of ints and texts -/
def kv : KE → V
  | .i n => .int n
  | .s x => .str x
theorem eqAt_K {A : Around} {s : Shared} {a c : KE} {y x : Value} (ra : RelV (kv a) y) (rc : RelV (kv c) x) : ∃ e, SeqAt.EqAt A s y x e ∧ (e = true ↔ a = c) := by
  cases a with
  | i m =>
    obtain ⟨t, rfl⟩ := ra
    cases c with
    | i n => obtain ⟨u, rfl⟩ := rc; exact ⟨(m == n), SeqAt.EqAt.int_int m t n u, by simp⟩
    | s z => obtain ⟨u, rfl⟩ := rc; exact ⟨false, SeqAt.EqAt.int_str m t z u, by simp⟩
  | s w =>
    obtain ⟨t, rfl⟩ := ra
    cases c with
    | i n => obtain ⟨u, rfl⟩ := rc; exact ⟨false, SeqAt.EqAt.str_int w t n u, by simp⟩
    | s z => obtain ⟨u, rfl⟩ := rc; exact ⟨(w == z), SeqAt.EqAt.str_str w t z u, by simp⟩
theorem rcLt_K {A : Around} {s : Shared} {a c : KE} {y x : Value} {r : Bool} (ra : RelV (kv a) y) (rc : RelV (kv c) x) (h : kEl a c = some r) (prog : Program) (w : World) (E : Value → Shared → Prop) (Q : Value → Shared → Prop) (q : Q (.bool r) s) :
    wpAny (model prog w) A (richCompare .Lt y x) Q E s := by
  cases a with
  | i m =>
    obtain ⟨t, rfl⟩ := ra
    cases c with
    | i n =>
      obtain ⟨u, rfl⟩ := rc
      cases h
      exact HT.rcLt_int A s m t n u prog w E Q q
    | s z => cases h
  | s v =>
    obtain ⟨t, rfl⟩ := ra
    cases c with
    | i n => cases h
    | s z =>
      obtain ⟨u, rfl⟩ := rc
      cases h
      exact (PyProof.Rows.lt_str q : wpAny (model prog w) A (compareOp .Lt (.str v t) (.str z u)) Q E s)
section
open PySem.SeqAt
open PySem.AutoSeq1 (wpAny_loadPart')
open PySem.MeetsSeq PySem.MeetsSeq2 PySem.MeetsSeq3
theorem tuple_ltK (l b : Addr) (items items2 : Array Value) (n n2 : Nat) (dd dd2 : Option Addr) (sl sl2 : Array (Option Value)) (ks js : List KE) (hi : Vals (ks.map kv) items.toList) (hj : Vals (js.map kv) items2.toList) (r : Bool) (hr : cmpK ks js = some r) :
    Meets (Builtin.«tuple.__lt__» ⟨[.ref l, .ref b], []⟩)
      (fun _ R s => s.heap.get? l = some { cls := .type "tuple", dict := dd, data := .seq items n, slots := sl } ∧ s.heap.get? b = some { cls := .type "tuple", dict := dd2, data := .seq items2 n2, slots := sl2 } ∧
        R (.ok (.ret (.bool r))) s) :=
  .of_wp fun prog w A R s h => by
    obtain ⟨hp, g, d, tk, os⟩ := s; obtain ⟨hl, hb, h⟩ := h
    have f2 := AutoSeq1.sub_tuple_tuple
    have z1 : items.size = ks.length := by have := hi.length; simpa using this.symm
    have z2 : items2.size = js.length := by have := hj.length; simpa using this.symm
    wp_walk using wpAny_loadPart' hl, wpAny_loadPart' hb, wpAny_forIn_list _ (fun rest b s' => b.1 = none ∧ s' = ⟨hp, g, d, tk, os⟩ ∧ ∃ (vs ws : List Value) (ks' js' : List KE), rest = vs.zip ws ∧
      Vals (ks'.map kv) vs ∧ Vals (js'.map kv) ws ∧ ks'.length + items2.size = js'.length + items.size ∧ cmpK ks' js' = some r) _
    case turn =>
      rintro ⟨y, x⟩ rest b s' ⟨hb', rfl, vs, ws, ks', js', hz, hvi, hwi, hlen, hR⟩
      cases ks' with
      | nil => cases hvi; rw [List.zip_nil_left] at hz; cases hz
      | cons a ks' =>
        cases js' with
        | nil => cases hwi; rw [List.zip_nil_right] at hz; cases hz
        | cons c js' =>
          rw [List.map_cons] at hvi hwi
          cases hvi with
          | cons ra hvi' =>
            cases hwi with
            | cons rc hwi' =>
              rw [List.zip_cons_cons] at hz
              injection hz with hyx hrest
              injection hyx with hy hx
              subst hy hx
              rw [Kn.cmpK] at hR
              simp only [List.length_cons] at hlen
              obtain ⟨e, he, hiff⟩ := eqAt_K (A := A.in1) (s := ⟨hp, g, d, tk, os⟩) ra rc
              refine wpAny_bind (he prog w _ _ ?_)
              cases e with
              | true =>
                rw [if_pos (hiff.mp rfl)] at hR
                wp_walk
                exact ⟨rfl, rfl, _, _, _, _, hrest, hvi', hwi', by omega, hR⟩
              | false =>
                rw [if_neg (fun q => absurd (hiff.mpr q) Bool.false_ne_true)] at hR
                have hri := rcLt_K (A := A.in1) (s := ⟨hp, g, d, tk, os⟩) ra rc hR prog w
                wp_walk using hri
                exact ⟨_, rfl, by simpa using h⟩
    case fin =>
      rintro ⟨b1, b2⟩ s' ⟨hb', rfl, vs, ws, ks', js', hz, hvi, hwi, hlen, hR⟩
      simp only at hb'
      subst hb'
      have hv : r = decide (items.size < items2.size) := by
        cases ks' with
        | nil =>
          cases js' with
          | nil =>
            simp only [List.length_nil] at hlen
            cases hR
            exact (decide_eq_false (by omega)).symm
          | cons c js' =>
            simp only [List.length_nil, List.length_cons] at hlen
            cases hR
            exact (decide_eq_true (by omega)).symm
        | cons a ks' =>
          cases js' with
          | nil =>
            simp only [List.length_nil, List.length_cons] at hlen
            cases hR
            exact (decide_eq_false (by omega)).symm
          | cons c js' =>
            rw [List.map_cons] at hvi hwi
            cases hvi
            cases hwi
            rw [List.zip_cons_cons] at hz
            cases hz
      rw [hv] at h
      wp_walk
      exact ⟨_, rfl, by simpa [Builtin.Tuple.tupleCompareSizes] using h⟩
    case h =>
      exact ⟨rfl, rfl, items.toList, items2.toList, ks, js, rfl, hi, hj, by omega, hr⟩
end
section
variable {X : Cx}
def rLtK (K : PySem.W.Frag) : R2 := fun x y H Q => ∃ a b ks js r, x = .ref a ∧ y = .ref b ∧ SqT K H a (ks.map kv) ∧ SqT K H b (js.map kv) ∧ cmpK ks js = some r ∧ Q (.bl r) H
theorem op_ltK (hu : X.A.units < cLine) : OpR X (compareOp .Lt) (rLtK X.K) := by
  intro pins s σ H x y v u Q I rx ry h
  obtain ⟨a, b, ks, js, r, rfl, rfl, ha, hb, hr, q⟩ := h
  cases rx
  cases ry
  obtain ⟨its, r1, p1, _⟩ := I.tuple ha
  obtain ⟨its2, r2, p2, _⟩ := I.tuple hb
  obtain ⟨⟨cls, dd, data, sl⟩, ho, hc, n, hd⟩ := id p1
  obtain ⟨⟨cls2, dd2, data2, sl2⟩, ho2, hc2, n2, hd2⟩ := id p2
  simp only at hc hd hc2 hd2
  subst hc hd hc2 hd2
  exact richCompare_meets_room (op := .Lt) ⟨_, ho, rfl⟩ ⟨_, ho2, rfl⟩ PySem.F.slot_tuple_lt PySem.F.entry_tuple_lt (PySem.F.args_tuple_lt_2 _ _) (tuple_ltK a b its.toArray its2.toArray n n2 dd dd2 sl sl2 ks js (by simpa using r1) (by simpa using r2) r hr)
    ⟨ho, ho2, show Value.bool r ≠ Value.notImplemented ∧ EP X pins σ Q (.bool r) s from ⟨(fun x => nomatch x), ⟨.bl r, H, I, rfl, q⟩⟩⟩ hu
/-- int < int or text < text -/
def rLtE : R2 := fun x y H Q => ∃ a c r, x = kv a ∧ y = kv c ∧ kEl a c = some r ∧ Q (.bl r) H
theorem op_ltE : OpR X (compareOp .Lt) rLtE := by
  intro pins s σ H x y v u Q I rx ry h
  obtain ⟨a, c, r, rfl, rfl, hr, q⟩ := h
  show wpAny (model X.prog X.w) X.A (richCompare .Lt v u) (EP X pins σ Q) X.xe s
  exact rcLt_K rx ry hr X.prog X.w _ _ ⟨.bl r, H, I, rfl, q⟩

/-! ### xs[::-1] -/
def tRev (K : PySem.W.Frag) (te : TE) : TE := fun σ H Q => te σ H fun x H1 => ∃ a xs, x = .ref a ∧ SqL K H1 a xs ∧ ∀ p, H1 p = none → Q (.ref p) (upd H1 p (.lst xs.reverse))

/-! ### isinstance(x, tuple), isinstance(x, bool) -/
def isiV (H : Hp) (x : V) (T : String) (b : Bool) : Prop :=
  (T = "tuple" ∧ ((∃ i, x = .int i) ∧ b = false ∨ (∃ z, x = .str z) ∧ b = false ∨ (∃ a xs, x = .ref a ∧ H a = some (.tup xs)) ∧ b = true)) ∨ (T = "bool" ∧ (∃ c, x = .bl c) ∧ b = true)

/-! ### a def held by a name -/

/-! ### sep.join of a list of texts -/
theorem ofStrs : ∀ {us : List Value} {ys : List Str}, StrsAre us ys → Vals (ys.map V.str) us
  | _, _, .nil => .nil
  | _, _, .cons x t r => .cons ⟨t, rfl⟩ (ofStrs r)
def rJoin (K : PySem.W.Frag) : V → List V → Hp → VK → Prop := fun o vs H Q => ∃ sep p ys, o = .str sep ∧ vs = [.ref p] ∧ SqL K H p (ys.map V.str) ∧ (ys.map (·.length)).sum + ys.length * sep.length ≤ 16777216 ∧ Q (.str (Txt.join sep ys)) H

/-! ### xs.insert(i, x) -/
def rInsert : V → List V → Hp → VK → Prop := fun o vs H Q => ∃ l xs i y, o = .ref l ∧ vs = [.int i, y] ∧ H l = some (.lst xs) ∧ 0 ≤ i ∧ i ≤ xs.length ∧ xs.length < sizeLine ∧ Q .non (upd H l (.lst (xs.take i.toNat ++ y :: xs.drop i.toNat)))

/-! ### t + u, any tuples of the heap -/
def rCatT' (K : PySem.W.Frag) : R2 := fun x y H Q => ∃ a b xs ys, x = .ref a ∧ y = .ref b ∧ H a = some (.tup xs) ∧ H b = some (.tup ys) ∧ xs.length + ys.length ≤ sizeLine ∧
  ∀ p H', (∀ c o, H c = some o → H' c = some o) → H' p = some (.tup (xs ++ ys)) → Q (.ref p) H'
theorem op_catT' : OpR X (binaryOp .Add) (rCatT' X.K) := by
  intro pins s σ H x y v u Q I rx ry h
  obtain ⟨a, b, xs, ys, rfl, rfl, ha0, hb0, hz, q⟩ := h
  have ha : SqT X.K H a xs := SqT.of ha0
  have hb : SqT X.K H b ys := SqT.of hb0
  by_cases hx : xs = []
  · subst hx
    cases rx
    cases ry
    obtain ⟨its, r1, p1, _⟩ := I.tuple ha
    obtain ⟨its2, r2, p2, _⟩ := I.tuple hb
    cases r1
    obtain ⟨⟨cls, dd, data, sl⟩, ho, hc, n, hd⟩ := id p1
    obtain ⟨⟨cls2, dd2, data2, sl2⟩, ho2, hc2, n2, hd2⟩ := id p2
    simp only at hc hd hc2 hd2
    subst hc hd hc2 hd2
    exact concat_meets ⟨_, ho, rfl⟩ ⟨_, ho2, rfl⟩ noFill_tuple_add seq_tuple_add PySem.F.slot_tuple_add PySem.F.entry_tuple_add (PySem.F.args_tuple_add_2 _ _)
      (tuple_addW0 a b _ its2.toArray n n2 dd dd2 sl sl2 (by simp)) ⟨ho, ho2, ⟨.ref b, H, I, rfl, q b H (fun _ _ z => z) hb0⟩⟩
  · exact op_catT pins s σ H _ _ v u Q I rx ry ⟨a, b, xs, ys, rfl, rfl, ha, hb, hx, hz, fun e => q a H (fun _ _ z => z) (by subst e; rw [List.append_nil]; exact ha0), fun e p hp => q p _ (fun c o z => by rw [upd_ne (ne_of_none z hp)]; exact z) upd_same⟩
end
end L2
end
section
set_option Elab.async false
set_option linter.all false
set_option maxRecDepth 100000
set_option maxHeartbeats 4000000
namespace L2
open PySem PySem.Spec PyProof.Rows
open PySem.W (kdu_collect kdl_dict)

/-! ### sorted of a dict whose keys are texts -/
theorem kv_get : ∀ {kvs : List (Key × V)} {vs : List (Key × Value)} {i : Nat} {p : Key × V}, KV kvs vs → kvs[i]? = some p → ∃ q, vs[i]? = some q ∧ p.1 = q.1
  | _, _, _, _, .nil, e => by simp at e
  | _, _, 0, _, .cons r _, e => by simp at e; subst e; exact ⟨_, rfl, r.1⟩
  | _, _, i + 1, p, .cons _ t, e => by
    obtain ⟨q, h1, h2⟩ := kv_get (i := i) (p := p) t (by simpa using e)
    exact ⟨q, by simpa using h1, h2⟩
section
variable {X : Cx}
def rSortD : List V → Hp → VK → Prop := fun xs H Q => ∃ a kvs, xs = [.ref a] ∧ H a = some (.dK kvs) ∧ (∀ kv ∈ kvs, ∃ s, kv.1 = Sum.inr s) ∧ kvs.length < 64 ∧
  ∀ (p : Addr) (ys : List Str), H p = none → (ys.map (Sum.inr : Str → Key)).Perm (kvs.map (·.1)) → sortedS ys = true → Q (.ref p) (upd H p (.lst (ys.map V.str)))
theorem call_sortD (hc : X.calm = true) : CallR X (.builtin "sorted") rSortD := by
  intro pins s σ H xs us Q I r h
  obtain ⟨a, kvs, rfl, ha, hk, h64, q⟩ := h
  obtain ⟨u, rfl, ru⟩ := r.one
  cases ru
  have hh := I.ok.hd hc
  obtain ⟨z, hd, vs, rel, dd⟩ := dk_of I.hok ha
  obtain ⟨ep, hat⟩ := dd.dictAt
  have hlen : kvs.length = vs.length := rel.length
  refine Calls.call_function_entry kind_sorted plain_sorted entry_sorted (args_sorted1 _) ?_
  unfold Builtin.«sorted»
  refine wpAny_bind (m := checkCount "sorted" 1 1 _) (wpAny_pure ?_)
  refine wpAny_bind (kdu_collect (A := X.A.in1) (kdl_dict (knd := mixKind X.prog X.w) (kvs := vs) (ep := ep) hd) hh hat (by rw [← hlen]; exact z) fun h' tk acc keep items => ?_)
  have hl : acc.toList.length = vs.length := by rw [Array.length_toList]; exact items.1
  refine wpAny_bind (wpAny_newList ?_ (by rw [hl, ← hlen]; exact z))
  -- the keys as texts
  have hss : ∃ ss : List Str, StrsAre acc.toList ss ∧ ss.map (Sum.inr : Str → Key) = kvs.map (·.1) := by
    have key : ∀ (n : Nat), n ≤ vs.length → ∃ ss : List Str, StrsAre (acc.toList.drop (vs.length - n)) ss ∧ ss.map (Sum.inr : Str → Key) = (kvs.map (·.1)).drop (vs.length - n) := by
      intro n
      induction n with
      | zero => intro _; exact ⟨[], by rw [List.drop_of_length_le (by omega)]; exact .nil, by rw [List.drop_of_length_le (by rw [List.length_map]; omega)]; rfl⟩
      | succ n ih =>
        intro hn
        obtain ⟨ss, h1, h2⟩ := ih (by omega)
        have e : vs.length - n = (vs.length - (n + 1)) + 1 := by omega
        have hj : vs.length - (n + 1) < acc.toList.length := by omega
        have hj2 : vs.length - (n + 1) < kvs.length := by omega
        obtain ⟨k, x, hx, hkk⟩ := items.2 (vs.length - (n + 1)) (acc.toList[vs.length - (n + 1)]) (by rw [← Array.getElem?_toList, List.getElem?_eq_getElem hj])
        have ek : kvs[vs.length - (n + 1)].1 = k := by
          obtain ⟨b, hb, hr⟩ := kv_get rel (List.getElem?_eq_getElem hj2)
          rw [hx] at hb
          cases hb
          exact hr
        obtain ⟨sx, hs⟩ := hk _ (List.getElem_mem hj2)
        rw [ek] at hs
        subst hs
        obtain ⟨t, et⟩ : ∃ t, acc.toList[vs.length - (n + 1)] = Value.str sx t := by
          rcases keyIs_shape (show keyIs (Sum.inr sx) _ = true from hkk) with ⟨i, t, e1, _⟩ | ⟨y, t, e1, e2⟩
          · cases e1
          · cases e1; exact ⟨t, e2⟩
        refine ⟨sx :: ss, ?_, ?_⟩
        · rw [List.drop_eq_getElem_cons hj, et, ← e]
          exact .cons sx t h1
        · rw [List.map_cons, h2, List.drop_eq_getElem_cons (i := vs.length - (n + 1)) (by rw [List.length_map]; exact hj2), List.getElem_map, ek, e]
    obtain ⟨ss, h1, h2⟩ := key vs.length (Nat.le_refl _)
    rw [Nat.sub_self, List.drop_zero] at h1
    rw [Nat.sub_self, List.drop_zero] at h2
    exact ⟨ss, h1, h2⟩
  obtain ⟨ss, hS, hmap⟩ := hss
  have hoL : (h'.push { cls := .type "list", data := .seq acc.toList.toArray }).get? h'.objs.size = some (seqObj "list" acc.toList.toArray 0) := Heap.get?_push_size _ rfl
  refine wpAny_bind (wpAny_holding (wpAny_call_entry slot_list_sort ⟨_, hoL, rfl⟩ entry_list_sort (list_sort_treeK strKind_oneLt hoL hS.keysOf (fun v₁ v₂ rest e => keyKind_strs (by rw [← e]; exact hS)) (by rw [hl, ← hlen]; exact h64) fun st' a1 a2 => ⟨_, rfl, ?_⟩) (args_list_sort _)))
  obtain ⟨ys, b1, b2, b3⟩ := sorted_out_str hS a1 a2
  refine wpAny_pure ⟨_, rfl, ?_⟩
  have I1 : Inv X pins σ H { s with heap := h', toks := tk } := I.kept keep
  obtain ⟨e, hat2⟩ := sortedHeap_at (out := (arrOf st').map (·.2)) hoL
  have hz : (ys.map V.str).length ≤ sizeLine := by
    rw [List.length_map, b2.length_eq, ← List.length_map (f := (Sum.inr : Str → Key)), hmap, List.length_map]
    exact z
  refine ⟨.ref h'.objs.size, upd H h'.objs.size (.lst (ys.map V.str)), ?_, rfl, q _ ys (I1.hok.fresh (Nat.le_refl _)) ?_ b3⟩
  · refine I1.laid (t' := tk) (fun b o hb => ?_) (Nat.le_refl _) ⟨hz, _, e, ofStrs b1, ?_⟩
    · have hlt : b < h'.objs.size := Heap.lt_size hb
      rw [sortedHeap_old (Nat.ne_of_lt hlt) (by rw [Heap.size_push]; exact Nat.lt_succ_of_lt hlt)]
      exact Heap.get?_push_of_some _ hb
    · rw [hat2]
  · rw [← hmap]
    exact b2.map _
end

/-! ### one rule a construct: whatever of its kinds -/
section
variable {X : Cx}
theorem op_plus : OpR X (binaryOp .Add) (fun x y H Q => rI0 (fun i j => .int (i + j)) x y H Q ∨ ((∃ i j, x = .str i ∧ y = .str j ∧ i.length + j.length ≤ sizeLine ∧ Q (.str (i ++ j)) H) ∨ (rCat x y H Q ∨ rCatT' X.K x y H Q))) := op_add.or (op_add_str.or (op_cat.or op_catT'))
theorem op_ltU (hu : X.A.units < cLine) : OpR X (compareOp .Lt) (fun x y H Q => rI0 (fun i j => .bl (decide (i < j))) x y H Q ∨ (rLtE x y H Q ∨ rLtK X.K x y H Q)) := op_lt.or (op_ltE.or (op_ltK hu))
theorem op_eqU (hu : X.A.units + 110 < cLine) : OpR X (compareOp .Eq) (fun x y H Q => rEq x y H Q ∨ rEqD x y H Q) := op_eq.or (op_eqD hu)
def rNeL : R2 := fun x y H Q => ∃ a b xs, x = .ref a ∧ y = .ref b ∧ H a = some (.lst xs) ∧ H b = some (.lst []) ∧ Q (.bl (decide (xs ≠ []))) H
theorem op_neL (hu : X.A.units < cLine) : OpR X (compareOp .NotEq) rNeL := by
  intro pins s σ H x y v u Q I rx ry h
  obtain ⟨a, b, xs, rfl, rfl, ha, hb, q⟩ := h
  cases rx
  cases ry
  obtain ⟨its, r, p, _⟩ := I.list (SqL.of ha)
  obtain ⟨its2, r2, p2, _⟩ := I.list (SqL.of hb)
  cases r2
  by_cases hx : xs = []
  · subst hx
    cases r
    refine SeqAt.RcNeAt.lists (A := X.A) (e := fun _ => true) p.isList p2.isList rfl hu (fun j h1 => by simp at h1) _ _ _ _ ⟨.bl false, H, I, rfl, ?_⟩
    simpa using q
  · refine SeqAt.RcNeAt.lists_lengths (A := X.A) p.isList p2.isList ?_ hu _ _ _ _ ⟨.bl true, H, I, rfl, ?_⟩
    · have := r.length
      have h0 : its ≠ [] := fun z => hx (by subst z; cases xs with | nil => rfl | cons _ _ => simp at this)
      cases its with
      | nil => exact absurd rfl h0
      | cons _ _ => simp
    · rw [decide_eq_true hx] at q
      exact q
theorem op_neU (hu : X.A.units + 110 < cLine) : OpR X (compareOp .NotEq) (fun x y H Q => rNe x y H Q ∨ ((∃ ds es, IsDt H (.tup ds) x ∧ IsDt H (.tup es) y ∧ depL ds ≤ depMax ∧ Q (.bl (!decide (ds = es))) H) ∨ rNeL x y H Q)) := op_ne.or ((op_neD hu).or (op_neL (by omega)))
theorem op_inU (hu : X.A.units + 110 < cLine) : OpR X (compareOp .In) (fun x y H Q => rIn X.K false x y H Q ∨ rInD X.K false x y H Q) := op_in_seq.or (op_inD hu)
theorem call_lenU : CallR X (.builtin "len") (fun xs H Q => (∃ p ys, xs = [.ref p] ∧ (SqL X.K H p ys ∨ SqT X.K H p ys) ∧ Q (.int ys.length) H) ∨ ∃ z, xs = [.str z] ∧ z.length ≤ sizeLine ∧ Q (.int z.length) H) := call_len_seq.or call_len_str
/-- d[y] -/
def rIxD : R2 := fun x y H Q => ∃ a v, x = .ref a ∧ DGet H a y (some v) ∧ Q v H
theorem ix_dict (hu : X.A.units + 1 < cLine) : IxR X rIxD := by
  intro value slice pins s σ H x y v u Q I rx ry h hs
  obtain ⟨a, w, rfl, g, q⟩ := h
  cases rx
  exact tail_any (ops := [.ref a, u]) (dict_typeIs I g) PySem.F.slot_dict_getitem.lookup (d_getItem hu I g ry fun w' s3 I3 rw' => ⟨w, H, I3, rw', q⟩) hs
theorem ix_U (hu : X.A.units + 1 < cLine) : IxR X (fun x y H Q => rIxL X.K x y H Q ∨ (rIxT X.K x y H Q ∨ (rIxS x y H Q ∨ rIxD x y H Q))) := ix_list.or (ix_tup.or (ix_str.or (ix_dict hu)))
def rSetD : TSet := fun o i v H Q => ∃ a H', o = .ref a ∧ DPut H a i v H' ∧ Q H'
theorem set_dict (hu : X.A.units + 1 < cLine) : PSet X rSetD := by
  intro pins s σ H o i v ov iv u Q I ro ri rv h
  obtain ⟨a, H', rfl, g, q⟩ := h
  cases ro
  exact d_setItem hu I g ri rv fun s4 I4 => ⟨H', I4, q⟩
theorem PSet.or {r r' : TSet} (h : PSet X r) (h' : PSet X r') : PSet X (fun o i v H Q => r o i v H Q ∨ r' o i v H Q) := by
  intro pins s σ H o i v ov iv u Q I ro ri rv q
  rcases q with q | q
  · exact h pins s σ H o i v ov iv u Q I ro ri rv q
  · exact h' pins s σ H o i v ov iv u Q I ro ri rv q
theorem set_U (hu : X.A.units + 1 < cLine) : PSet X (fun o i v H Q => rSetL o i v H Q ∨ rSetD o i v H Q) := set_list.or (set_dict hu)
/-- over a list or a tuple -/
theorem pi_U {tg l : Expr} {tl : TE} (hl : PE X l tl) : PI X tg l (fun σ H R => iList X.K tl σ H R ∨ iTup X.K tl σ H R) := by
  intro pins s σ H R I h
  rcases h with h | h
  · exact pi_list hl pins s σ H R I h
  · exact pi_tup hl pins s σ H R I h
end
end L2
end
section
set_option Elab.async false
set_option linter.all false
set_option maxRecDepth 100000
set_option maxHeartbeats 4000000
namespace L2
open PySem PySem.Spec PyProof.Rows

/-! ### a list comprehension -/
/-- the block's own: its cells, its dict, the iterator's records, the state and heap at its entry -/
structure ZC where
  cl : List (Str × Addr)
  C : Addr
  fp : List Addr
  s : Shared
  H : Hp
def cxC (X : Cx) (scope : Scope) (N' : List Str) (z : ZC) : Cx where
  prog := X.prog
  w := X.w
  K := X.K
  mg := X.mg
  base := X.base
  A := X.A
  N := N'
  s₀ := z.s
  H₀ := z.H
  env := compEnvC scope z.cl z.C X.env
  outer := X.stack
  stack := X.stack
  ex := z.fp
  fn := fun _ => false
  calm := X.calm
  pn := []
  xe := fun _ _ => False

theorem clos_loop {env : Env} : ∀ (names : List (Str × NameKind)) (acc : List (Str × Addr)), (∀ y ∈ names, y.2 = .free → ∃ c, env.cells.lookup y.1 = some c) →
    (∀ x c, acc.lookup x = some c → env.cells.lookup x = some c) →
    ∃ cl, (forIn names acc (fun y cs => if (y.2 == NameKind.free) = true then (cellOf env y.1 >>= fun c => pure (ForInStep.yield ((y.1, c) :: cs))) else pure (ForInStep.yield cs)) : Sem (List (Str × Addr))) = pure cl ∧
      (∀ x c, cl.lookup x = some c → env.cells.lookup x = some c) ∧ (∀ y ∈ names, y.2 = .free → ∃ c, cl.lookup y.1 = some c) ∧ ∀ x c, acc.lookup x = some c → ∃ c', cl.lookup x = some c'
  | [], acc, _, ha => ⟨acc, rfl, ha, fun y hy => (nomatch hy), fun x c h => ⟨c, h⟩⟩
  | (n, k) :: r, acc, h, ha => by
    by_cases hk : k = .free
    · subst hk
      obtain ⟨c, hc⟩ := h (n, .free) List.mem_cons_self rfl
      have hac : ∀ x c', ((n, c) :: acc).lookup x = some c' → env.cells.lookup x = some c' := fun x c' q => by
        rw [List.lookup_cons] at q
        cases e : x == n with
        | true =>
          rw [e] at q
          cases q
          rw [eq_of_beq e]
          exact hc
        | false =>
          rw [e] at q
          exact ha x c' q
      obtain ⟨cl, e1, e2, e3, e4⟩ := clos_loop r ((n, c) :: acc) (fun y hy => h y (List.mem_cons_of_mem _ hy)) hac
      refine ⟨cl, ?_, e2, fun y hy hf => ?_, fun x c' q => ?_⟩
      · rw [List.forIn_cons]
        have ec : cellOf env n = pure c := by unfold cellOf; rw [hc]
        simp only [beq_self_eq_true, if_true, ec, pure_bind]
        exact e1
      · rcases List.mem_cons.mp hy with rfl | hy
        · exact e4 n c (by simp)
        · exact e3 y hy hf
      · cases e : x == n with
        | true => exact e4 x c (by rw [List.lookup_cons, e])
        | false => exact e4 x c' (by rw [List.lookup_cons, e]; exact q)
    · obtain ⟨cl, e1, e2, e3, e4⟩ := clos_loop r acc (fun y hy => h y (List.mem_cons_of_mem _ hy)) ha
      refine ⟨cl, ?_, e2, fun y hy hf => ?_, e4⟩
      · rw [List.forIn_cons]
        have hb : (k == NameKind.free) = false := by simpa using hk
        simp only [hb, Bool.false_eq_true, if_false, pure_bind]
        exact e1
      · rcases List.mem_cons.mp hy with rfl | hy
        · exact absurd hf hk
        · exact e3 y hy hf
theorem clos_of {scope : Scope} {env : Env} (h : ∀ y ∈ scope.names, y.2 = .free → ∃ c, env.cells.lookup y.1 = some c) :
    ∃ cl, closureFor scope env = pure cl ∧ (∀ x c, cl.lookup x = some c → env.cells.lookup x = some c) ∧ ∀ y ∈ scope.names, y.2 = .free → ∃ c, cl.lookup y.1 = some c := by
  obtain ⟨cl, e1, e2, e3, _⟩ := clos_loop (env := env) scope.names [] h (fun x c q => by simp at q)
  refine ⟨cl, ?_, e2, e3⟩
  unfold closureFor
  first
    | exact e1
    | (simp only [bind_pure_comp, map_pure, bind_pure] at e1 ⊢; exact e1)
    | (rw [show (forIn scope.names [] _ : Sem (List (Str × Addr))) = pure cl from e1]; rfl)

theorem rel_free {env : Env} : ∀ {names : List (Str × NameKind)} {x : Str}, names.lookup x = some .free →
    let l := (names.map fun (n, k) => if (k == NameKind.free && env.scope.kind == .function && env.kindOf n == some .cell) then (n, NameKind.cell) else (n, k)).lookup x
    l = some .cell ∨ l = some .free
  | [], _, h => by simp at h
  | (n, k) :: r, x, h => by
    have ih := @rel_free env r x
    simp only at ih ⊢
    rw [List.map_cons]
    cases hx : x == n with
    | true =>
      rw [List.lookup_cons, hx] at h
      cases h
      by_cases hc : (NameKind.free == NameKind.free && env.scope.kind == .function && env.kindOf n == some .cell) = true
      · left
        simp only [hc, if_true, List.lookup_cons, hx]
      · right
        simp only [if_neg hc, List.lookup_cons, hx]
    | false =>
      rw [List.lookup_cons, hx] at h
      by_cases hc : (k == NameKind.free && env.scope.kind == .function && env.kindOf n == some .cell) = true
      · simp only [if_pos hc, List.lookup_cons, hx]; exact ih h
      · simp only [if_neg hc, List.lookup_cons, hx]; exact ih h
theorem rel_back {env : Env} : ∀ {names : List (Str × NameKind)} {x : Str} {k' : NameKind}, (∀ y ∈ names, y.2 ≠ .cell) → (k' = .cell ∨ k' = .free) →
    (names.map fun (n, k) => if (k == NameKind.free && env.scope.kind == .function && env.kindOf n == some .cell) then (n, NameKind.cell) else (n, k)).lookup x = some k' → (x, NameKind.free) ∈ names
  | [], _, _, _, _, h => by simp at h
  | (n, k) :: r, x, k', hn, hk, h => by
    rw [List.map_cons] at h
    cases hx : x == n with
    | true =>
      have e : x = n := eq_of_beq hx
      subst e
      by_cases hc : (k == NameKind.free && env.scope.kind == .function && env.kindOf x == some .cell) = true
      · have hf : k = .free := by
          simp only [Bool.and_eq_true, beq_iff_eq] at hc
          exact hc.1.1
        subst hf
        exact List.mem_cons_self
      · simp only [if_neg hc, List.lookup_cons, hx] at h
        have e2 : k = k' := Option.some.inj h
        subst e2
        rcases hk with rfl | rfl
        · exact absurd rfl (hn _ List.mem_cons_self)
        · exact List.mem_cons_self
    | false =>
      have ih := @rel_back env r x k' (fun y hy => hn y (List.mem_cons_of_mem _ hy)) hk
      by_cases hc : (k == NameKind.free && env.scope.kind == .function && env.kindOf n == some .cell) = true
      · simp only [if_pos hc, List.lookup_cons, hx] at h
        exact List.mem_cons_of_mem _ (ih h)
      · simp only [if_neg hc, List.lookup_cons, hx] at h
        exact List.mem_cons_of_mem _ (ih h)

/-- the loop of a comprehension, whatever its target -/
theorem comp_loop {prog : Program} {w : World} {A : Around} {s : Shared} {elt tg iter : Expr} {ifs : List Expr} {scope : Scope} {pos : Pos} {it acc : Value} {env : Env} {P : Shared → Prop} {R : Result → Shared → Prop}
    (hR : ∀ s', P s' → R (.ok .next) s') (J : Nat → Shared → Prop)
    (turn : ∀ n s, J n s → wpAny (model prog w) A (pyNext it) (fun r s1 => match r with
      | none => P s1
      | some v => wpAny (model prog w) A (letOwnedTupleGo tg it v) (fun _ s2 => wpAny (model prog w) A (assign tg env v) (fun _ s3 =>
          wpAny (model prog w) A (forIn ifs true fun c r => if r = true then do let ok ← isTrue c env (eval c env); pure (ForInStep.yield ok) else pure (ForInStep.yield r)) (fun ok s4 =>
            if ok = true then wpAny (model prog w) A (eval elt env) (fun x s5 =>
              wpAny (model prog w) A (call (.builtin "list.append") [acc, x]) (fun _ s6 => ∃ m, m < n ∧ J m s6) (fun _ _ => False) s5) (fun _ _ => False) s4
            else ∃ m, m < n ∧ J m s4) (fun _ _ => False) s3) (fun _ _ => False) s2) (fun _ _ => False) s1) (fun _ _ => False) s)
    (n : Nat) (h : J n s) : codeAny (model prog w) A (.compLoop (.ListComp elt [⟨tg, iter, ifs, 0⟩] scope pos) 0 it acc env) R s := by
  refine codeAny_loop rfl J (fun n s hJ => ?_) n h
  show wpAny _ A ((compTurn (.ListComp elt [⟨tg, iter, ifs, 0⟩] scope pos) 0 it acc env).onRaise (fun x => do noteFrame x env; theTreesLotGoes x)) _ _ s
  refine wpAny_noted (wpAny_mono (E := fun _ _ => False) ?_ (fun _ _ q => q) fun _ _ q => q.elim)
  rw [compTurn_list]
  refine wpAny_bind (wpAny_standAt (wpAny_bind (thn (turn n s hJ) fun r s1 h1 => ?_)))
  cases r with
  | none => exact wpAny_pure (hR _ h1)
  | some v =>
    refine wpAny_bind (thn h1 fun _ s2 h2 => wpAny_bind (thn h2 fun _ s3 h3 => wpAny_bind (thn h3 fun ok s4 h4 => ?_)))
    cases ok with
    | false => exact wpAny_pure ⟨rfl, h4⟩
    | true => exact wpAny_bind (wpAny_bind (thn h4 fun x s5 h5 => wpAny_bind (thn h5 fun _ s6 h6 => wpAny_pure (wpAny_pure ⟨rfl, h6⟩))))

def PIfs (X : Cx) (ifs : List Expr) (t : TT) : Prop :=
  ∀ (pins : List (Addr × Obj)) (s : Shared) (σ : St) (H : Hp) (Q : Bool → Hp → Prop), Inv X pins σ H s → t σ H Q →
    wpAny (model X.prog X.w) X.A (forIn ifs true fun c r => if r = true then do let ok ← isTrue c X.env (eval c X.env); pure (ForInStep.yield ok) else pure (ForInStep.yield r)) (TP X pins σ Q) X.xe s
def tAll : TT := fun _ H Q => Q true H
theorem pif_nil {X : Cx} : PIfs X [] tAll := fun pins s σ H Q I h => wpAny_tests_nil ⟨H, I, h⟩
theorem pif_one {X : Cx} {c : Expr} {t : TT} (h : PT X c t) : PIfs X [c] t := fun pins s σ H Q I q => wpAny_tests_one (h pins s σ H Q I q)

/-- the block's names at a turn's start: the targets not stored, the free names' values as they stand outside -/
def sigC (k : Nat) (fr : List (Str × Nat)) (σ : St) : St := List.replicate k none ++ fr.map fun p => (σ[p.2]?).join
/-- targets of a comprehension store the first k slots alone -/
def Tgt (k : Nat) (g : TG) : Prop := ∀ x σ H Q, g x σ H Q → g x σ H fun σ2 H2 => Q σ2 H2 ∧ σ2.length = σ.length ∧ σ2.drop k = σ.drop k
theorem tgt_name {i k : Nat} (h : i < k) : Tgt k (gName i) := fun x σ H Q q => ⟨q, by simp, by rw [List.drop_set_of_lt h]⟩
theorem tgt_two {K : PySem.W.Frag} {i j k : Nat} (hi : i < k) (hj : j < k) : Tgt k (gTup K 2 (gCons (gName i) (gCons (gName j) gNil))) := fun x σ H Q q => by
  obtain ⟨a, xs, e1, e2, e3, v, r, e4, v2, r2, e5, e6, q⟩ := q
  exact ⟨a, xs, e1, e2, e3, v, r, e4, v2, r2, e5, e6, q, by simp, by rw [List.drop_set_of_lt hj, List.drop_set_of_lt hi]⟩

/-- W: what holds at turn i, with a measure, of the items made and the heap -/
def lcStep (J : It) (k : Nat) (fr : List (Str × Nat)) (g : ZC → TG) (tc : ZC → TT) (te : ZC → TE) (σ : St) (W : Nat → Nat → List V → Hp → Prop) (fin : List V → Hp → Prop) : Prop :=
  ∀ i m ys H, W i m ys H → ys.length < sizeLine ∧ ((J.stop i H ∧ fin ys H) ∨ (J.go i H ∧ ∀ (z : ZC) x H1, J.yld i H x H1 → g z x (sigC k fr σ) H1 fun σ2 H2 => tc z σ2 H2 fun b H3 =>
    if b = true then te z σ2 H3 fun y H4 => ∃ m', m' < m ∧ W (i + 1) m' (ys ++ [y]) H4 else ∃ m', m' < m ∧ W (i + 1) m' ys H3))
def tLC (wi : TI) (k : Nat) (fr : List (Str × Nat)) (g : ZC → TG) (tc : ZC → TT) (te : ZC → TE) : TE := fun σ H Q => wi σ H fun J H1 =>
  ∃ W : Nat → Nat → List V → Hp → Prop, (∃ m, W 0 m [] H1) ∧ lcStep J k fr g tc te σ W fun ys H2 => ∀ p, H2 p = none → Q (.ref p) (upd H2 p (.lst ys))

section
variable {X : Cx} {tg elt iter : Expr} {ifs : List Expr} {scope : Scope} {pos : Pos} {k : Nat} {Nt : List Str} {fr : List (Str × Nat)} {g : ZC → TG} {tc : ZC → TT} {te : ZC → TE}

structure LcOk (X : Cx) (scope : Scope) (Nt : List Str) (fr : List (Str × Nat)) : Prop where
  kind : scope.kind = .function
  cell : ∀ y ∈ scope.names, y.2 ≠ .cell
  names : ∀ y ∈ scope.names, y.2 = .local → scope.names.lookup y.1 = some .local
  free : ∀ y ∈ scope.names, y.2 = .free → X.env.kindOf y.1 = some .cell
  fr : ∀ p ∈ fr, X.N[p.2]? = some p.1 ∧ scope.names.lookup p.1 = some .free

/-- the block at its entry -/
theorem lc_start {pins : List (Addr × Obj)} {σ : St} {H : Hp} {s2 : Shared} {cl : List (Str × Addr)} {fp : List Addr} {h1 : Heap} {t1 : Nat} {C D : Addr} {m : Str → Option Value} (L : LcOk X scope Nt fr) (I : Inv X pins σ H s2)
    (hcl : ∀ x c, cl.lookup x = some c → X.env.cells.lookup x = some c) (hcl2 : ∀ y ∈ scope.names, y.2 = .free → ∃ c, cl.lookup y.1 = some c) (hf : ∀ b ∈ fp, FpOk X pins H b) (hlt : ∀ b ∈ fp, b < s2.heap.objs.size)
    (hC : s2.heap.objs.size ≤ C) (hD : s2.heap.objs.size ≤ D) (hCD : D ≠ C) (old : ∀ b o, s2.heap.get? b = some o → h1.get? b = some o) (hn : h1.Ns C m) (ho : h1.get? D = some { cls := .type "list", data := .seq #[] 0 }) :
    Inv (cxC X scope (Nt ++ fr.map (·.1)) ⟨cl, C, fp, s2, H⟩) [(D, { cls := .type "list", data := .seq #[] 0 })] (sigC Nt.length fr σ) H { s2 with heap := h1, toks := t1 } := by
  have hstk : ∀ b ∈ frs X.stack, b < s2.heap.objs.size := fun b hb => by
    rcases List.mem_cons.mp (I.stkSub b hb) with e | e
    · rw [e]; exact I.lt
    · exact Nat.lt_of_not_le fun z => I.nofs z e
  have cdn : ∀ x c, cl.lookup x = some c → c < s2.heap.objs.size := fun x c e => by
    obtain ⟨v, q⟩ := I.cell x c (hcl x c e)
    exact q.lt
  refine ⟨⟨I.mod, L.kind, I.ok.glob, I.ok.blt, hC, fun x y c e1 e2 => I.ok.inj x y c (hcl _ _ e1) (hcl _ _ e2), fun x hx => ?_, fun x c hf' _ => (nomatch hf'), I.ok.hd, I.ok.frames, .inl rfl, fun b hb => ⟨Nat.ne_of_lt (Nat.lt_of_lt_of_le (hlt b hb) hC), fun x c e => (hf b hb).2.2.2.2.1 x c (hcl x c e)⟩,
      I.bs, Nat.le_trans I.ok.bsz I.sz, fun b o e hb => ?_, fun b hb z => ?_, I.stack, I.stkFree⟩,
    rfl, I.bare, Un.kept old, ⟨m, hn, fun i x v h1' h2 h3 => ?_⟩, fun x c e => ?_, I.hok.fresh hC, fun x c e => I.freeC x c (hcl x c e), fun p hp => ?_, I.hok.kept old, ?_⟩
  · have hx' : ((relabel scope X.env).names.lookup x = some .cell ∨ (relabel scope X.env).names.lookup x = some .free) := hx
    rcases hx' with q | q
    · exact hcl2 _ (rel_back L.cell (.inl rfl) q) rfl
    · exact hcl2 _ (rel_back L.cell (.inr rfl) q) rfl
  · rcases (hf b hb).2.2.2.1 with q | q
    · exact I.ok.noex b o e q
    · exact absurd (Nat.lt_of_lt_of_le (Heap.lt_size e) (Nat.le_trans I.ok.bsz q)) (Nat.lt_irrefl _)
  · rcases List.mem_cons.mp (I.stkSub b z) with e | e
    · exact (hf b hb).2.1 e
    · exact (hf b hb).2.2.1 e
  · have h1'' : (Nt ++ fr.map (·.1))[i]? = some x := h1'
    have hi : ¬ i < Nt.length := fun hi => by
      unfold sigC at h2
      rw [List.getElem?_append_left (by simpa using hi), List.getElem?_replicate] at h2
      split at h2 <;> cases h2
    unfold sigC at h2
    rw [List.getElem?_append_right (by simpa using hi), List.length_replicate, List.getElem?_map] at h2
    rw [List.getElem?_append_right (by omega), List.getElem?_map] at h1''
    cases e : fr[i - Nt.length]? with
    | none => rw [e] at h2; cases h2
    | some p =>
      rw [e] at h2 h1''
      have ex : p.1 = x := Option.some.inj h1''
      have ev : (σ[p.2]?).join = some v := Option.some.inj h2
      obtain ⟨hN, hfr⟩ := L.fr p (List.mem_of_getElem? e)
      have es : σ[p.2]? = some (some v) := by
        cases q : σ[p.2]? with
        | none => rw [q] at ev; cases ev
        | some o => rw [q] at ev; exact congrArg some ev
      have hkc := L.free (p.1, .free) (PySem.mem_of_lookup hfr) rfl
      obtain ⟨mo, hmo, hloc⟩ := I.loc
      obtain ⟨u, ru, lk⟩ := hloc p.2 p.1 v hN es (.inr (.inl hkc))
      refine ⟨u, ru, ?_⟩
      rcases lk with ⟨kk, _⟩ | ⟨_, c, hc, hcell⟩
      · rw [hkc] at kk; cases kk
      · obtain ⟨c', hc'⟩ := hcl2 _ (PySem.mem_of_lookup hfr) rfl
        have hcc := hcl _ _ hc'
        rw [hc] at hcc
        cases hcc
        subst ex
        refine .inr ⟨?_, c, hc', ?_⟩
        · exact rel_free hfr
        · obtain ⟨o, q1, q2⟩ := hcell
          exact ⟨o, old _ _ q1, q2⟩
  · obtain ⟨v, q⟩ := I.cell x c (hcl x c e)
    obtain ⟨o, q1, q2⟩ := q
    exact ⟨v, o, old _ _ q1, q2⟩
  · have hp' : p ∈ ([(D, ({ cls := .type "list", data := .seq #[] 0 } : Obj))] : List (Addr × Obj)) := hp
    rw [List.mem_singleton] at hp'
    subst hp'
    exact ⟨ho, I.hok.fresh hD, hCD, fun z => absurd (Nat.lt_of_lt_of_le (hstk _ z) hD) (Nat.lt_irrefl _), fun v z => by cases z⟩
  · unfold sigC
    show _ = (Nt ++ fr.map (·.1)).length
    simp

/-- what has come at the block's end -/
structure LcEnd (X : Cx) (fp : List Addr) (H1 : Hp) (s2 : Shared) (fin : List V → Hp → Prop) (D C : Addr) (s' : Shared) (ys : List V) (its : List Value) (n : Nat) (H' : Hp) (m' : Str → Option Value) : Prop where
  ns : s'.heap.Ns C m'
  fc : H' C = none
  fd : H' D = none
  gc : s2.heap.objs.size ≤ C
  gd : s2.heap.objs.size ≤ D
  cd : D ≠ C
  un : Un (frs X.stack) fp H1 H' s2.heap s'.heap
  ok : HOk X.prog X.w H' s'.heap
  os : s'.os = s2.os
  bare : AllBare s'.gens
  obj : s'.heap.get? D = some { cls := .type "list", data := .seq its.toArray n }
  vals : Vals ys its
  size : ys.length ≤ sizeLine
  fin : fin ys H'

theorem lc_close {pins : List (Addr × Obj)} {σ : St} {fp : List Addr} {H1 H' : Hp} {s2 s' : Shared} {fin : List V → Hp → Prop} {D C : Addr} {ys : List V} {its : List Value} {n : Nat} {m' : Str → Option Value} {h' : Heap}
    (I : Inv X pins σ H1 s2) (hf : ∀ b ∈ fp, FpOk X pins H1 b) (e : LcEnd X fp H1 s2 fin D C s' ys its n H' m') (sb : Heap.SameBut C s'.heap h') : Inv X pins σ (upd H' D (.lst ys)) { s' with heap := h' } := by
  have old : ∀ b o, s2.heap.get? b = some o → b ≠ C ∧ b ≠ D := fun b o q => ⟨Nat.ne_of_lt (Nat.lt_of_lt_of_le (Heap.lt_size q) e.gc), Nat.ne_of_lt (Nat.lt_of_lt_of_le (Heap.lt_size q) e.gd)⟩
  have at' : ∀ b, b ≠ C → h'.get? b = s'.heap.get? b := fun b hb => sb.2 b hb
  refine I.call' (s' := { s' with heap := h' }) (ch := fp) e.os ?_ ?_ e.bare fun b hb => ⟨(hf b hb).2.2.2.1, (hf b hb).2.1, (hf b hb).2.2.2.2.1, (hf b hb).2.2.2.2.2⟩
  · have u := e.un
    refine ⟨fun b o q n hb hx => ?_, fun b o q n hb hx => ?_, fun b o q n hx => ?_, fun b o q hx => ?_, fun b xs q => ?_, fun b o v q => ?_, fun b ps q => ?_⟩
    · exact (at' b (old b o q).1).trans (u.keep b o q n hb hx)
    · obtain ⟨sl, z⟩ := u.slot b o q n hb hx
      exact ⟨sl, (at' b (old b o q).1).trans z⟩
    · rw [upd_ne (old b o q).2]
      exact u.free b o q n hx
    · obtain ⟨o', z⟩ := u.there b o q hx
      exact ⟨o', (at' b (old b o q).1).trans z⟩
    · have z := u.tups b xs q
      rw [upd_ne (ne_of_none z e.fd)]
      exact z
    · have z := u.frzs b o v q
      rw [upd_ne (ne_of_none z e.fd)]
      exact z
    · obtain ⟨more, z⟩ := u.tbls b ps q
      refine ⟨more, ?_⟩
      rw [upd_ne (ne_of_none z e.fd)]
      exact z
  · intro b o q
    by_cases hb : b = D
    · subst hb
      rw [upd_same] at q
      cases q
      exact ⟨e.size, its, n, e.vals, (at' _ e.cd).trans e.obj⟩
    · rw [upd_ne hb] at q
      refine (e.ok b o q).stay (fun c v hc z => ?_) (fun c z => ?_) fun c xs z => ?_
      · have hcC : c ≠ C := by
          rcases hc with rfl | hc
          · exact ne_of_none q e.fc
          · exact ne_of_none hc e.fc
        exact (at' c hcC).trans z
      · rw [upd_ne (ne_of_none z e.fd)]
        exact z
      · rw [upd_ne (ne_of_none z e.fd)]
        exact z

theorem lc_block {pins : List (Addr × Obj)} {σ : St} {H1 : Hp} {s2 : Shared} {cl : List (Str × Addr)} {fp : List Addr} {it : Addr} {tn : Nat → Heap → Prop} {J : It} {W : Nat → Nat → List V → Hp → Prop} {fin : List V → Hp → Prop} {E : Value → Shared → Prop} {RR : Value → Addr → Result → Shared → Prop} {m0 : Nat}
    (L : LcOk X scope Nt fr) (hcalm : X.calm = true) (I : Inv X pins σ H1 s2) (hcl : ∀ x c, cl.lookup x = some c → X.env.cells.lookup x = some c) (hcl2 : ∀ y ∈ scope.names, y.2 = .free → ∃ c, cl.lookup y.1 = some c)
    (T : Turn X.prog X.w X.K tg J fp it tn) (st0 : tn 0 s2.heap) (hf : ∀ b ∈ fp, FpOk X pins H1 b)
    (hg : ∀ z, PG (cxC X scope (Nt ++ fr.map (·.1)) z) tg (g z)) (hgt : ∀ z, Tgt Nt.length (g z)) (hc : ∀ z, PIfs (cxC X scope (Nt ++ fr.map (·.1)) z) ifs (tc z)) (he : ∀ z, PE (cxC X scope (Nt ++ fr.map (·.1)) z) elt (te z))
    (w0 : W 0 m0 [] H1) (step : lcStep J Nt.length fr g tc te σ W fin)
    (hRR : ∀ D C s' ys its n H' m', LcEnd X fp H1 s2 fin D C s' ys its n H' m' → RR (.ref D) C (.ok .next) s') :
    wpAny (model X.prog X.w) X.A (newList []) (fun acc s3 => wpAny (model X.prog X.w) X.A (newFunctionEnv scope X.env.globals cl [] X.env.qual none .none (some X.env)) (fun cenv s4 =>
      codeAny (model X.prog X.w) X.A (.compStart (.ListComp elt [⟨tg, iter, ifs, 0⟩] scope pos) 0 (.ref it) acc { cenv with scope := relabel scope X.env }) (RR acc cenv.locals) s4) E s3) E s2 := by
  refine wpAny_newObj_type (wpAny_newFunctionEnv L.cell (by intro y hy; simp at hy) (fun h1 hns hsb => ?_) L.kind)
  dsimp only at hns hsb ⊢
  generalize hH2 : s2.heap.push { cls := .type "list", dict := none, data := .seq ([] : List Value).toArray } = G at hns hsb ⊢
  have hC : G.objs.size = s2.heap.objs.size + 1 := by rw [← hH2, Heap.size_push]
  have hlt : ∀ b ∈ fp, b < s2.heap.objs.size := fun b hb => by
    obtain ⟨o, q, _⟩ := T.obj 0 _ st0 b hb
    exact Heap.lt_size q
  have old : ∀ b o, s2.heap.get? b = some o → h1.get? b = some o := fun b o q =>
    hsb.extBut b o (by rw [hC]; exact Nat.ne_of_lt (Nat.lt_succ_of_lt (Heap.lt_size q))) (Heap.get?_push_of_some _ (hH2 ▸ Heap.get?_push_of_some _ q))
  have hDC : s2.heap.objs.size ≠ G.objs.size := by rw [hC]; exact Nat.ne_of_lt (Nat.lt_succ_self _)
  have hacc : h1.get? s2.heap.objs.size = some { cls := .type "list", data := .seq #[] 0 } := hsb.extBut _ _ hDC (Heap.get?_push_of_some _ (hH2 ▸ Heap.get?_push_size _ rfl))
  have hgC : s2.heap.objs.size ≤ G.objs.size := by rw [hC]; exact Nat.le_succ _
  have I0 := lc_start (t1 := s2.toks + ([] : List (Str × Value)).length) (C := G.objs.size) (D := s2.heap.objs.size) L I hcl hcl2 hf hlt hgC (Nat.le_refl _) hDC old hns hacc
  have st1 : tn 0 h1 := T.keep 0 _ _ st0 fun b _ o q => old b o q
  generalize hX : cxC X scope (Nt ++ fr.map (·.1)) ⟨cl, G.objs.size, fp, s2, H1⟩ = X' at I0
  have hcd : ∀ x c, cl.lookup x = some c → c < s2.heap.objs.size := fun x c e => by
    obtain ⟨v, q⟩ := I.cell x c (hcl x c e)
    exact q.lt
  have hfr : ∀ b ∈ fp, b ∉ frs X.stack := fun b hb z => by
    rcases List.mem_cons.mp (I.stkSub b z) with e | e
    · exact (hf b hb).2.1 e
    · exact (hf b hb).2.2.1 e
  have stat : ∀ {H' : Hp} {ob : Obj}, (∀ b ∈ fp, H' b = none) → ∀ b ∈ fp, FpOk X' [(s2.heap.objs.size, ob)] H' b := fun {H' ob} hn b hb => by
    subst hX
    refine ⟨hn b hb, Nat.ne_of_lt (Nat.lt_of_lt_of_le (hlt b hb) hgC), hfr b hb, .inl hb, fun x c e => (hf b hb).2.2.2.2.1 x c (hcl x c e), fun p hp => ?_⟩
    have hp' : p ∈ ([(s2.heap.objs.size, ob)] : List (Addr × Obj)) := hp
    rw [List.mem_singleton] at hp'
    subst hp'
    exact Nat.ne_of_gt (hlt b hb)
  have eP : X'.prog = X.prog := by subst hX; rfl
  have eW : X'.w = X.w := by subst hX; rfl
  have eK : X'.K = X.K := by subst hX; rfl
  have eC : X'.calm = true := by subst hX; exact hcalm
  have hg' : PG X' tg (g ⟨cl, G.objs.size, fp, s2, H1⟩) := by subst hX; exact hg _
  have hc' : PIfs X' ifs (tc ⟨cl, G.objs.size, fp, s2, H1⟩) := by subst hX; exact hc _
  have he' : PE X' elt (te ⟨cl, G.objs.size, fp, s2, H1⟩) := by subst hX; exact he _
  -- what is known of the list that grows
  have grow : ∀ {pl : List (Addr × Obj)} {σ' : St} {H' : Hp} {s' : Shared} {ob ob' : Obj} {h' : Heap}, Inv X' pl σ' H' s' → H' s2.heap.objs.size = none → (sigC Nt.length fr σ).length = σ'.length → σ'.drop Nt.length = (sigC Nt.length fr σ).drop Nt.length →
      Heap.SameBut s2.heap.objs.size s'.heap h' → h'.get? s2.heap.objs.size = some ob' → (∀ v, ob'.data ≠ .cell v) → Inv X' [(s2.heap.objs.size, ob')] (sigC Nt.length fr σ) H' { s' with heap := h' } := fun {pl σ' H' s' ob ob' h'} I' hn hl hd sb ho' hv => by
    have I1 : Inv X' [] σ' H' s' := I'.pins_of fun p hp => (nomatch hp)
    have g1 : s2.heap.objs.size ≠ X'.env.locals := by subst hX; exact hDC
    have g2 : X'.s₀.heap.objs.size ≤ s2.heap.objs.size := by subst hX; exact Nat.le_refl _
    have g3 : ∀ x c, X'.env.cells.lookup x = some c → c ≠ s2.heap.objs.size := by subst hX; exact fun x c e => Nat.ne_of_lt (hcd x c e)
    have g4 : ∀ p ∈ X'.pn ++ ([] : List (Addr × Obj)), p.1 ≠ s2.heap.objs.size := by subst hX; exact fun p hp => (nomatch (show p ∈ ([] : List (Addr × Obj)) from hp))
    have g5 : s2.heap.objs.size ∉ X'.fs := by
      subst hX
      intro z
      rcases List.mem_cons.mp (I.stkSub _ z) with e | e
      · exact absurd (e ▸ I.lt) (Nat.lt_irrefl _)
      · exact I.nofs (Nat.le_refl _) e
    have I2 : Inv X' [] σ' H' { s' with heap := h' } := I1.turned (t' := s'.toks) (it := s2.heap.objs.size) (fun b o hb q => (sb.2 b hb).trans q) hn g1 (.inr g2) g3 g4
    have I3 : Inv X' [(s2.heap.objs.size, ob')] σ' H' { s' with heap := h' } := I2.pins_of fun p hp => by
      rw [List.mem_singleton] at hp
      subst hp
      exact ⟨ho', hn, g1, g5, hv⟩
    refine I3.weak hl fun i v q => ?_
    have hi : ¬ i < Nt.length := fun hi => by
      unfold sigC at q
      rw [List.getElem?_append_left (by simpa using hi), List.getElem?_replicate] at q
      split at q <;> cases q
    have z : ∀ l : St, l[i]? = (l.drop Nt.length)[i - Nt.length]? := fun l => by
      rw [List.getElem?_drop]
      congr 1
      omega
    rw [z, hd, ← z]
    exact q
  have loop : ∀ s3 : Shared, s3 = { s2 with heap := h1, toks := s2.toks + ([] : List (Str × Value)).length } →
      codeAny (model X.prog X.w) X.A (.compLoop (.ListComp elt [⟨tg, iter, ifs, 0⟩] scope pos) 0 (.ref it) (.ref s2.heap.objs.size) (compEnvC scope cl G.objs.size X.env)) (RR (.ref s2.heap.objs.size) G.objs.size) s3 := by
    rintro s3 rfl
    refine comp_loop (P := fun s' => ∃ ys its n H' m', LcEnd X fp H1 s2 fin s2.heap.objs.size G.objs.size s' ys its n H' m') (fun s' ⟨ys, its, n, H', m', q⟩ => hRR _ _ s' ys its n H' m' q)
      (fun n s' => ∃ i ys its c H', Inv X' [(s2.heap.objs.size, { cls := .type "list", data := .seq (its : List Value).toArray c })] (sigC Nt.length fr σ) H' s' ∧ Vals ys its ∧ tn i s'.heap ∧ (∀ b ∈ fp, H' b = none) ∧ W i n ys H')
      ?_ m0 ⟨0, [], [], 0, H1, I0, .nil, st1, fun b hb => (hf b hb).1, w0⟩
    rintro n s' ⟨i, ys, its, c, H', I', rv, st, fr0, w⟩
    obtain ⟨hz, hstep⟩ := step i n ys H' w
    have nD : ∀ {pl : List (Addr × Obj)} {σ' : St} {H'' : Hp} {s'' : Shared} {ob : Obj}, Inv X' ((s2.heap.objs.size, ob) :: pl) σ' H'' s'' → s''.heap.get? s2.heap.objs.size = some ob ∧ H'' s2.heap.objs.size = none := fun {pl σ' H'' s'' ob} I'' => by
      have q := I''.pin (s2.heap.objs.size, ob) (List.mem_append_right _ List.mem_cons_self)
      exact ⟨q.1, q.2.1⟩
    rcases hstep with ⟨stop, fn⟩ | ⟨go, hgo⟩
    · have A1 := T.done X' eP eW eK eC i _ s' _ H' (fun _ _ => False) I' (stat fr0) st stop
      have hA : X'.A = X.A := by subst hX; rfl
      rw [hA] at A1
      refine thn A1 fun r s1 ⟨hr, I1⟩ => ?_
      subst hr
      obtain ⟨q1, q2⟩ := nD I1
      have hL : X'.env.locals = G.objs.size := by subst hX; rfl
      obtain ⟨m', hm', _⟩ := I1.loc
      have un : Un (frs X.stack) fp H1 H' s2.heap s1.heap := by subst hX; exact I1.base
      have os : s1.os = s2.os := by subst hX; exact I1.os
      exact ⟨ys, its, c, H', m', ⟨hL ▸ hm', hL ▸ I1.free, q2, hgC, Nat.le_refl _, hDC, un, eP ▸ eW ▸ I1.hok, os, I1.bare, q1, rv, Nat.le_of_lt hz, fn⟩⟩
    · have hA : X'.A = X.A := by subst hX; rfl
      have hE : X'.env = compEnvC scope cl G.objs.size X.env := by subst hX; rfl
      have hxe : X'.xe = fun _ _ => False := by subst hX; rfl
      have A1 := T.item X' eP eW eK eC i _ s' _ H' (fun _ _ => False) I' (stat fr0) st go
      rw [hA] at A1
      refine thn A1 fun r s1 ⟨u, hr, h4⟩ => ?_
      subst hr
      refine thn h4 fun _ s5 ⟨x, H5, I5, r5, y5, st5, fr5⟩ => ?_
      have I5' := I5.pinned (stat fr5) (T.obj _ _ st5)
      have q5 := hgt _ x _ H5 _ (hgo ⟨cl, G.objs.size, fp, s2, H1⟩ x H5 y5)
      have A2 := hg' _ s5 _ H5 x u _ I5' r5 q5
      rw [eP, eW, hA, hE, hxe] at A2
      refine thn A2 fun _ s6 ⟨σ6, H6, I6, q6, l6, d6⟩ => ?_
      have A3 := hc' _ s6 σ6 H6 _ I6 q6
      rw [eP, eW, hA, hE, hxe] at A3
      refine thn A3 fun ok s7 ⟨H7, I7, q7⟩ => ?_
      have back : ∀ {σ8 : St} {H8 : Hp} {s8 s9 : Shared}, Inv X' ([(s2.heap.objs.size, { cls := .type "list", data := .seq its.toArray c })] ++ pinsAt fp s5.heap) σ8 H8 s8 → (∀ b, b ≠ s2.heap.objs.size → s9.heap.get? b = s8.heap.get? b) → tn (i + 1) s9.heap ∧ ∀ b ∈ fp, H8 b = none := fun {σ8 H8 s8 s9} I8 h9 => by
        refine ⟨T.keep _ _ _ st5 fun b hb o q => ?_, fun b hb => ?_⟩
        · rw [h9 b (Nat.ne_of_lt (hlt b hb))]
          exact (I8.pin (b, o) (List.mem_append_right _ (List.mem_append_right _ (mem_pinsAt hb q)))).1
        · obtain ⟨o, q, _⟩ := T.obj _ _ st5 b hb
          exact (I8.pin (b, o) (List.mem_append_right _ (List.mem_append_right _ (mem_pinsAt hb q)))).2.1
      cases ok with
      | false =>
        rw [if_neg Bool.false_ne_true] at q7 ⊢
        obtain ⟨m', hm', w'⟩ := q7
        obtain ⟨e1, e2⟩ := nD I7
        obtain ⟨b1, b2⟩ := back (s9 := s7) I7 fun _ _ => rfl
        refine ⟨m', hm', i + 1, ys, its, c, H7, ?_, rv, b1, b2, w'⟩
        exact grow (ob := { cls := .type "list", data := .seq its.toArray c }) (h' := s7.heap) I7 e2 l6.symm d6 (.refl ..) e1 (fun v z => by cases z)
      | true =>
        rw [if_pos rfl] at q7 ⊢
        have A4 := he' _ s7 σ6 H7 _ I7 q7
        rw [eP, eW, hA, hE, hxe] at A4
        refine thn A4 fun v s8 ⟨y, H8, I8, r8, m', hm', w'⟩ => ?_
        obtain ⟨e1, e2⟩ := nD I8
        refine append_at (hsz := by rw [List.size_toArray, ← rv.length]; exact Nat.le_of_lt hz) e1 fun h9 sb o9 => ?_
        obtain ⟨b1, b2⟩ := back (s9 := { s8 with heap := h9 }) I8 fun b hb => sb.2 b hb
        have ea : its.toArray.push v = (its ++ [v]).toArray := by simp
        rw [ea] at o9
        refine ⟨m', hm', i + 1, ys ++ [y], its ++ [v], c + 1, H8, ?_, rv.append (.cons r8 .nil), b1, b2, w'⟩
        exact grow (ob := { cls := .type "list", data := .seq its.toArray c }) I8 e2 l6.symm d6 sb o9 (fun v z => by cases z)
  exact codeAny_compStart_list (loop _ rfl) (T.self X.A 0 _ _ _ st1 (loop _ rfl))

/-- [elt for tg in iter if ..] -/
theorem pe_lc {wi : TI} (L : LcOk X scope Nt fr) (hcalm : X.calm = true) (hi : PI X tg iter wi) (hg : ∀ z, PG (cxC X scope (Nt ++ fr.map (·.1)) z) tg (g z)) (hgt : ∀ z, Tgt Nt.length (g z))
    (hc : ∀ z, PIfs (cxC X scope (Nt ++ fr.map (·.1)) z) ifs (tc z)) (he : ∀ z, PE (cxC X scope (Nt ++ fr.map (·.1)) z) elt (te z)) (hs : ∀ x, foldedSetIterable iter X.env x = pure x := by intro _; rfl) :
    PE X (.ListComp elt [⟨tg, iter, ifs, 0⟩] scope pos) (tLC wi Nt.length fr g tc te) := by
  intro pins s σ H Q I h
  obtain ⟨cl, e1, e2, e3⟩ := clos_of (scope := scope) (env := X.env) fun y hy hf => I.ok.has _ (.inl (L.free y hy hf))
  rw [eval_ListComp]
  refine wpAny_comprehension_free (use := none) rfl hs e1 L.kind L.names (thn (hi pins s σ H _ I h) fun v s1 h1 => thn h1 fun itv s2 h2 => ?_)
  obtain ⟨it, fp, tn, J, H2, e, I2, T, st2, f2, W, ⟨m0, w0⟩, step⟩ := h2
  subst e
  refine lc_block (RR := fun acc C r s' => compPost (model X.prog X.w) X.A X.xe none (EP X pins σ Q) acc C r s') L hcalm I2 e2 e3 T st2 f2 hg hgt hc he w0 step fun D C s' ys its n H' m' q => ?_
  exact ⟨m', q.ns, fun h' sb => ⟨.ref D, _, lc_close I2 f2 q sb, rfl, q.fin D q.fd⟩⟩

/-- y = [elt for tg in iter if ..] -/
def tLCset (wi : TI) (k : Nat) (fr : List (Str × Nat)) (g : ZC → TG) (tc : ZC → TT) (te : ZC → TE) (j : Nat) : TS := fun Ds σ H => wi σ H fun J H1 =>
  ∃ W : Nat → Nat → List V → Hp → Prop, (∃ m, W 0 m [] H1) ∧ lcStep J k fr g tc te σ W fun ys H2 => ∀ p, H2 p = none → Ds.nx (σ.set j (some (.ref p))) (upd H2 p (.lst ys))
theorem ps_lc {wi : TI} {y : Str} {j : Nat} {py spos : Pos} (L : LcOk X scope Nt fr) (hcalm : X.calm = true) (hN : X.N.Nodup) (hj : X.N[j]? = some y) (hy : Loc X.env.scope y) (hi : PI X tg iter wi) (hg : ∀ z, PG (cxC X scope (Nt ++ fr.map (·.1)) z) tg (g z)) (hgt : ∀ z, Tgt Nt.length (g z))
    (hc : ∀ z, PIfs (cxC X scope (Nt ++ fr.map (·.1)) z) ifs (tc z)) (he : ∀ z, PE (cxC X scope (Nt ++ fr.map (·.1)) z) elt (te z)) (hs : ∀ x, foldedSetIterable iter X.env x = pure x := by intro _; rfl)
    (hsw : swapsWith (.ListComp elt [⟨tg, iter, ifs, 0⟩] scope pos) (some (.Name y py)) spos.line X.env = pure true := by rfl)
    (hff : X.fn y = true ∨ X.env.scope.names.lookup y = some .local := by first | exact .inl rfl | exact .inr rfl | assumption) :
    PS X (.Assign [.Name y py] (.ListComp elt [⟨tg, iter, ifs, 0⟩] scope pos) spos) (tLCset wi Nt.length fr g tc te j) := by
  intro pins s σ H Ds I h
  obtain ⟨cl, e1, e2, e3⟩ := clos_of (scope := scope) (env := X.env) fun y hy hf => I.ok.has _ (.inl (L.free y hy hf))
  rw [exec_Assign_Name_used _ _ _ _ hsw]
  refine wpAny_bind (wpAny_standAt (wpAny_bind ?_))
  show wpAny _ X.A (do let _ ← comprehension (.ListComp elt [⟨tg, iter, ifs, 0⟩] scope pos) scope X.env _ (newList []) false (eval iter X.env) (some (assign (.Name y py) X.env))) _ _ s
  refine wpAny_bind (thn (wpAny_comprehension_free (use := some (assign (.Name y py) X.env)) (Q := fun _ s' => SP X pins Ds .next s') rfl hs e1 L.kind L.names
    (thn (hi pins s σ H _ I h) fun v s1 h1 => thn h1 fun itv s2 h2 => ?_)) fun _ s' hq => wpAny_pure (wpAny_pure hq))
  obtain ⟨it, fp, tn, J, H2, e, I2, T, st2, f2, W, ⟨m0, w0⟩, step⟩ := h2
  subst e
  refine lc_block (RR := fun acc C r s' => compPost (model X.prog X.w) X.A X.xe (some (assign (.Name y py) X.env)) (fun _ s' => SP X pins Ds .next s') acc C r s') L hcalm I2 e2 e3 T st2 f2 hg hgt hc he w0 step fun D C s' ys its n H' m' q => ?_
  have I3 : Inv X pins σ (upd H' D (.lst ys)) s' := lc_close (h' := s'.heap) I2 f2 q (.refl ..)
  obtain ⟨oC, es, ep, hoC, hdC, hkC, hmC⟩ := id q.ns
  have hCH : upd H' D (.lst ys) C = none := by rw [upd_ne (Ne.symm q.cd)]; exact q.fc
  have gL : C ≠ X.env.locals := Nat.ne_of_gt (Nat.lt_of_lt_of_le I2.lt q.gc)
  have gF : C ∉ X.fs := I2.nofs q.gc
  have gE : X.s₀.heap.objs.size ≤ C := Nat.le_trans I2.sz q.gc
  have gC : ∀ x c, X.env.cells.lookup x = some c → c ≠ C := fun x c e => by
    obtain ⟨v, z⟩ := I2.cell x c e
    exact Nat.ne_of_lt (Nat.lt_of_lt_of_le z.lt q.gc)
  have gP : ∀ p ∈ X.pn ++ pins, p.1 ≠ C := fun p hp => Nat.ne_of_lt (Nat.lt_of_lt_of_le (Heap.lt_size (I2.pin p hp).1) q.gc)
  have I4 : Inv X (pins ++ [(C, oC)]) σ (upd H' D (.lst ys)) s' := I3.pins_of fun p hp => by
    rcases List.mem_append.mp hp with z | z
    · exact I3.pin p (List.mem_append_right _ z)
    · rw [List.mem_singleton] at z
      subst z
      exact ⟨hoC, hCH, gL, gF, fun v z => by rw [hdC] at z; cases z⟩
  show wpAny _ _ (assign (.Name y py) X.env (.ref D)) _ _ s'
  refine wpAny_assign_Name (store_ok I4 hN hj hy (show RelV (.ref D) (.ref D) from rfl) (fun s'' I5 => ?_) hff)
  have z := I5.pin (C, oC) (List.mem_append_right _ (List.mem_append_right _ (List.mem_singleton.mpr rfl)))
  refine ⟨m', ⟨oC, es, ep, z.1, hdC, hkC, hmC⟩, fun h'' sb => ⟨σ.set j (some (.ref D)), _, ?_, q.fin D q.fd⟩⟩
  have I6 : Inv X pins (σ.set j (some (.ref D))) (upd H' D (.lst ys)) s'' := I5.unpinned
  exact I6.turned (t' := s''.toks) (it := C) (fun b o hb e => (sb.2 b hb).trans e) hCH gL (.inr gE) gC gP
end
end L2
end
section
set_option Elab.async false
set_option linter.all false
set_option maxRecDepth 100000
set_option maxHeartbeats 4000000
namespace L2
open PySem PySem.Spec PyProof.Rows

/-! ### zip of two tuples -/
section
variable {prog : Program} {w : World} {A : Around} {E : Value → Shared → Prop} {s : Shared}

/-- the records of a zip that walks two tuples -/
structure ZAt (h : Heap) (z TI TO i1 i2 t1 t2 : Addr) (k : Nat) (f : Value) : Prop where
  z : IsZip h z TI TO f
  ti : IsPair h TI (.ref i1) (.ref i2)
  to : ∃ a b, IsPair h TO a b
  j1 : h.IsTupleIter i1 t1 k
  j2 : h.IsTupleIter i2 t2 k
structure ZNe (z TI TO i1 i2 t1 t2 : Addr) : Prop where
  a1 : TI ≠ z
  a2 : TO ≠ z
  a3 : i1 ≠ z
  a4 : i2 ≠ z
  a5 : TI ≠ TO
  a6 : TI ≠ i1
  a7 : TI ≠ i2
  a8 : TO ≠ i1
  a9 : TO ≠ i2
  b1 : i1 ≠ i2
  c1 : t1 ≠ z ∧ t1 ≠ TO ∧ t1 ≠ i1 ∧ t1 ≠ i2
  c2 : t2 ≠ z ∧ t2 ≠ TO ∧ t2 ≠ i1 ∧ t2 ≠ i2

abbrev zh1 (h : Heap) (a : Addr) : Heap := h.push { cls := .type "tuple_iterator", data := .fields #[.ref a, .int 0 0] }
abbrev zh2 (h : Heap) (a b : Addr) : Heap := (zh1 h a).push { cls := .type "tuple_iterator", data := .fields #[.ref b, .int 0 0] }
abbrev zh3 (h : Heap) (a b : Addr) : Heap := (zh2 h a b).push { cls := .type "tuple", data := .seq #[.ref h.objs.size, .ref (zh1 h a).objs.size] }
abbrev zh4 (h : Heap) (a b : Addr) : Heap := (zh3 h a b).push { cls := .type "tuple", data := .seq #[.none, .none] }
abbrev zh5 (h : Heap) (a b : Addr) : Heap := (zh4 h a b).push { cls := .type "zip", data := .fields #[.none, .bool false, .bool false, .ref (zh2 h a b).objs.size, .ref (zh3 h a b).objs.size] }
end
section
variable {prog : Program} {w : World} {A : Around} {E : Value → Shared → Prop} {s : Shared}
end

/-- what a zip of the tuples at a and b yields -/
def Itz (K : PySem.W.Frag) (a b : Addr) : It :=
  ⟨fun i H => ∃ xs ys x y, SqT K H a xs ∧ SqT K H b ys ∧ xs[i]? = some x ∧ ys[i]? = some y,
   fun i H v H' => ∃ p, v = .ref p ∧ H p = none ∧ ∃ x y, (∀ xs, SqT K H a xs → xs[i]? = some x) ∧ (∀ ys, SqT K H b ys → ys[i]? = some y) ∧ H' = upd H p (.tup [x, y]),
   fun i H => ∃ xs ys, SqT K H a xs ∧ SqT K H b ys ∧ (xs.length ≤ i ∨ ys.length ≤ i)⟩
section
variable {X : Cx}
def iZip (K : PySem.W.Frag) (ta : TA) : TI := fun σ H R => ta σ H fun vs H1 => ∃ a b xs ys, vs = [.ref a, .ref b] ∧ SqT K H1 a xs ∧ SqT K H1 b ys ∧ R (Itz K a b) H1
end
end L2
end
section
set_option Elab.async false
set_option linter.all false
set_option maxRecDepth 100000
set_option maxHeartbeats 4000000
namespace L2
open PySem PySem.Spec PyProof.Rows

section
variable {prog : Program} {w : World} {A : Around} {E : Value → Shared → Prop} {s : Shared}
/-- the whole of a tuple is the tuple itself -/
theorem getItem_tuple_all {t sl : Addr} {items : Array Value} {vl vu : Value} {lo hi : Option Int} {Q : Value → Shared → Prop} (ht : IsTup s.heap t items) (hs : s.heap.IsSliceOf sl vl vu .none) (pl : IsPart vl lo) (pu : IsPart vu hi)
    (hw : HT.sIx items.size 0 lo = 0 ∧ HT.sIx items.size items.size hi = items.size) (h : Q (.ref t) s) : wpAny (model prog w) A (getItem (.ref t) (.ref sl)) Q E s := by
  obtain ⟨os, hos, hcs, hds⟩ := id hs
  have hTs : s.TypeIs (.ref sl) "slice" := ⟨os, hos, hcs⟩
  unfold getItem
  try with_reducible refine wpAny_holding ?_
  first | refine wpAny_bind (wpAny_pure ?_) | skip
  refine wpAny_bind (wpAny_sequenceKey ht.typeIs (by decide) ?_)
  refine wpAny_bind (wpAny_callSpecial?_slot (name := Str.ofString "__getitem__") ht.typeIs PyProof.Rows.slot_tuple_getitem
    (wpAny_call_entry PyProof.Rows.slot_tuple_getitem ht.typeIs entry_tuple_getitem ?_ (args_tuple_getitem _ _)))
  show wpAny _ _ (Builtin.Tuple.tupleItemsOf (.ref t) >>= _) _ _ s
  refine wpAny_bind (tupleItemsOf_ ht ?_)
  refine wpAny_bind (wpAny_typeOf hTs ?_)
  rw [if_pos (by decide)]
  refine wpAny_bind (HT.sliceApplied_gen hs pl pu ?_)
  have yes : (((HT.sIx items.size 0 lo : Nat) : Int) == 0 && (1 : Int) == 1 && (HT.sIx items.size items.size hi - HT.sIx items.size 0 lo) == items.size) = true := by
    rw [hw.1, hw.2]; simp
  show wpAny _ _ (if (((HT.sIx items.size 0 lo : Nat) : Int) == 0 && (1 : Int) == 1 && (HT.sIx items.size items.size hi - HT.sIx items.size 0 lo) == items.size) = true then _ else _) _ _ s
  rw [if_pos yes]
  obtain ⟨o, ho, hc, n, hd⟩ := id ht
  have ex : wpAny (model prog w) A.in1 (Builtin.Tuple.tupleIsExact (.ref t)) (fun b s' => b = true ∧ s' = s) E s := by
    unfold Builtin.Tuple.tupleIsExact
    first
      | exact wpAny_bind (wpAny_typeOf ⟨o, ho, hc⟩ (wpAny_pure ⟨by rfl, rfl⟩))
      | exact wpAny_bind (wpAny_load ho (wpAny_pure ⟨by rw [hc]; rfl, rfl⟩))
  refine wpAny_bind (thn ex fun b s' hb => ?_)
  obtain ⟨rfl, rfl⟩ := hb
  rw [if_pos rfl]
  exact wpAny_bind (wpAny_rule (wpAny_pure ⟨_, rfl, wpAny_pure h⟩))
end
section
variable {X : Cx}
def rSlW (K : PySem.W.Frag) : V → Option Int → Option Int → Hp → VK → Prop := fun x lo hi H Q => ∃ a xs, x = .ref a ∧ SqT K H a xs ∧ HT.sIx xs.length 0 lo = 0 ∧ HT.sIx xs.length xs.length hi = xs.length ∧ Q (.ref a) H
theorem sl_tupW : SlR X (rSlW X.K) := by
  intro pins s σ H x v vl vu lo hi sl Q I rx hs pl pu h
  obtain ⟨a, xs, rfl, hx, h1, h2, q⟩ := h
  cases rx
  obtain ⟨its, r, ht, hz⟩ := I.tuple hx
  have hlen : its.toArray.size = xs.length := by rw [List.size_toArray]; exact r.length.symm
  refine ⟨"tuple", _, PyProof.Rows.slot_tuple_getitem.lookup, ht.typeIs, ?_⟩
  exact getItem_tuple_all ht hs pl pu (by rw [hlen]; exact ⟨h1, h2⟩) ⟨.ref a, H, I, rfl, q⟩
def rSlS : V → Option Int → Option Int → Hp → VK → Prop := fun x lo hi H Q => ∃ z, x = .str z ∧ z.length ≤ sizeLine ∧ Q (.str (Txt.slice z lo hi)) H
theorem sl_str : SlR X rSlS := by
  intro pins s σ H x v vl vu lo hi sl Q I rx hs pl pu h
  obtain ⟨z, rfl, hz, q⟩ := h
  obtain ⟨t, rfl⟩ := rx
  obtain ⟨os, hos, hcs, hds⟩ := id hs
  refine ⟨"str", _, F.slot_str_getitem.lookup, typeIs_str _ _ _, ?_⟩
  have fin : ∀ (t' : Tok) (k : Nat), EP X pins σ Q (.str (Txt.slice z lo hi) t') { s with toks := k } := fun t' k => ⟨.str _, H, I.tok _, ⟨_, rfl⟩, q⟩
  cases pl with
  | none =>
    cases pu with
    | none => exact wpAny_getItem_str_slice (l := none) (u := none) (st := none) ⟨os, hos, hcs, hds⟩ rfl (post_val_or_str ⟨Nat.le_trans (Txt.slice_le z _ _) hz, fin⟩)
    | int j uj => exact wpAny_getItem_str_slice (l := none) (u := some (j, uj)) (st := none) ⟨os, hos, hcs, hds⟩ rfl (post_val_or_str ⟨Nat.le_trans (Txt.slice_le z _ _) hz, fin⟩)
  | int i ui =>
    cases pu with
    | none => exact wpAny_getItem_str_slice (l := some (i, ui)) (u := none) (st := none) ⟨os, hos, hcs, hds⟩ rfl (post_val_or_str ⟨Nat.le_trans (Txt.slice_le z _ _) hz, fin⟩)
    | int j uj => exact wpAny_getItem_str_slice (l := some (i, ui)) (u := some (j, uj)) (st := none) ⟨os, hos, hcs, hds⟩ rfl (post_val_or_str ⟨Nat.le_trans (Txt.slice_le z _ _) hz, fin⟩)
/-- a[lo:hi] of a list, a tuple (the whole or not), a text -/
theorem sl_U : SlR X (fun x lo hi H Q => rSlL X.K x lo hi H Q ∨ (rSlT X.K x lo hi H Q ∨ (rSlW X.K x lo hi H Q ∨ rSlS x lo hi H Q))) := sl_list.or (sl_tup.or (sl_tupW.or sl_str))
end
/-- a def of the text: its own facts in one -/
structure Df (K : PySem.W.Frag) (mg : Str → Option Value) (x : Str) (st : Stmt) (f : Addr) (fd : FuncData) (ps : List Str) : Prop where
  fn : Fun K x x st f fd
  b : Binds K fd ps []
  mg : mg x = some (.ref f)
theorem Df.kp {K : PySem.W.Frag} {mg : Str → Option Value} {x : Str} {st : Stmt} {f : Addr} {fd : FuncData} {ps : List Str} (D : Df K mg x st f fd ps) : PySem.W.keepIn K (.ref f) = true := D.fn.kp
end L2
namespace L2
open PySem
theorem bt_len : bootBuiltins "len" = some (.builtin "len") := by decide +kernel
theorem bt_sorted : bootBuiltins "sorted" = some (.builtin "sorted") := by decide +kernel
theorem bt_int : bootBuiltins "int" = some (.type "int") := by decide +kernel
theorem bt_tuple : bootBuiltins "tuple" = some (.type "tuple") := by decide +kernel
theorem bt_list : bootBuiltins "list" = some (.type "list") := by decide +kernel
end L2
end
section
set_option Elab.async false
set_option linter.all false
set_option maxRecDepth 100000
namespace L2
open PySem
def lcChk (sc : Scope) (N : List Str) (scope : Scope) (fr : List (Str × Nat)) : Bool :=
  (scope.kind == .function) && scope.names.all (fun y => decide (y.2 ≠ .cell)) && scope.names.all (fun y => decide (y.2 = .local → scope.names.lookup y.1 = some .local)) &&
    scope.names.all (fun y => decide (y.2 = .free → sc.names.lookup y.1 = some .cell)) && fr.all (fun p => decide (N[p.2]? = some p.1) && decide (scope.names.lookup p.1 = some .free))
theorem LcOk.of {X : Cx} {sc : Scope} {N : List Str} {scope : Scope} {Nt : List Str} {fr : List (Str × Nat)} (h1 : X.env.scope = sc) (h2 : X.N = N) (h : lcChk sc N scope fr = true) : LcOk X scope Nt fr := by
  unfold lcChk at h
  simp only [Bool.and_eq_true, List.all_eq_true, decide_eq_true_eq] at h
  obtain ⟨⟨⟨⟨a1, a2⟩, a3⟩, a4⟩, a5⟩ := h
  refine ⟨eq_of_beq a1, a2, a3, fun y hy hf => ?_, fun p hp => ?_⟩
  · show X.env.scope.names.lookup y.1 = some .cell
    rw [h1]; exact a4 y hy hf
  · rw [h2]; exact a5 p hp
end L2
end
section
set_option Elab.async false
set_option linter.all false
set_option maxRecDepth 100000
set_option maxHeartbeats 4000000
namespace L2
open PySem PySem.Spec PyProof.Rows
/-! ### calls and displays, without unfolding the evaluator -/
def notStar : Expr → Bool
  | .Starred _ _ => false
  | _ => true
def noStars : List Expr → Bool
  | [] => true
  | e :: es => notStar e && noStars es
theorem star_cons {env : Env} {e : Expr} {es : List Expr} (h : notStar e = true) : starEach (e :: es) env = (false, eval e env) :: starEach es env := by
  cases e <;> first | rfl | exact absurd h Bool.false_ne_true
theorem stars_any {env : Env} {pos : Pos} : ∀ {es : List Expr}, noStars es = true → (backTo pos (starEach es env)).any (·.1) = false
  | [], _ => rfl
  | e :: es, h => by
    have h' : (notStar e && noStars es) = true := h
    rw [Bool.and_eq_true] at h'
    rw [star_cons h'.1]
    show (false || (backTo pos (starEach es env)).any (·.1)) = false
    rw [stars_any h'.2]; rfl
section
variable {X : Cx}
theorem qa_cons {e : Expr} {es : List Expr} {te : TE} {t : TA} (ha : PE X e te) (hr : PA X es t) (hs : notStar e = true := by rfl) : PA X (e :: es) (tCons te t) := pa_cons ha hr (star_cons hs)
/-- constants as they stand -/
def constV : Expr → Option V
  | .Constant (.int i) _ _ => some (.int i)
  | .Constant (.str x) _ _ => some (.str x)
  | .Constant (.bool b) _ _ => some (.bl b)
  | _ => none
def constVs : List Expr → Option (List V)
  | [] => some []
  | e :: es => match constV e, constVs es with
    | some v, some vs => some (v :: vs)
    | _, _ => none
theorem pe_const {e : Expr} {v : V} (h : constV e = some v) : PE X e (tC v) := by
  unfold constV at h
  split at h
  · cases h; exact pe_int
  · cases h; exact pe_str
  · cases h; exact pe_bl
  · cases h
theorem constV_ns {e : Expr} {v : V} (h : constV e = some v) : notStar e = true := by
  cases e <;> first | rfl | (unfold constV at h; cases h)
def tVs (vs : List V) : TA := fun _ H Q => Q vs H
theorem pa_consts : ∀ {es : List Expr} {vs : List V}, constVs es = some vs → PA X es (tVs vs)
  | [], vs, h => by cases h; exact pa_nil
  | e :: es, vs, h => by
    unfold constVs at h
    cases h1 : constV e with
    | none => rw [h1] at h; cases h
    | some v =>
      cases h2 : constVs es with
      | none => rw [h1, h2] at h; cases h
      | some us =>
        rw [h1, h2] at h
        cases h
        exact pa_cons (pe_const h1) (pa_consts h2) (star_cons (constV_ns h1))
theorem qe_call {CX : CXT} {k : Nat} {f : Addr} {fd : FuncData} {ps : List Str} {sp : Sp} {dvs : List V} {ds : List Value} {E : XK} {x : Str} {p pos : Pos} {e : Expr} {es : List Expr} {t : TA}
    (F : FnOk X.prog X.w X.K X.mg X.base CX k f fd ps sp) (hr : Room k X.A) (hg : Gl X x) (hm : X.mg x = some (.ref f)) (hk : PySem.W.keepIn X.K (.ref f) = true) (hb : Binds X.K fd ps ds) (hd : Vals dvs ds) (hx : Passes CX X E)
    (ha : PA X (e :: es) t) (hs : noStars (e :: es) = true := by rfl) (hdb : (x == ("__debug__" : Str)) = false := by decide) : PE X (.Call (.Name x p) (e :: es) [] pos) (tCall sp dvs E t) := by
  have h' : (notStar e && noStars es) = true := hs
  rw [Bool.and_eq_true] at h'
  exact pe_call F hr hg hm hk hb hd hx ha hdb (star_cons h'.1) (stars_any h'.2)
theorem qe_callB {x : Str} {p pos : Pos} {e : Expr} {es : List Expr} {t : TA} {id : String} {r : List V → Hp → VK → Prop} (hc : CallR X (.builtin id) r) (hg : Gl X x) (hm : X.mg x = none) (hv : bootBuiltins x = some (.builtin id)) (ha : PA X (e :: es) t)
    (hs : noStars (e :: es) = true := by rfl) (hn : x ≠ "__name__" := by decide) (hdb : (x == ("__debug__" : Str)) = false := by decide) : PE X (.Call (.Name x p) (e :: es) [] pos) (tCB r t) := by
  have h' : (notStar e && noStars es) = true := hs
  rw [Bool.and_eq_true] at h'
  exact pe_callB hc hg hm hv ha hn hdb (star_cons h'.1) (stars_any h'.2)
theorem qe_callTy {x : Str} {p pos : Pos} {e : Expr} {es : List Expr} {t : TA} {T : String} {r : List V → Hp → VK → Prop} (hc : CallR X (.type T) r) (hg : Gl X x) (hm : X.mg x = none) (hv : bootBuiltins x = some (.type T)) (ha : PA X (e :: es) t)
    (hs : noStars (e :: es) = true := by rfl) (hn : x ≠ "__name__" := by decide) (hdb : (x == ("__debug__" : Str)) = false := by decide) : PE X (.Call (.Name x p) (e :: es) [] pos) (tCB r t) := by
  have h' : (notStar e && noStars es) = true := hs
  rw [Bool.and_eq_true] at h'
  exact pe_callTy hc hg hm hv ha hn hdb (star_cons h'.1) (stars_any h'.2)
theorem qi_range1 {tg a : Expr} {ta : TA} {p pos : Pos} (hg : Gl X "range") (hm : X.mg "range" = none) (ha : PA X [a] ta) (hs : notStar a = true := by rfl) : PI X tg (.Call (.Name "range" p) [a] [] pos) (iRng1 ta) :=
  pi_range1 hg hm ha (by rw [star_cons hs]; rfl)
end
end L2
end
section
set_option Elab.async false
set_option linter.all false
set_option maxRecDepth 100000
set_option maxHeartbeats 4000000
namespace L2
open PySem PySem.Spec PyProof.Rows
/-! ### the rules once more, behind a cover that the elaborator does not open -/
theorem relv_ref (a : Addr) : RelV (.ref a) (.ref a) := rfl
structure Hd (p : Prop) : Prop where
  out : p
section
variable {X : Cx} {pos : Pos} {a b c e o : Expr} {es : List Expr} {ta tb tc te to : TE} {t u : TS} {tt tu : TT} {tA : TA} {st : Stmt} {rest : List Stmt}
theorem wv (i : Nat) {x : Str} (hN : X.N[i]? = some x := by rfl) (hv : Vis X.env.scope x := by first | exact Or.inl rfl | exact Or.inr (Or.inl rfl) | exact Or.inr (Or.inr rfl)) (hd : (x == ("__debug__" : Str)) = false := by decide)
    (hcd : (x == ("__classdict__" : Str)) = false := by decide) : Hd (PE X (.Name x pos) (tVar i)) := ⟨pe_var hN hv hd hcd⟩
theorem we_int {i j pos} : Hd (PE X (.Constant (.int i) j pos) (tC (.int i))) := ⟨pe_int⟩
theorem we_str {x j pos} : Hd (PE X (.Constant (.str x) j pos) (tC (.str x))) := ⟨pe_str⟩
theorem we_bl {x j pos} : Hd (PE X (.Constant (.bool x) j pos) (tC (.bl x))) := ⟨pe_bl⟩
theorem we_non {j pos} : Hd (PE X (.Constant .none j pos) (tC .non)) := ⟨pe_non⟩
theorem we_glob {x : Str} {v : V} {y : Value} (hg : Gl X x) (hm : X.mg x = some y) (r : RelV v y) (hd : (x == ("__debug__" : Str)) = false := by decide) : Hd (PE X (.Name x pos) (tC v)) := ⟨pe_glob hg hm r hd⟩
theorem we_op {op : Operator} {r : R2} (ho : OpR X (binaryOp op) r) (ha : Hd (PE X a ta)) (hb : Hd (PE X b tb)) : Hd (PE X (.BinOp a op b pos) (tOp r ta tb)) := ⟨pe_op ho ha.out hb.out⟩
theorem we_un {op : UnaryOp} {r : V → Hp → VK → Prop} (ho : UnR X (unaryOp op) r) (ha : Hd (PE X a ta)) : Hd (PE X (.UnaryOp op a pos) (tUn r ta)) := ⟨pe_un ho ha.out⟩
theorem we_cmpR {op : CmpOp} {r : R2} (ho : OpR X (compareOp op) r) (ha : Hd (PE X a ta)) (hb : Hd (PE X b tb)) (hm : behindInMarks op b = false) : Hd (PE X (.Compare a [op] [b] pos) (tOp r ta tb)) := ⟨pe_cmpR ho ha.out hb.out hm⟩
theorem we_ifExp (hc : Hd (PT X c tt)) (ha : Hd (PE X a ta)) (hb : Hd (PE X b tb)) : Hd (PE X (.IfExp c a b pos) (tIf tt ta tb)) := ⟨pe_ifExp hc.out ha.out hb.out⟩
theorem we_lst (h : Hd (PA X es tA)) : Hd (PE X (.List es pos) (tLst tA)) := ⟨pe_lst h.out⟩
theorem we_tup {x1} (h : Hd (PA X es tA)) : Hd (PE X (.Tuple es x1 pos) (tTup tA)) := ⟨pe_tup h.out⟩
theorem wps_nil : Hd (PPs X pos [] [] []) := ⟨pps_nil⟩
theorem wps_cons {k v : Expr} {ks : List (Option Expr)} {vs : List Expr} {tk tv : TE} {trs : List (TE × TE)} (hk : Hd (PE X k tk)) (hv : Hd (PE X v tv)) (hr : Hd (PPs X pos ks vs trs)) : Hd (PPs X pos (some k :: ks) (v :: vs) ((tk, tv) :: trs)) := ⟨pps_cons hk.out hv.out hr.out⟩
theorem we_disp {keys : List (Option Expr)} {values : List Expr} {trs : List (TE × TE)} (h : Hd (PPs X pos keys values trs)) (hall : keys.all (·.isSome) = true) (hl : keys.length = values.length) (h0 : keys ≠ []) (h15 : keys.length ≤ 15) :
    Hd (PE X (.Dict keys values pos) (tDisp trs)) := ⟨pe_disp h.out hall hl h0 h15⟩
theorem wo_none : Hd (PO X none tNoPart) := ⟨po_none⟩
theorem wo_some (h : Hd (PE X e te)) : Hd (PO X (some e) (tPart te)) := ⟨po_some h.out⟩
theorem we_slice {r : V → Option Int → Option Int → Hp → VK → Prop} {lo hi : Option Expr} {tl th : TO} {p2 : Pos} (hr : SlR X r) (he : Hd (PE X e te)) (hl : Hd (PO X lo tl)) (hu : Hd (PO X hi th)) : Hd (PE X (.Subscript e (.Slice lo hi none p2) pos) (tSl r te tl th)) := ⟨pe_slice hr he.out hl.out hu.out⟩
theorem we_ix {r : R2} (hr : IxR X r) (ha : Hd (PE X a ta)) (hb : Hd (PE X b tb)) (hs : PlainIx b) : Hd (PE X (.Subscript a b pos) (tOp r ta tb)) := ⟨pe_ix hr ha.out hb.out hs⟩
theorem wa_nil : Hd (PA X [] tNil) := ⟨pa_nil⟩
theorem wa_cons (ha : Hd (PE X e te)) (hr : Hd (PA X es tA)) (hs : notStar e = true := by rfl) : Hd (PA X (e :: es) (tCons te tA)) := ⟨qa_cons ha.out hr.out hs⟩
theorem wa_consts {vs : List V} (h : constVs es = some vs) : Hd (PA X es (tVs vs)) := ⟨pa_consts h⟩
theorem we_call {CX : CXT} {k : Nat} {f : Addr} {fd : FuncData} {ps : List Str} {sp : Sp} {dvs : List V} {ds : List Value} {E : XK} {x : Str} {p : Pos}
    (F : FnOk X.prog X.w X.K X.mg X.base CX k f fd ps sp) (hr : Room k X.A) (hg : Gl X x) (hm : X.mg x = some (.ref f)) (hk : PySem.W.keepIn X.K (.ref f) = true) (hb : Binds X.K fd ps ds) (hd : Vals dvs ds) (hx : Passes CX X E)
    (ha : Hd (PA X (e :: es) tA)) (hs : noStars (e :: es) = true := by rfl) (hdb : (x == ("__debug__" : Str)) = false := by decide) : Hd (PE X (.Call (.Name x p) (e :: es) [] pos) (tCall sp dvs E tA)) := ⟨qe_call F hr hg hm hk hb hd hx ha.out hs hdb⟩
theorem we_callB {x : Str} {p : Pos} {id : String} {r : List V → Hp → VK → Prop} (hc : CallR X (.builtin id) r) (hg : Gl X x) (hm : X.mg x = none) (hv : bootBuiltins x = some (.builtin id)) (ha : Hd (PA X (e :: es) tA))
    (hs : noStars (e :: es) = true := by rfl) (hn : x ≠ "__name__" := by decide) (hdb : (x == ("__debug__" : Str)) = false := by decide) : Hd (PE X (.Call (.Name x p) (e :: es) [] pos) (tCB r tA)) := ⟨qe_callB hc hg hm hv ha.out hs hn hdb⟩
theorem we_callTy {x : Str} {p : Pos} {T : String} {r : List V → Hp → VK → Prop} (hc : CallR X (.type T) r) (hg : Gl X x) (hm : X.mg x = none) (hv : bootBuiltins x = some (.type T)) (ha : Hd (PA X (e :: es) tA))
    (hs : noStars (e :: es) = true := by rfl) (hn : x ≠ "__name__" := by decide) (hdb : (x == ("__debug__" : Str)) = false := by decide) : Hd (PE X (.Call (.Name x p) (e :: es) [] pos) (tCB r tA)) := ⟨qe_callTy hc hg hm hv ha.out hs hn hdb⟩
theorem few_of {env : Env} {cpos : Pos} {es : List Expr} (h : noStars es = true) (hl : es.length < 29) :
    ((backTo cpos (starEach es env)).all (fun x => !x.1) && (backToKw cpos (keywordEach [] env)).all (fun x => x.1.isSome)
      && decide (es.length + ([] : List Keyword).length + (if ([] : List Keyword).isEmpty then 0 else 1) < 30)) = true := by
  have h1 : (backTo cpos (starEach es env)).all (fun x => !x.1) = true := by
    have := stars_any (env := env) (pos := cpos) h
    rw [List.all_eq_not_any_not]
    simpa using this
  have h2 : (backToKw cpos (keywordEach [] env)).all (fun x => x.1.isSome) = true := rfl
  rw [h1, h2]
  simp
  omega
theorem we_bm {name : Str} {apos cpos : Pos} {T id : String} {r : V → List V → Hp → VK → Prop} (pa : PlainAttrs T) (slot : Slot T name id) (hty : typeOf (.builtin id) = pure (.type "method_descriptor")) (hm : MtR X id r) (ho : Hd (PE X o to)) (ha : Hd (PA X (e :: es) tA))
    (hbase : attributeBase o name X.env (eval o X.env) = eval o X.env := by rfl) (hs : noStars (e :: es) = true := by rfl) (hl : (e :: es).length < 29 := by decide) (hline : (apos.endLine == cpos.line) = true := by rfl) :
    Hd (PE X (.Call (.Attribute o name apos) (e :: es) [] cpos) (tBM X.K T r to tA)) := by
  have h' : (notStar e && noStars es) = true := hs
  rw [Bool.and_eq_true] at h'
  exact ⟨pe_bm pa slot hty hm ho.out ha.out hbase (few_of hs hl) hline (star_cons h'.1) (stars_any h'.2)⟩
theorem wt_cmpR {op : CmpOp} {r : R2} (ho : OpR X (compareOp op) r) (ha : Hd (PE X a ta)) (hb : Hd (PE X b tb)) (hm : behindInMarks op b = false) : Hd (PT X (.Compare a [op] [b] pos) (tTest (tOp r ta tb))) := ⟨pt_cmpR ho ha.out hb.out hm⟩
theorem ww_and1 (ha : Hd (PT X a tt)) : Hd (PW X (.BoolOp .And [a] pos) tt) := ⟨pw_and1 ha.out⟩
theorem ww_or1 (ha : Hd (PT X a tt)) : Hd (PW X (.BoolOp .Or [a] pos) tt) := ⟨pw_or1 ha.out⟩
theorem ww_and {more : List Expr} (ha : Hd (PT X a tt)) (hb : Hd (PW X (.BoolOp .And (b :: more) pos) tu)) : Hd (PW X (.BoolOp .And (a :: b :: more) pos) (tAnd tt tu)) := ⟨pw_and ha.out hb.out⟩
theorem ww_or {more : List Expr} (ha : Hd (PT X a tt)) (hb : Hd (PW X (.BoolOp .Or (b :: more) pos) tu)) : Hd (PW X (.BoolOp .Or (a :: b :: more) pos) (tOr tt tu)) := ⟨pw_or ha.out hb.out⟩
theorem wt_pw (h : Hd (PW X e tt)) : Hd (PT X e tt) := ⟨h.out.pt⟩
theorem wt_not (ha : Hd (PT X a tt)) : Hd (PT X (.UnaryOp .Not a pos) (tNot tt)) := ⟨pt_not ha.out⟩
theorem wt_val (h : Hd (PE X e te)) (he : ∀ whole, isTrue e X.env whole = (do let v ← whole; standAt e.pos; holding [v] (truthy v)) := by intro _; rfl) : Hd (PT X e (tB te)) := ⟨pt_val h.out he⟩
variable {tg iter : Expr} {wi : TI} {g : TG}
theorem wi_range1 {p : Pos} (hg : Gl X "range") (hm : X.mg "range" = none) (ha : Hd (PA X [a] tA)) (hs : notStar a = true := by rfl) : Hd (PI X tg (.Call (.Name "range" p) [a] [] pos) (iRng1 tA)) := ⟨qi_range1 hg hm ha.out hs⟩
theorem wi_U (hl : Hd (PE X e te)) : Hd (PI X tg e (fun σ H R => iList X.K te σ H R ∨ iTup X.K te σ H R)) := ⟨pi_U hl.out⟩
theorem wg_name {i : Nat} {x : Str} (hN : X.N.Nodup) (hi : X.N[i]? = some x) (hx : Loc X.env.scope x) (hf : X.fn x = true ∨ X.env.scope.names.lookup x = some .local := by first | exact .inl rfl | exact .inr rfl | assumption) : Hd (PG X (.Name x pos) (gName i)) := ⟨pg_name hN hi hx hf⟩
theorem wgs_nil : Hd (PGs X [] gNil) := ⟨pgs_nil⟩
theorem wgs_cons {gs : TGs} (h1 : Hd (PG X e g)) (h2 : Hd (PGs X es gs)) (hs : (assignEach (e :: es) X.env).map (·.2) = assign e X.env :: (assignEach es X.env).map (·.2) := by rfl) : Hd (PGs X (e :: es) (gCons g gs)) := ⟨pgs_cons h1.out h2.out hs⟩
theorem wg_tup {k n : Nat} {gs : TGs} (hc : X.calm = true) (h : Hd (PGs X es gs)) (hn : (assignEach es X.env).length = n := by rfl) (hst : (assignEach es X.env).findIdx? (·.1) = none := by rfl) : Hd (PG X (.Tuple es k pos) (gTup X.K n gs)) := ⟨pg_tup hc h.out hn hst⟩
theorem wg_sub {i : Expr} {ti : TE} {ts : TSet} (ho : Hd (PE X o to)) (hi : Hd (PE X i ti)) (hs : PSet X ts)
    (ha : ∀ v, assign (.Subscript o i pos) X.env v = (do
      let ov ← holding [v] (eval o X.env)
      let iv ← holding [v, ov] (eval i X.env)
      standAt pos
      holding [v, ov, iv] (setItem ov iv v)
      release [v, ov, iv] []) := by intro _; rfl) : Hd (PG X (.Subscript o i pos) (gSub to ti ts)) := ⟨pg_sub ho.out hi.out hs ha⟩
theorem wss_nil : Hd (PSs X [] tNext) := ⟨pss_nil⟩
theorem wss_one (h1 : Hd (PS X st t)) : Hd (PSs X [st] t) := ⟨pss_one h1.out⟩
theorem wss_cons (h1 : Hd (PS X st t)) (h2 : Hd (PSs X rest u)) : Hd (PSs X (st :: rest) (tSeq t u)) := ⟨pss_cons h1.out h2.out⟩
theorem ws_ret (he : Hd (PE X e te)) : Hd (PS X (.Return (some e) pos) (tRet te)) := ⟨ps_ret he.out⟩
theorem ws_if {sa sb : List Stmt} (hc : Hd (PT X c tt)) (ha : Hd (PSs X sa t)) (hb : Hd (PSs X sb u)) : Hd (PS X (.If c sa sb pos) (tIfS tt t u)) := ⟨ps_if hc.out ha.out hb.out⟩
theorem ws_expr (he : Hd (PE X e te)) (hs : swapsWith e none pos.line X.env = pure false := by rfl) : Hd (PS X (.Expr e pos) (tDrop te)) := ⟨ps_expr he.out hs⟩
theorem ws_set {i : Nat} {x : Str} {pos' : Pos} (hN : X.N.Nodup) (hi : X.N[i]? = some x) (hx : Loc X.env.scope x) (he : Hd (PE X e te)) (hs : swapsWith e (some (.Name x pos')) pos.line X.env = pure false := by rfl) (hf : X.fn x = true ∨ X.env.scope.names.lookup x = some .local := by first | exact .inl rfl | exact .inr rfl | assumption) :
    Hd (PS X (.Assign [.Name x pos'] e pos) (tAsg te (gName i))) := ⟨ps_set hN hi hx he.out hs hf⟩
theorem ws_asg (he : Hd (PE X e te)) (hg : Hd (PG X tg g)) (hs : swapsWithSole [tg] e pos.line X.env = pure false := by rfl) (hw : swappedStores [tg] e X.env = pure none := by rfl) (h1 : (assignEach [tg] X.env).map (·.2) = [assign tg X.env] := by rfl) :
    Hd (PS X (.Assign [tg] e pos) (tAsg te g)) := ⟨ps_asg he.out hg.out hs hw h1⟩
theorem ws_for {body : List Stmt} (hp : PassesOwn (model X.prog X.w) X.A X.env X.xe) (hc : X.calm = true) (hi : Hd (PI X tg iter wi)) (hg : Hd (PG X tg g)) (hb : Hd (PSs X body t)) (hs : ∀ x, foldedSetIterable iter X.env x = pure x := by intro _; rfl) : Hd (PS X (.For tg iter body [] pos) (tFor wi g t)) := ⟨ps_for hp hc hi.out hg.out hb.out hs⟩
theorem ws_while {body : List Stmt} (hp : PassesOwn (model X.prog X.w) X.A X.env X.xe) (hc : Hd (PT X c tt)) (hb : Hd (PSs X body t)) : Hd (PS X (.While c body [] pos) (tWhile tt t)) := ⟨ps_while hp hc.out hb.out⟩
variable {ifs : List Expr} {scope : Scope} {Nt : List Str} {fr : List (Str × Nat)} {gz : ZC → TG} {tz : ZC → TT} {ez : ZC → TE}
theorem wif_nil : Hd (PIfs X [] tAll) := ⟨pif_nil⟩
theorem wif_one (h : Hd (PT X c tt)) : Hd (PIfs X [c] tt) := ⟨pif_one h.out⟩
theorem we_lc (L : LcOk X scope Nt fr) (hcalm : X.calm = true) (hi : Hd (PI X tg iter wi)) (hg : ∀ z, Hd (PG (cxC X scope (Nt ++ fr.map (·.1)) z) tg (gz z))) (hgt : ∀ z, Tgt Nt.length (gz z))
    (hc : ∀ z, Hd (PIfs (cxC X scope (Nt ++ fr.map (·.1)) z) ifs (tz z))) (he : ∀ z, Hd (PE (cxC X scope (Nt ++ fr.map (·.1)) z) e (ez z))) (hs : ∀ x, foldedSetIterable iter X.env x = pure x := by intro _; rfl) :
    Hd (PE X (.ListComp e [⟨tg, iter, ifs, 0⟩] scope pos) (tLC wi Nt.length fr gz tz ez)) := ⟨pe_lc L hcalm hi.out (fun z => (hg z).out) hgt (fun z => (hc z).out) (fun z => (he z).out) hs⟩
theorem ws_lc {y : Str} {j : Nat} {py spos : Pos} (hN : X.N.Nodup) (hj : X.N[j]? = some y) (hy : Loc X.env.scope y) (L : LcOk X scope Nt fr) (hcalm : X.calm = true) (hi : Hd (PI X tg iter wi)) (hg : ∀ z, Hd (PG (cxC X scope (Nt ++ fr.map (·.1)) z) tg (gz z))) (hgt : ∀ z, Tgt Nt.length (gz z))
    (hc : ∀ z, Hd (PIfs (cxC X scope (Nt ++ fr.map (·.1)) z) ifs (tz z))) (he : ∀ z, Hd (PE (cxC X scope (Nt ++ fr.map (·.1)) z) e (ez z))) (hs : ∀ x, foldedSetIterable iter X.env x = pure x := by intro _; rfl)
    (hsw : swapsWith (.ListComp e [⟨tg, iter, ifs, 0⟩] scope pos) (some (.Name y py)) spos.line X.env = pure true := by rfl)
    (hff : X.fn y = true ∨ X.env.scope.names.lookup y = some .local := by first | exact .inl rfl | exact .inr rfl | assumption) :
    Hd (PS X (.Assign [.Name y py] (.ListComp e [⟨tg, iter, ifs, 0⟩] scope pos) spos) (tLCset wi Nt.length fr gz tz ez j)) := ⟨ps_lc L hcalm hN hj hy hi.out (fun z => (hg z).out) hgt (fun z => (hc z).out) (fun z => (he z).out) hs hsw hff⟩
end
section
variable {P : Program} {w : World} {K : PySem.W.Frag} {mg : Str → Option Value} {base : Heap}
/-- THE RULE for a def, covered -/
theorem Fun.okH {x qual : Str} {st : Stmt} {f : Addr} {fd : FuncData} {N ps : List Str} {k : Nat} {sp : Sp} (F : Fun K x qual st f fd) (S : FnScope N ps (defScope st)) (len : ∀ vs H Q E, sp vs H Q E → vs.length = ps.length)
    (hbody : ∀ (cdv : Value) (A : Around) (outer : List Env) (s : Shared) (H : Hp) (vs : List V) (Q : VK) (E : XK), Room k (A.deeper (envOfC qual (defScope st) s.heap.objs.size f cdv)) → sp vs H Q E →
      ∃ t, Hd (PSs (cxOf CX0 P w K mg base N qual (defScope st) f cdv A outer s H E).nox (defBody st) t) ∧ t { nx := fun _ H' => Q .non H', rt := Q } (start N vs) H) : FnOk P w K mg base CX0 (k + 1) f fd ps sp :=
  F.ok S len fun cdv A outer s H vs Q E hr h => let ⟨t, h1, h2⟩ := hbody cdv A outer s H vs Q E hr h; ⟨t, h1.out, h2⟩
end
end L2
end
section
set_option linter.all false
namespace Kn
open PySem PySem.W PyProof.Rows
/-! sorting by questions: what comes out is rising, where no two keys are alike -/
def krun {α : Type} (lt : Nat → Nat → Bool) : KasT α → α
  | .ret a => a
  | .ask i j k => krun lt (k (lt i j))
section
variable (r : Nat → Nat)
def qlt (i j : Nat) : Bool := decide (r i < r j)
def kat (p : Array Nat) (i : Nat) : Nat := r (p.getD i 0)
def Srt (p : Array Nat) (m : Nat) : Prop := ∀ i j, i < j → j < m → kat r p i < kat r p j
def Dsc (p : Array Nat) (m : Nat) : Prop := ∀ i j, i < j → j < m → kat r p j < kat r p i
def Inj (p : Array Nat) : Prop := ∀ i j, i < p.size → j < p.size → i ≠ j → kat r p i ≠ kat r p j
variable {r}
theorem Srt.up {p : Array Nat} {n : Nat} (h1 : 1 ≤ n) (h : Srt r p n) (hn : kat r p (n - 1) < kat r p n) : Srt r p (n + 1) := fun i j hij hj => by
  by_cases e : j = n
  · subst e
    by_cases e2 : i = j - 1
    · rw [e2]; exact hn
    · exact Nat.lt_trans (h i (j - 1) (by omega) (by omega)) hn
  · exact h i j hij (by omega)
theorem Dsc.up {p : Array Nat} {n : Nat} (h1 : 1 ≤ n) (h : Dsc r p n) (hn : kat r p n < kat r p (n - 1)) : Dsc r p (n + 1) := fun i j hij hj => by
  by_cases e : j = n
  · subst e
    by_cases e2 : i = j - 1
    · rw [e2]; exact hn
    · exact Nat.lt_trans hn (h i (j - 1) (by omega) (by omega))
  · exact h i j hij (by omega)
end
end Kn
end
section
set_option linter.all false
namespace Kn
open PySem
/-! bags by their counts: what a bag of pairs is, and that there is one alone -/
theorem ahead_irrefl (x : Val) : aheadB x x = false := by unfold aheadB; rw [if_pos rfl]
/-- how often v stands in the pairs -/
noncomputable def cnt (v : Val) : List (Val × Int) → Int
  | [] => 0
  | p :: ps => (if p.1 = v then p.2 else 0) + cnt v ps
theorem cnt_none {v : Val} {a : List (Val × Int)} (h : ∀ p ∈ a, p.1 ≠ v) : cnt v a = 0 := by
  induction a with
  | nil => rfl
  | cons p a ih => rw [cnt, if_neg (h p List.mem_cons_self), ih fun q hq => h q (List.mem_cons_of_mem _ hq)]; rfl
/-- rising, each value once -/
def Rise (ps : List (Val × Int)) : Prop := ps.Pairwise fun p q => aheadB p.1 q.1 = true
/-- the bag of the pairs xs -/
def IsBag (xs qs : List (Val × Int)) : Prop := Rise qs ∧ (∀ q ∈ qs, q.2 ≠ 0) ∧ ∀ v, cnt v qs = cnt v xs
theorem Rise.cnt {ps : List (Val × Int)} (h : Rise ps) : ∀ {p}, p ∈ ps → Kn.cnt p.1 ps = p.2 := by
  induction ps with
  | nil => intro p hp; cases hp
  | cons q ps ih =>
    intro p hp
    have h' := List.pairwise_cons.mp h
    rw [Kn.cnt]
    rcases List.mem_cons.mp hp with e | hm
    · subst e
      rw [if_pos rfl, cnt_none fun r hr e => ?_]
      · omega
      · have := h'.1 r hr
        rw [e, ahead_irrefl] at this
        cases this
    · have := h'.1 p hm
      rw [if_neg (fun e => by rw [e, ahead_irrefl] at this; cases this), ih h'.2 hm]
      omega
/-! putting a value at its place -/
/-- how many of the values are ahead of v -/
noncomputable def nAhead (v : Val) (ys : List Val) : Nat := (ys.filter fun y => aheadB y v).length
def RiseV (ys : List Val) : Prop := ys.Pairwise fun p q => aheadB p q = true
end Kn
end
section
set_option linter.all false
namespace Kn
open PySem PySem.W PyProof.Rows
/-! all that kas_sort asks of is there; what it comes to for keys of values -/
def Asks {α : Type} (n : Nat) (R : α → Prop) : KasT α → Prop
  | .ret a => R a
  | .ask i j k => i < n ∧ j < n ∧ ∀ b, Asks n R (k b)
theorem Asks.bind {α β : Type} {n : Nat} {R : α → Prop} {S : β → Prop} {f : α → KasT β} (hf : ∀ a, R a → Asks n S (f a)) : ∀ {t : KasT α}, Asks n R t → Asks n S (t.bind f)
  | .ret a, h => hf a h
  | .ask _ _ k, h => ⟨h.1, h.2.1, fun b => Asks.bind hf (h.2.2 b)⟩
/-- all numbers below n -/
def Gn (n : Nat) (p : Array Nat) : Prop := ∀ x ∈ p.toList, x < n
theorem Gn.get {n : Nat} {p : Array Nat} (h0 : 0 < n) (h : Gn n p) (i : Nat) : p.getD i 0 < n := by
  rw [Array.getD_eq_getD_getElem?]
  cases e : p[i]? with
  | none => exact h0
  | some x => exact h x (Array.mem_toList_iff.mpr (Array.mem_of_getElem? e))
theorem Gn.perm {n : Nat} {p q : Array Nat} (h : Gn n p) (e : q.Perm p) : Gn n q := fun x hx => h x (Array.mem_toList_iff.mpr (e.mem_iff.mp (Array.mem_toList_iff.mp hx)))
section
variable {n : Nat} (h0 : 0 < n)
include h0
end
/-! ranks of values -/
def vAt (xs : List Val) (i : Nat) : Val := xs[i]?.getD (.num 0)
end Kn
end
section
set_option Elab.async false
set_option linter.all false
set_option maxRecDepth 100000
set_option maxHeartbeats 4000000
namespace L2
open PySem PySem.Spec PyProof.Rows PySem.W
open Kn (KE cmpK kEl sLt key aheadB RiseV vAt)

/-! ### sorted of a dict whose keys are the keys of values -/
def kk : KE → Key
  | .i n => .inl n
  | .s x => .inr x
section
variable {prog : Program} {w : World} {A : Around} {E : Value → Shared → Prop} {s : Shared}
/-- the i-th of the list is a tuple: the key of the i-th value -/
def KTs (h : Heap) (a : Addr) (vs : List Value) (xs : List Kn.Val) : Prop := vs.length = xs.length ∧ ∀ (i : Nat) (x : Kn.Val), xs[i]? = some x → ∃ (b : Addr) (its : List Value), vs[i]? = some (Value.ref b) ∧ b ≠ a ∧ Vals ((key x).map kv) its ∧ IsTup h b its.toArray
theorem KTs.keep {h h' : Heap} {a : Addr} {vs : List Value} {xs : List Kn.Val} (t : KTs h a vs xs) (k : ∀ b o, b ≠ a → h.get? b = some o → h'.get? b = some o) : KTs h' a vs xs :=
  ⟨t.1, fun i x hx => let ⟨b, its, e1, e2, e3, o, e4, e5⟩ := t.2 i x hx; ⟨b, its, e1, e2, e3, o, k b o e2 e4, e5⟩⟩
end
section
variable {X : Cx}
/-- sorted(d), d keyed by the keys of values -/
def rSortT : List V → Hp → VK → Prop := fun ws H Q => ∃ (a : Addr) (kvs : List (List Key × V)) (xs : List Kn.Val), ws = [.ref a] ∧ H a = some (.dT kvs) ∧ kvs.map (·.1) = xs.map (fun x => (key x).map kk) ∧ xs.Nodup ∧ xs.length < 64 ∧
  ∀ (p : Addr) (bs : List V) (ys : List Kn.Val), H p = none → ys.Perm xs → RiseV ys → bs.length = ys.length → (∀ (i : Nat) (y : Kn.Val), ys[i]? = some y → ∃ b : Addr, bs[i]? = some (V.ref b) ∧ H b = some (.tup ((key y).map kv))) → Q (.ref p) (upd H p (.lst bs))
end
end L2
end
section
set_option Elab.async false
set_option linter.all false
set_option maxRecDepth 100000
set_option maxHeartbeats 4000000
namespace L2
open PySem PySem.Spec PyProof.Rows
section
variable {X : Cx}
/-! ### isinstance once more -/
def isiW (x : V) (T : String) (b : Bool) : Prop :=
  (T = "int" ∧ (∃ i, x = .int i) ∧ b = true) ∨ (T = "bool" ∧ (∃ i, x = .int i) ∧ b = false) ∨ (T = "str" ∧ ((∃ i, x = .int i) ∧ b = false ∨ (∃ z, x = .str z) ∧ b = true))
/-! ### lists compared -/
def rEqL : R2 := fun x y H Q => ∃ a b xs, x = .ref a ∧ y = .ref b ∧ H a = some (.lst xs) ∧ H b = some (.lst []) ∧ Q (.bl (decide (xs = []))) H
/-- two lists of the same data -/
def rNeS : R2 := fun x y H Q => ∃ a b xs ys ds, x = .ref a ∧ y = .ref b ∧ H a = some (.lst xs) ∧ H b = some (.lst ys) ∧ IsDts H ds xs ∧ IsDts H ds ys ∧ depL ds ≤ depMax ∧ Q (.bl false) H
/-! ### dicts keyed by tuples -/
variable {pos : Pos} {e f o : Expr} {te tf to : TE}
theorem m2_of {m : Str} {apos cpos : Pos} (hb : attributeBase o m X.env (eval o X.env) = eval o X.env) (h1 : notStar e = true) (h2 : notStar f = true) (hline : (apos.endLine == cpos.line) = true) : M2 X o m apos e f cpos :=
  ⟨hb, few_of (by show (notStar e && (notStar f && true)) = true; rw [h1, h2]; rfl) (by show 2 < 29; decide), hline, by rw [star_cons h1, star_cons h2]; rfl⟩
theorem we_dget2 {apos cpos : Pos} (hu : X.A.units + 1 < cLine) (ho : Hd (PE X o to)) (he : Hd (PE X e te)) (hf : Hd (PE X f tf)) (hb : attributeBase o "get" X.env (eval o X.env) = eval o X.env := by rfl) (h1 : notStar e = true := by rfl) (h2 : notStar f = true := by rfl) (hline : (apos.endLine == cpos.line) = true := by rfl) :
    Hd (PE X (.Call (.Attribute o "get" apos) [e, f] [] cpos) (tDGet2 to te tf)) := ⟨pe_dget2 hu ho.out he.out hf.out (m2_of hb h1 h2 hline)⟩
end
end L2
end
section
set_option Elab.async false
set_option linter.all false
set_option maxRecDepth 100000
set_option maxHeartbeats 4000000
namespace L2
open PySem PySem.Spec PyProof.Rows
/-! ### enumerate of a list; the signs of a text -/
/-- what an enumerate of the list at a yields -/
def Ite (K : PySem.W.Frag) (a : Addr) : It :=
  ⟨fun i H => ∃ xs x, SqL K H a xs ∧ xs[i]? = some x,
   fun i H v H' => ∃ p, v = .ref p ∧ H p = none ∧ ∃ x, (∀ xs, SqL K H a xs → xs[i]? = some x) ∧ H' = upd H p (.tup [.int i, x]),
   fun i H => ∃ xs, SqL K H a xs ∧ xs.length ≤ i⟩
/-- an enumerate's records, over the list at a -/
def EAt (h : Heap) (e it a : Addr) (k : Nat) : Prop := (∃ old, IsEnum h e it k old) ∧ h.IsListIter it a k
theorem turn_enum {P : Program} {w : World} {K : PySem.W.Frag} {elts : List Expr} {kk : Nat} {tp : Pos} {e it a : Addr} (ne : e ≠ it) :
    Turn P w K (.Tuple elts kk tp) (Ite K a) [e, it] e (fun i h => EAt h e it a i) where
  mem := by simp
  obj := fun i h st c hc => by
    obtain ⟨⟨old, q1⟩, ⟨o4, q4, _, d4⟩⟩ := st
    simp only [List.mem_cons, List.not_mem_nil, or_false] at hc
    rcases hc with rfl | rfl
    · exact ⟨_, q1, fun v z => by cases z⟩
    · exact ⟨_, q4, fun v z => by rw [d4] at z; cases z⟩
  keep := fun i h h' st k => by
    obtain ⟨⟨old, q1⟩, ⟨o4, q4, r4⟩⟩ := st
    exact ⟨⟨old, k e (by simp) _ q1⟩, ⟨o4, k it (by simp) _ q4, r4⟩⟩
  item := by
    intro X hP hw hK hc i pins s σ H E I hf st hg
    subst hP hw hK
    obtain ⟨xs, x, hq, hx⟩ := hg
    obtain ⟨its, rv, p, hz⟩ := I.list hq
    obtain ⟨u, hu, ru⟩ := rv.get hx
    obtain ⟨⟨old, q1⟩, hit⟩ := id st
    have helt : e < s.heap.objs.size := Heap.lt_size q1
    have hilt : it < s.heap.objs.size := by obtain ⟨o, q, _⟩ := hit; exact Heap.lt_size q
    refine wpAny_pyNext_enum_item q1 hit p.isList (x := u) (by simpa using hu) ne fun h' Z' J' T' n' keep => ⟨_, rfl, ?_⟩
    refine wpAny_letOwnedTupleGo_enum Z' fun h'' z'' sb => ?_
    have hT : h''.get? s.heap.objs.size = some { cls := .type "tuple", data := .seq #[.int i s.toks, u] } := sb.extBut _ _ (Nat.ne_of_gt helt) T'
    have k2 : ∀ c o, c ∉ [e, it] → s.heap.get? c = some o → h''.get? c = some o := fun c o hc q => by
      simp only [List.mem_cons, List.not_mem_nil, or_false, not_or] at hc
      exact sb.extBut _ _ hc.1 (keep c o hc.1 hc.2 q)
    have fresh : H s.heap.objs.size = none := I.hok.fresh (Nat.le_refl _)
    have none' : ∀ c ∈ [e, it], H c = none := fun c hc => (hf c hc).1
    have tne : ∀ c o, H c = some o → c ≠ s.heap.objs.size := fun c o q => ne_of_none q fresh
    have new : ObjOk X.prog X.w (upd H s.heap.objs.size (.tup [.int i, x])) h'' s.heap.objs.size (.tup [.int i, x]) :=
      ⟨by show 2 ≤ sizeLine; decide, [.int i s.toks, u], .cons ⟨_, rfl⟩ (.cons ru .nil), ⟨_, hT, rfl, 0, rfl⟩⟩
    have ok : HOk X.prog X.w (upd H s.heap.objs.size (.tup [.int i, x])) h'' := fun c o q => by
      by_cases hc : c = s.heap.objs.size
      · subst hc
        rw [upd_same] at q
        cases q
        exact new
      · rw [upd_ne hc] at q
        refine (I.hok c o q).stay (fun d v hd e => k2 d v (fun m => ?_) e) (fun d e => ?_) fun d zs e => ?_
        · rcases hd with rfl | hd
          · rw [none' _ m] at q; cases q
          · rw [none' _ m] at hd; cases hd
        · rw [upd_ne (tne _ _ e)]; exact e
        · rw [upd_ne (tne _ _ e)]; exact e
    have hL : ∀ c ∈ [e, it], c ≠ X.env.locals := fun c hc => (hf c hc).2.1
    have I' : Inv X pins σ (upd H s.heap.objs.size (.tup [.int i, x])) { s with heap := h'', toks := s.toks + 1 } := by
      refine I.step (g' := s.gens) (t' := s.toks + 1) (d' := s.drawn) (ch := [e, it]) (fun c hc => ⟨(hf c hc).2.2.2.1, (hf c hc).2.1, (hf c hc).2.2.2.2.1, (hf c hc).2.2.2.2.2⟩)
        (fun c o _ _ hc q _ => k2 c o hc q) (fun c o _ _ hc q _ => ⟨o.slots, k2 c o hc q⟩) (fun c o hc q n => ?_) (fun c o hc q => ⟨o, k2 c o hc q⟩) (fun c zs q => ?_) (fun c o v q => ?_) (fun c ps q => ⟨#[], ?_⟩) (fun m' hm' => ?_) ok I.bare
      · rw [upd_ne (Nat.ne_of_lt (Heap.lt_size q))]; exact n
      · rw [upd_ne (tne _ _ q)]; exact q
      · rw [upd_ne (tne _ _ q)]; exact q
      · rw [upd_ne (tne _ _ q)]; simpa using q
      · obtain ⟨o, es, ep, e, rr⟩ := hm'
        exact ⟨o, es, ep, k2 _ _ (fun hc => hL _ hc rfl) e, rr⟩
    refine ⟨.ref s.heap.objs.size, _, I', rfl, ⟨_, rfl, fresh, x, fun zs hz => by rw [I.list_inj hz hq]; exact hx, rfl⟩, ?_, fun c hc => ?_⟩
    · have z3 : IsEnum h'' e it ((i + 1 : Nat) : Int) u := by rw [Int.natCast_add]; exact z''
      exact ⟨⟨_, z3⟩, J'.extBut sb.extBut ne.symm⟩
    · have hlt : c < s.heap.objs.size := by
        simp only [List.mem_cons, List.not_mem_nil, or_false] at hc
        rcases hc with rfl | rfl
        · exact helt
        · exact hilt
      rw [upd_ne (Nat.ne_of_lt hlt)]
      exact (hf c hc).1
  done := by
    intro X hP hw hK hc i pins s σ H E I hf st hg
    subst hP hw hK
    obtain ⟨xs, hq, hx⟩ := hg
    obtain ⟨its, rv, p, hz⟩ := I.list hq
    obtain ⟨⟨old, q1⟩, hit⟩ := st
    have hl := rv.length
    obtain ⟨f0, f1, f2, f3, f4, f5⟩ := hf it (by simp)
    exact wpAny_pyNext_enum_end (I.ok.hd hc) q1 hit p.isList (by simp; omega) fun h' eb => ⟨rfl, I.turned (t' := s.toks) (fun b o hb e => eb b o hb e) f0 f1 f3 f4 f5⟩
  self := fun _ _ _ _ _ st h => by
    obtain ⟨⟨old, q1⟩, _⟩ := st
    exact wpAny_pyIter_enum q1 h
section
variable {X : Cx}
def iEnum (K : PySem.W.Frag) (ta : TA) : TI := fun σ H R => ta σ H fun vs H1 => ∃ a xs, vs = [.ref a] ∧ SqL K H1 a xs ∧ R (Ite K a) H1
theorem pi_enum {a : Expr} {ta : TA} {elts : List Expr} {kk : Nat} {tp p pos : Pos} (hg : Gl X "enumerate") (hm : X.mg "enumerate" = none) (ha : PA X [a] ta) (hs : starEach [a] X.env = [(false, eval a X.env)] := by rfl) :
    PI X (.Tuple elts kk tp) (.Call (.Name "enumerate" p) [a] [] pos) (iEnum X.K ta) := by
  intro pins s σ H R I h
  refine Call_ (ld_blt I hg hm boot_enumerate (PyProof.Rows.callWith_type1 (thn (ha pos pins s σ H _ I h) fun us s1 ⟨vs, H1, I1, r1, q1⟩ => ?_) (by rw [hs]; rfl) (by rfl)))
  obtain ⟨x, xs, e, hx, q⟩ := q1
  subst e
  cases r1 with
  | cons r rr =>
    cases rr
    cases r
    obtain ⟨its, v1, p1, _⟩ := I1.list hx
    refine call_enumerate_list p1.isList fun h' Z J n2 keep => wpAny_pyIter_enum Z ?_
    have I2 : Inv X pins σ H1 { s1 with heap := h' } := I1.kept (t' := s1.toks) keep
    refine ⟨_, [s1.heap.objs.size + 1, s1.heap.objs.size], _, _, H1, rfl, I2, turn_enum (by show (_ : Nat) ≠ _; omega), ⟨⟨_, Z⟩, J⟩, fun c hc => ?_, q⟩
    have hc' : s1.heap.objs.size ≤ c := by
      simp only [List.mem_cons, List.not_mem_nil, or_false] at hc
      rcases hc with rfl | rfl
      · exact Nat.le_add_right _ _
      · exact Nat.le_refl _
    exact I1.fpOk hc' (I1.hok.fresh hc')
theorem wi_enum {a : Expr} {ta : TA} {elts : List Expr} {kk : Nat} {tp p pos : Pos} (hg : Gl X "enumerate") (hm : X.mg "enumerate" = none) (ha : Hd (PA X [a] ta)) (hs : notStar a = true := by rfl) :
    Hd (PI X (.Tuple elts kk tp) (.Call (.Name "enumerate" p) [a] [] pos) (iEnum X.K ta)) := ⟨pi_enum hg hm ha.out (by rw [star_cons hs]; rfl)⟩
/-- the signs of a text, of plain letters -/
def Its (x : Str) : It := ⟨fun i _ => i < x.cps.size, fun i H v H' => H' = H ∧ ∃ c, x.cps[i]? = some c ∧ v = .str ⟨#[c]⟩, fun i _ => x.cps.size ≤ i⟩
def iStr (tl : TE) : TI := fun σ H R => tl σ H fun v H1 => ∃ x, v = .str x ∧ x.cps.all (· < 128) = true ∧ R (Its x) H1
end
/-- enumerate over a list that the body leaves as it is -/
theorem for_enum {K : PySem.W.Frag} {a : Addr} {xs : List V} {g : TG} {tb : TS} {D : Ends} {σ : St} {H : Hp} (Pv : Nat → St → Hp → Prop) (h0 : Pv 0 σ H) (hl : ∀ i σ H, i ≤ xs.length → Pv i σ H → SqL K H a xs)
    (hs : ∀ i x p σ H, xs[i]? = some x → Pv i σ H → H p = none → g (.ref p) σ (upd H p (.tup [.int i, x])) fun σ2 H2 => tb { D with nx := Pv (i + 1), ct := Pv (i + 1), bk := D.nx } σ2 H2) (hd : ∀ σ H, Pv xs.length σ H → D.nx σ H) :
    ∃ W : Nat → Nat → St → Hp → Prop, (∃ m, W 0 m σ H) ∧ ∀ i m σ H, W i m σ H →
      ((Ite K a).stop i H ∧ D.nx σ H) ∨ ((Ite K a).go i H ∧ ∃ N : St → Hp → Prop, (∀ σ' H', N σ' H' → ∃ m', m' < m ∧ W (i + 1) m' σ' H') ∧ ∀ x H', (Ite K a).yld i H x H' → g x σ H' fun σ2 H2 => tb { D with nx := N, ct := N, bk := D.nx } σ2 H2) := by
  refine ⟨fun i m σ H => m = xs.length - i ∧ i ≤ xs.length ∧ Pv i σ H, ⟨xs.length, by simp, Nat.zero_le _, h0⟩, ?_⟩
  rintro i m σ H ⟨rfl, hi, p⟩
  have q := hl i σ H hi p
  by_cases hlt : i < xs.length
  · refine .inr ⟨⟨xs, xs[i], q, by simp [hlt]⟩, Pv (i + 1), fun σ' H' p' => ⟨xs.length - (i + 1), by omega, rfl, hlt, p'⟩, fun x H' y => ?_⟩
    obtain ⟨t, e, hn, x1, y, e2⟩ := y
    subst e e2
    exact hs i x1 t σ _ (y xs q) p hn
  · have e : i = xs.length := by omega
    subst e
    exact .inl ⟨⟨xs, q, Nat.le_refl _⟩, hd σ H p⟩
end L2
end
section
set_option Elab.async false
set_option linter.all false
set_option maxRecDepth 100000
set_option maxHeartbeats 4000000
namespace L2
open PySem PySem.Spec PyProof.Rows
section
variable {X : Cx}
/-- a text with a number behind it, as an f-string writes them -/
def tFs (a : Str) (te : TE) : TE := fun σ H Q => te σ H fun x H1 => ∃ i : Int, x = .int i ∧ i.natAbs.log2 < 1920 ∧ a.length + (Str.ofString (toString i)).length ≤ 10000 ∧ Q (.str (a ++ Str.ofString (toString i))) H1
end
end L2
end
section
set_option Elab.async false
set_option linter.all false
set_option maxRecDepth 100000
set_option maxHeartbeats 4000000
namespace L2
open PySem PySem.Spec PyProof.Rows
/-! ### sets of texts: what the table keeps -/
/-- the text of a value -/
def valS : Value → Str
  | .str x _ => x
  | _ => Str.empty
def strsOf (es : List (Int × Value)) : List Str := es.map fun e => valS e.2
/-- a set of texts at a: how it was made, which it holds -/
def SetS (prog : Program) (w : World) (h : Heap) (a : Addr) (zs : List Str) : Prop :=
  ∃ (es : Array (Int × Value)) (ep : Nat) (t : SetTable), h.get? a = some { cls := .type "set", dict := none, data := .set es ep t, slots := #[] } ∧ ElemsOf (strKind prog w) es.toList ∧ t.fits es.size = true ∧
    t.led = (!w.params.followText "set-order") ∧ (t.plain = false ∨ es = #[]) ∧ es.size < 4000 ∧ (strsOf es.toList).Nodup ∧ ∀ x, x ∈ strsOf es.toList ↔ x ∈ zs
theorem SetS.at {prog : Program} {w : World} {h h' : Heap} {a : Addr} {zs : List Str} (S : SetS prog w h a zs) (k : ∀ o, h.get? a = some o → h'.get? a = some o) : SetS prog w h' a zs := by
  obtain ⟨es, ep, t, ho, r⟩ := S
  exact ⟨es, ep, t, k _ ho, r⟩
theorem SetS.congr {prog : Program} {w : World} {h : Heap} {a : Addr} {zs ys : List Str} (S : SetS prog w h a zs) (e : ∀ x, x ∈ zs ↔ x ∈ ys) : SetS prog w h a ys := by
  obtain ⟨es, ep, t, h1, h2, h3, h4, h5, h6, h7, h8⟩ := S
  exact ⟨es, ep, t, h1, h2, h3, h4, h5, h6, h7, fun x => (h8 x).trans (e x)⟩
section
variable {prog : Program} {w : World} {A : Around} {E : Value → Shared → Prop} {s : Shared} {a : Addr} {zs : List Str}
end
end L2
end
section
set_option Elab.async false
set_option linter.all false
set_option maxRecDepth 100000
set_option maxHeartbeats 4000000
namespace L2
open PySem PySem.Spec PyProof.Rows
/-! ### set(a list of texts) -/
section
variable {prog : Program} {w : World} {A : Around} {R : Result → Shared → Prop} {I : Addr} {fp wr : List Addr} {G : Array GenState → Array GenState → Prop} {n : Nat} {P : Nat → Value → Prop} {St : Nat → Shared → Prop}
end
section
variable {prog : Program} {w : World} {A : Around} {E : Value → Shared → Prop} {s : Shared}
/-- the empty set as the maker lays it -/
def emptySet (w : World) : Obj := { cls := .type "set", dict := none, data := .set #[] 0 (.fresh 0 0 (!w.params.followText "set-order")) }
end
end L2
end
section
set_option Elab.async false
set_option linter.all false
set_option maxRecDepth 100000
set_option maxHeartbeats 4000000
namespace L2
open PySem PySem.Spec PyProof.Rows
/-! ### a set of texts, walked -/
section
variable {M : Model} {prog : Program} {w : World} {A : Around} {E : Value → Shared → Prop} {s : Shared}
/-- the iterator's own fields -/
def sIt (first : Value) (i : Nat) (a : Addr) (n ep : Nat) : Obj := { cls := .type "set_iterator", data := .fields #[first, .int i 0, .ref a, .int n 0, .int ep 0] }
/-- the set stands as it stood -/
def SAt (h : Heap) (a : Addr) (es : Array (Int × Value)) (ep : Nat) (t : SetTable) : Prop := h.get? a = some { cls := .type "set", dict := none, data := .set es ep t, slots := #[] } ∧ t.fits es.size = true
end
end L2
end
section
set_option Elab.async false
set_option linter.all false
set_option maxRecDepth 100000
set_option maxHeartbeats 4000000
namespace L2
open PySem PySem.Spec PyProof.Rows PySem.W
section
variable {prog : Program} {w : World} {A : Around} {E : Value → Shared → Prop} {s : Shared}
end
end L2
end
section
set_option Elab.async false
set_option linter.all false
set_option maxRecDepth 100000
set_option maxHeartbeats 4000000
namespace L2
open PySem PySem.Spec PyProof.Rows PySem.W
section
variable {prog : Program} {w : World} {A : Around} {E : Value → Shared → Prop} {s : Shared}
end
end L2
end
section
set_option Elab.async false
set_option linter.all false
set_option maxRecDepth 100000
set_option maxHeartbeats 4000000
namespace L2
open PySem PySem.Spec PyProof.Rows
theorem bt_dict : bootBuiltins "dict" = some (.type "dict") := by decide +kernel
theorem bt_min : bootBuiltins "min" = some (.builtin "min") := by decide +kernel
theorem bt_all : bootBuiltins "all" = some (.builtin "all") := by decide +kernel
section
variable {X : Cx}
/-- a // b, the divisor positive and below 2^200 -/
theorem op_fdivB : OpR X (binaryOp .FloorDiv) (rI (fun _ j => 0 < j ∧ j < 2 ^ 200) fun i j => .int (i / j)) := opI fun i j _ _ _ _ _ hc q => by
  have h1 : (0 : Int) < j := hc.1
  have h2 : j < 2 ^ 200 := hc.2
  have h3 : j.natAbs < 2 ^ 200 := by omega
  exact floordiv_int (by omega) (by rw [Int.fdiv_eq_ediv_of_nonneg i (by omega)]; exact q) (.inl (PyProof.noPylong_of_log2 (Nat.lt_of_lt_of_le ((Nat.log2_lt (by omega)).mpr h3) (by decide))))
/-- x.split(y) -/
def rSplit : V → List V → Hp → VK → Prop := fun x xs H Q => ∃ a b : Str, x = .str a ∧ xs = [.str b] ∧ (b.length == 0) = false ∧ a.length + 2 ≤ sizeLine ∧ ∀ p, H p = none → Q (.ref p) (upd H p (.lst ((Txt.split a b).map V.str)))
/-- sorted(set(e)), e a list of texts -/
def tSS (te : TE) : TE := fun σ H Q => te σ H fun x H1 => ∃ (a : Addr) (zs : List Str), [x] = [V.ref a] ∧ H1 a = some (.lst (zs.map V.str)) ∧ zs.length < 64 ∧
  ∀ (p : Addr) (ys : List Str), H1 p = none → ys.Nodup → (∀ x, x ∈ ys ↔ x ∈ zs) → sortedS ys = true → Q (.ref p) (upd H1 p (.lst (ys.map V.str)))
end
end L2
end
section
set_option Elab.async false
set_option linter.all false
set_option maxRecDepth 100000
set_option maxHeartbeats 4000000
namespace L2
open PySem PySem.Spec PyProof.Rows
section
variable {X : Cx}
/-- a list, wherever it stands, == the empty one -/
def rEqLK (K : PySem.W.Frag) : R2 := fun x y H Q => ∃ a b xs, x = .ref a ∧ y = .ref b ∧ SqL K H a xs ∧ H b = some (.lst []) ∧ Q (.bl (decide (xs = []))) H
end
/-! ### the hand: a dict of the cells, three numbers, perhaps the knots -/
def kyC : Key := Sum.inr (Str.ofString "cells")
def kyN : Key := Sum.inr (Str.ofString "next")
def kyR : Key := Sum.inr (Str.ofString "rest")
def kyT : Key := Sum.inr (Str.ofString "count")
def kyK : Key := Sum.inr (Str.ofString "knots")
structure HdIs (H : Hp) (p c : Addr) (cs : List Int) (n r t : Int) (kn : Option Int) (kvs : List (Key × V)) : Prop where
  at_ : H p = some (.dK kvs)
  len : kvs.length ≤ 20
  cell : valV kvs kyC = some (.ref c)
  nxt : valV kvs kyN = some (.int n)
  rst : valV kvs kyR = some (.int r)
  cnt : valV kvs kyT = some (.int t)
  knt : valV kvs kyK = kn.map V.int
  lst : H c = some (.lst (cs.map V.int))
  c1 : 1 ≤ cs.length
  c64 : cs.length ≤ 64
  n0 : 0 ≤ n
section
variable {H : Hp} {p c : Addr} {cs : List Int} {n r t : Int} {kn : Option Int} {kvs : List (Key × V)}
end
/-- the hand at p, its cells at c; as many knots; a small dict -/
def Hn (H : Hp) (p c : Addr) (cs : List Int) (kn : Option Int) : Prop := ∃ n r t kvs, HdIs H p c cs n r t kn kvs ∧ (kn = none → kvs.length ≤ 10)
/-- all but p as it was -/
def Ex (p : Addr) (H H' : Hp) : Prop := ∀ b o, b ≠ p → H b = some o → H' b = some o
theorem Ex.refl (p : Addr) (H : Hp) : Ex p H H := fun _ _ _ h => h
theorem Ex.trans {p : Addr} {H H1 H2 : Hp} (a : Ex p H H1) (b : Ex p H1 H2) : Ex p H H2 := fun c o n h => b c o n (a c o n h)
theorem Same.ex {p : Addr} {H H' : Hp} (s : Same H H') : Ex p H H' := fun b o _ h => s b o h
theorem HdIs.keep {H H' : Hp} {p c : Addr} {cs : List Int} {n r t : Int} {kn : Option Int} {kvs : List (Key × V)} (h : HdIs H p c cs n r t kn kvs) (s : Same H H') : HdIs H' p c cs n r t kn kvs :=
  ⟨s _ _ h.at_, h.len, h.cell, h.nxt, h.rst, h.cnt, h.knt, s _ _ h.lst, h.c1, h.c64, h.n0⟩
theorem Hn.keep {H H' : Hp} {p c : Addr} {cs : List Int} {kn : Option Int} (h : Hn H p c cs kn) (s : Same H H') : Hn H' p c cs kn := by
  obtain ⟨n, r, t, kvs, a, b⟩ := h; exact ⟨n, r, t, kvs, a.keep s, b⟩
theorem Hn.new {H : Hp} {p c q : Addr} {cs : List Int} {kn : Option Int} {o : HO} (h : Hn H p c cs kn) (hq : H q = none) : Hn (upd H q o) p c cs kn := h.keep fun b u e => by rw [upd_ne (ne_of_none e hq)]; exact e
theorem Hn.ne {H : Hp} {p c q : Addr} {cs : List Int} {kn : Option Int} (h : Hn H p c cs kn) (hq : H q = none) : q ≠ p := by
  obtain ⟨n, r, t, kvs, a, _⟩ := h
  intro z; rw [z, a.at_] at hq; cases hq
theorem Hn.tups {H H' : Hp} {p c : Addr} {cs : List Int} {kn : Option Int} (h : Hn H p c cs kn) (x : Ex p H H') : Tups H H' := fun b xs e => by
  obtain ⟨n, r, t, kvs, a, _⟩ := h
  exact x b _ (ne_of e a.at_ (by intro z; cases z)) e
end L2
end
section
set_option Elab.async false
set_option linter.all false
set_option maxRecDepth 100000
set_option maxHeartbeats 4000000
namespace L2
open PySem PySem.Spec PyProof.Rows
/-! ### products of numbers of many figures -/
def CMulB (i j : Int) : Prop := i.natAbs < 2 ^ 600 ∧ j.natAbs < 2 ^ 600
section
variable {X : Cx}
end
end L2
end
section
set_option Elab.async false
set_option linter.all false
set_option maxRecDepth 100000
set_option maxHeartbeats 4000000
namespace L2
open PySem PySem.Spec PyProof.Rows PyProof.V
theorem bt_sum : bootBuiltins "sum" = some (.builtin "sum") := by decide +kernel
section
variable {X : Cx}
/-! ### sum of a list of ints -/
def rSum (K : PySem.W.Frag) : List V → Hp → VK → Prop := fun ws H Q => ∃ (p : Addr) (ns : List Int), ws = [.ref p] ∧ SqL K H p (ns.map V.int) ∧ Q (.int ns.sum) H
theorem call_sumL (hc : X.calm = true) : CallR X (.builtin "sum") (rSum X.K) := by
  intro pins s σ H ws us Q I r h
  obtain ⟨p, ns, rfl, hq, q⟩ := h
  obtain ⟨u, rfl, ru⟩ := r.one
  cases ru
  have hh := I.ok.hd hc
  obtain ⟨its, rv, pl, _⟩ := I.list hq
  have hi : IntsAre its ns := intsAre_of rv
  have hl : s.heap.IsList p its.toArray := pl.isList
  obtain ⟨xs, hx⟩ := hi.allInts.items
  have hn : numsOf its.toArray.toList = ns := by rw [show its.toArray.toList = its from rfl, hi.numsOf]
  rw [hx] at hl hn
  rw [nums_intItems] at hn
  obtain ⟨ob, o1, o2, k, o3⟩ := id hl
  have ne : p ≠ s.heap.objs.size := Nat.ne_of_lt (Heap.lt_size o1)
  have W := (Walks.list (prog := X.prog) (w := X.w) (A := X.A.in1) hh s.heap.objs.size p ne (intItems xs)).toS
  rw [show (intItems xs).size = xs.size by simp [intItems]] at W
  refine call_sum_walkAnyS (wpAny_pyIter_list hl ?_)
  refine ⟨s.heap.objs.size, _, _, _, _, _, _, numAt xs, rfl, W, ⟨⟨_, Heap.get?_push_size _ rfl, rfl, rfl⟩, hl.push _⟩, fun b hb => ?_, fun i v hP => intItems_at hP, fun s' t' hm => ?_⟩
  · rcases List.mem_cons.mp hb with z | z
    · rw [z]; exact Heap.lt_size (Heap.get?_push_size _ rfl)
    · rw [List.mem_singleton.mp z]; exact Heap.lt_size (Heap.get?_push_of_some _ o1)
  · obtain ⟨h', g', d', tk', os'⟩ := s'
    have z1 : g' = s.gens := hm.gens
    have z2 : d' = s.drawn := hm.drawn
    have z3 : os' = s.os := hm.os
    subst z1 z2 z3
    have keep : ∀ b o, s.heap.get? b = some o → h'.get? b = some o := fun b o e => hm.heap b o (fun hb => absurd (Heap.lt_size e) ((List.mem_singleton.mp hb) ▸ Nat.lt_irrefl _)) (Heap.get?_push_of_some _ e)
    refine ⟨.int ns.sum, H, I.kept (t' := tk') keep, ?_, q⟩
    rw [preSum_eq, List.take_of_length_le (by simp), hn]
    exact ⟨t', rfl⟩
/-! ### a list taken apart -/
variable {pos : Pos}
def gTupL (K : PySem.W.Frag) (n : Nat) (t : TGs) : TG := fun v σ H Q => ∃ a xs, v = .ref a ∧ SqL K H a xs ∧ xs.length = n ∧ t xs σ H Q
end
/-! ### a comprehension within another one -/
def lcChk2 (scope : Scope) (fr : List (Str × Nat)) (N : List Str) (x0 : Str) : Bool :=
  (scope.kind == .function) && scope.names.all (fun y => decide (y.2 ≠ .cell)) && scope.names.all (fun y => decide (y.2 = .local → scope.names.lookup y.1 = some .local)) &&
    scope.names.all (fun y => decide (y.2 = .free → y.1 = x0)) && fr.all (fun p => decide (N[p.2]? = some p.1) && decide (scope.names.lookup p.1 = some .free))
end L2
end
section
set_option Elab.async false
set_option linter.all false
set_option maxRecDepth 100000
set_option maxHeartbeats 4000000
namespace L2
open PySem PySem.Spec PyProof.Rows
section
variable {X : Cx} {pos pos' apos : Pos} {o e value : Expr} {es : List Expr} {f : Str} {ta tv to te : TE} {tA : TA}
/-! ### own classes, covered -/
theorem we_fld (he : Hd (PE X e ta)) (hb : attributeBase e f X.env (eval e X.env) = eval e X.env := by rfl) : Hd (PE X (.Attribute e f pos) (tFld X.K ta f)) := ⟨pe_fld he.out hb⟩
theorem ws_fld (ha : Hd (PE X o ta)) (hv : Hd (PE X value tv)) (hs : swapsWith value (some (.Attribute o f pos')) pos.line X.env = pure false := by rfl) : Hd (PS X (.Assign [.Attribute o f pos'] value pos) (sFld X.K ta tv f)) := ⟨ps_fld ha.out hv.out hs⟩
theorem we_meth {CX : CXT} {k : Nat} {C fa : Addr} {fd : FuncData} {ps : List Str} {sp : Sp} {dvs : List V} {ds : List Value} {E : XK} {m : Str} {pl : Sem Bool} (he : Hd (PE X o ta)) (c : Cls X.K C) (hm : Meth X.K C m fa) (F : FnOk X.prog X.w X.K X.mg X.base CX k fa fd ps sp) (hr : Room k X.A) (hb : Binds X.K fd ps ds) (hd : Vals dvs ds) (hx : Passes CX X E)
    (ha : Hd (PA X (e :: es) tA)) (hs : noStars (e :: es) = true := by rfl) (ht : eval (.Call (.Attribute o m apos) (e :: es) [] pos) X.env = (do
      let ov ← eval o X.env
      standAt apos.atName
      let (f, first) ← holding [ov] (getMethod ov m pl)
      callWith pos f first (backTo pos (starEach (e :: es) X.env)) (backToKw pos (keywordEach [] X.env))) := by rfl) : Hd (PE X (.Call (.Attribute o m apos) (e :: es) [] pos) (tMeth C m sp dvs E ta tA)) := by
  have h' : (notStar e && noStars es) = true := hs
  rw [Bool.and_eq_true] at h'
  exact ⟨pe_meth he.out c hm F hr hb hd hx ha.out (star_cons h'.1) (stars_any h'.2) ht⟩
theorem we_meth0 {CX : CXT} {k : Nat} {C fa : Addr} {fd : FuncData} {ps : List Str} {sp : Sp} {dvs : List V} {ds : List Value} {E : XK} {m : Str} {pl : Sem Bool} (he : Hd (PE X o ta)) (c : Cls X.K C) (hm : Meth X.K C m fa) (F : FnOk X.prog X.w X.K X.mg X.base CX k fa fd ps sp) (hr : Room k X.A) (hb : Binds X.K fd ps ds) (hd : Vals dvs ds) (hx : Passes CX X E)
    (ht : eval (.Call (.Attribute o m apos) [] [] pos) X.env = (do
      let ov ← eval o X.env
      standAt apos.atName
      let (f, first) ← holding [ov] (getMethod ov m pl)
      callWith pos f first (backTo pos (starEach [] X.env)) (backToKw pos (keywordEach [] X.env))) := by rfl) : Hd (PE X (.Call (.Attribute o m apos) [] [] pos) (tMeth C m sp dvs E ta tNil)) := ⟨pe_meth0 he.out c hm F hr hb hd hx ht⟩
theorem we_make {CX : CXT} {k : Nat} {C fa : Addr} {fd : FuncData} {ps : List Str} {sp : Sp} {dvs : List V} {ds : List Value} {E : XK} {x : Str} {p : Pos} (M : Mk X.K C fa) (F : FnOk X.prog X.w X.K X.mg X.base CX k fa fd ps sp) (hr : Room (k + 1) X.A) (hg : Gl X x) (hm : X.mg x = some (.ref C)) (hb : Binds X.K fd ps ds) (hd : Vals dvs ds) (hx : Passes CX X E)
    (ha : Hd (PA X (e :: es) tA)) (hs : noStars (e :: es) = true := by rfl) (hdb : (x == ("__debug__" : Str)) = false := by decide) : Hd (PE X (.Call (.Name x p) (e :: es) [] pos) (tMake C sp dvs E tA)) := by
  have h' : (notStar e && noStars es) = true := hs
  rw [Bool.and_eq_true] at h'
  exact ⟨pe_make M F hr hg hm hb hd hx ha.out hdb (star_cons h'.1) (stars_any h'.2)⟩
theorem wt_chain {a b c : Expr} {tb tc : TE} {op op' : CmpOp} {r r' : R2} (ho : OpR X (compareOp op) r) (ho' : OpR X (compareOp op') r') (ha : Hd (PE X a ta)) (hb : Hd (PE X b tb)) (hc : Hd (PE X c tc)) (hm : lastMarks [op, op'] [b, c] = false := by with_unfolding_all rfl) :
    Hd (PT X (.Compare a [op, op'] [b, c] pos) (tTest (tChain r r' ta tb tc))) := ⟨pt_chain ho ho' ha.out hb.out hc.out hm⟩
/-! ### what is never reached -/
theorem ws_dead {st : Stmt} : Hd (PS X st (fun _ _ _ => False)) := ⟨fun _ _ _ _ _ _ h => h.elim⟩
/-! ### dict(a dict) -/
def rDictOf : List V → Hp → VK → Prop := fun xs H Q => ∃ (a : Addr) (kvs : List (Key × V)), xs = [.ref a] ∧ H a = some (.dK kvs) ∧ ∀ p, H p = none → Q (.ref p) (upd H p (.dK kvs))
theorem call_dictOf : CallR X (.type "dict") rDictOf := by
  intro pins s σ H xs us Q I r h
  obtain ⟨a, kvs, rfl, ha, q⟩ := h
  obtain ⟨u, rfl, ru⟩ := r.one
  cases ru
  obtain ⟨z, lo, vs, rel, dd⟩ := dk_of I.hok ha
  have hlen : kvs.length = vs.length := rel.length
  refine kt_call_dict lo dd (by rw [← hlen]; exact z) fun h' hm hs => ?_
  have keep : ∀ b o, s.heap.get? b = some o → h'.get? b = some o := fun b o e => hs.extBut b o (Nat.ne_of_lt (Heap.lt_size e)) (Heap.get?_push_of_some _ e)
  have big : (s.heap.objs.size == sysModules) = false := by
    have := I.big
    simp only [beq_eq_false_iff_ne]
    exact Nat.ne_of_gt this
  exact ⟨.ref s.heap.objs.size, upd H s.heap.objs.size (.dK kvs), I.laid (t' := s.toks) keep (Nat.le_refl _) ⟨z, big, vs, rel, hm⟩, rfl, q _ I.fresh⟩
/-! ### all of a list of truths -/
theorem vals_get : ∀ {xs : List V} {us : List Value} {i : Nat} {v : Value}, Vals xs us → us[i]? = some v → ∃ x, xs[i]? = some x ∧ RelV x v
  | _, _, i, v, .nil, e => by simp at e
  | _, _, 0, v, .cons r _, e => by simp at e; subst e; exact ⟨_, rfl, r⟩
  | _, _, i + 1, v, .cons _ t, e => by
    obtain ⟨x, h1, h2⟩ := vals_get (i := i) t (by simpa using e)
    exact ⟨x, by simpa using h1, h2⟩
def rAll (K : PySem.W.Frag) : List V → Hp → VK → Prop := fun ws H Q => ∃ (p : Addr) (bs : List Bool), ws = [.ref p] ∧ SqL K H p (bs.map V.bl) ∧ Q (.bl (bs.all id)) H
theorem call_all (hc : X.calm = true) : CallR X (.builtin "all") (rAll X.K) := by
  intro pins s σ H ws us Q I r h
  obtain ⟨p, bs, rfl, hq, q⟩ := h
  obtain ⟨u, rfl, ru⟩ := r.one
  cases ru
  have hh := I.ok.hd hc
  obtain ⟨its, rv, pl, _⟩ := I.list hq
  have hl : s.heap.IsList p its.toArray := pl.isList
  obtain ⟨ob, o1, o2, k, o3⟩ := id hl
  have ne : p ≠ s.heap.objs.size := Nat.ne_of_lt (Heap.lt_size o1)
  have W := (Walks.list (prog := X.prog) (w := X.w) (A := X.A.in1) hh s.heap.objs.size p ne its.toArray).toS
  have lb : its.length = bs.length := by have := rv.length; rw [List.length_map] at this; exact this.symm
  have bv : ∀ (i : Nat) (v : Value), its.toArray[i]? = some v → v = .bool (bs.getD i false) := fun i v e => by
    have e' : its[i]? = some v := by simpa using e
    have hi : i < bs.length := by have := (List.getElem?_eq_some_iff.mp e').1; omega
    obtain ⟨x, h1, h2⟩ := vals_get rv e'
    rw [List.getElem?_map, List.getElem?_eq_getElem hi] at h1
    cases h1
    rw [List.getD_eq_getElem?_getD, List.getElem?_eq_getElem hi]
    exact h2
  refine call_all_walkS (wpAny_pyIter_list hl ?_)
  refine ⟨s.heap.objs.size, _, _, _, _, _, _, fun i => bs.getD i false, rfl, W, ⟨⟨_, Heap.get?_push_size _ rfl, rfl, rfl⟩, hl.push _⟩, ?_, fun s' hm => ?_⟩
  · intro i v s' Q' E' hP hq'
    rw [bv i v hP]
    exact wpAny_truthy_bool hq'
  · obtain ⟨h', g', d', tk', os'⟩ := s'
    have z1 : g' = s.gens := hm.gens
    have z2 : d' = s.drawn := hm.drawn
    have z3 : os' = s.os := hm.os
    subst z1 z2 z3
    have keep : ∀ b o, s.heap.get? b = some o → h'.get? b = some o := fun b o e => hm.heap b o (fun hb => absurd (Heap.lt_size e) ((List.mem_singleton.mp hb) ▸ Nat.lt_irrefl _)) (Heap.get?_push_of_some _ e)
    refine ⟨.bl (bs.all id), H, I.kept (t' := tk') keep, ?_, q⟩
    have e : (List.range its.toArray.size).all (fun i => bs.getD i false) = bs.all id := by
      rw [List.size_toArray, lb]
      have : (List.range bs.length).map (fun i => bs.getD i false) = bs := by
        refine List.ext_getElem? fun i => ?_
        by_cases hi : i < bs.length
        · rw [List.getElem?_map, List.getElem?_eq_getElem (by simpa using hi), List.getElem?_eq_getElem hi]
          simp [List.getD_eq_getElem?_getD, List.getElem?_eq_getElem hi]
        · rw [List.getElem?_eq_none (by simpa using hi), List.getElem?_eq_none (by omega)]
      conv => rhs; rw [← this]
      rw [List.all_map]; rfl
    rw [e]; rfl
end
end L2
end
section
set_option Elab.async false
set_option linter.all false
set_option maxRecDepth 100000
set_option maxHeartbeats 4000000
namespace L2
open PySem PySem.Spec PyProof.Rows
/-! ### data written out: tuples of tuples of texts and ints -/
def exAll (f : Expr → Option Dt) : List Expr → Option (List Dt)
  | [] => some []
  | e :: es => match f e with
    | none => none
    | some d => match exAll f es with
      | none => none
      | some ds => if ds.length < 1000 then some (d :: ds) else none
def conDt : Const → Option Dt
  | .int i => some (.int i)
  | .str x => some (.str x)
  | _ => none
def exDtN : Nat → Expr → Option Dt
  | 0, _ => none
  | n + 1, e => match e with
    | .Constant c _ _ => conDt c
    | .Tuple es _ _ => (exAll (exDtN n) es).map Dt.tup
    | _ => none
def tDt (d : Dt) : TE := fun _ H Q => ∀ (v : V) (H' : Hp), Same H H' → IsDt H' d v → Q v H'
def tDts (ds : List Dt) : TA := fun _ H Q => ∀ (us : List V) (H' : Hp), Same H H' → IsDts H' ds us → Q us H'
theorem exAll_len {f : Expr → Option Dt} : ∀ {es : List Expr} {ds : List Dt}, exAll f es = some ds → ds.length ≤ 1000
  | [], ds, h => by rw [exAll] at h; cases h; simp
  | e :: es, ds, h => by
    rw [exAll] at h
    split at h
    · cases h
    · split at h
      · cases h
      · split at h
        · cases h; simp; omega
        · cases h
theorem exDtN_ns : ∀ {n : Nat} {e : Expr} {d : Dt}, exDtN n e = some d → notStar e = true
  | 0, _, _, h => by cases h
  | n + 1, e, d, h => by
    cases e <;> first | rfl | (have h' : (none : Option Dt) = some d := h; cases h')
section
variable {X : Cx}
theorem pa_all {f : Expr → Option Dt} (hf : ∀ e d, f e = some d → PE X e (tDt d)) (hn : ∀ e d, f e = some d → notStar e = true) : ∀ (es : List Expr) (ds : List Dt), exAll f es = some ds → PA X es (tDts ds)
  | [], ds, h => by
    rw [exAll] at h; cases h
    intro pos pins s σ H Q I q
    exact pa_nil pos pins s σ H Q I (q [] H (.refl _) .nil)
  | e :: es, ds, h => by
    rw [exAll] at h
    cases h1 : f e with
    | none => rw [h1] at h; cases h
    | some d =>
      cases h2 : exAll f es with
      | none => rw [h1, h2] at h; cases h
      | some dr =>
        rw [h1, h2] at h
        dsimp only at h
        split at h
        · cases h
          intro pos pins s σ H Q I q
          exact qa_cons (hf e d h1) (pa_all hf hn es dr h2) (hn e d h1) pos pins s σ H Q I fun v H1 s1 iv us H2 s2 ius => q _ _ (s1.trans s2) (.cons (IsDt.mono s2.tups iv) ius)
        · cases h
theorem pe_dt : ∀ (n : Nat) (e : Expr) (d : Dt), exDtN n e = some d → PE X e (tDt d)
  | 0, _, _, h => by cases h
  | n + 1, e, d, h => by
    cases e
    case Constant c k p =>
      cases c
      case int i =>
        have h' : some (Dt.int i) = some d := h
        cases h'
        intro pins s σ H Q I q
        exact pe_int pins s σ H Q I (q _ _ (.refl _) (by rw [IsDt]))
      case str x =>
        have h' : some (Dt.str x) = some d := h
        cases h'
        intro pins s σ H Q I q
        exact pe_str pins s σ H Q I (q _ _ (.refl _) (by rw [IsDt]))
      all_goals (have h' : (none : Option Dt) = some d := h; cases h')
    case Tuple es k p =>
      have h' : (exAll (exDtN n) es).map Dt.tup = some d := h
      obtain ⟨ds, hds, e⟩ := Option.map_eq_some_iff.mp h'
      subst e
      intro pins s σ H Q I q
      refine pe_tup (pa_all (pe_dt n) (fun _ _ => exDtN_ns) es ds hds) pins s σ H Q I fun us H' s' ius => ⟨?_, fun p hp => q _ _ (s'.trans fun b o z => by rw [upd_ne (ne_of_none z hp)]; exact z) (isDt_new hp ius)⟩
      rw [ius.length]
      exact Nat.le_trans (exAll_len hds) (by decide)
    all_goals (have h' : (none : Option Dt) = some d := h; cases h')
theorem we_call0 {CX : CXT} {k : Nat} {f : Addr} {fd : FuncData} {ps : List Str} {sp : Sp} {dvs : List V} {ds : List Value} {E : XK} {x : Str} {p pos : Pos} (F : FnOk X.prog X.w X.K X.mg X.base CX k f fd ps sp) (hr : Room k X.A) (hg : Gl X x) (hm : X.mg x = some (.ref f)) (hk : PySem.W.keepIn X.K (.ref f) = true) (hb : Binds X.K fd ps ds) (hd : Vals dvs ds) (hx : Passes CX X E)
    (hdb : (x == ("__debug__" : Str)) = false := by decide) : Hd (PE X (.Call (.Name x p) [] [] pos) (tCall sp dvs E tNil)) := ⟨pe_call0 F hr hg hm hk hb hd hx hdb⟩
theorem we_dt {e : Expr} {d : Dt} (h : exDtN 12 e = some d) : Hd (PE X e (tDt d)) := ⟨pe_dt 12 e d h⟩
end
end L2
end
section
set_option linter.all false
namespace Kn
open PySem
/-! the text of a value, by its signs; unlike values have unlike texts -/
def isNum (c : Nat) : Bool := c == 45 || (decide (48 ≤ c) && decide (c ≤ 57))
def isLet (c : Nat) : Bool := decide (97 ≤ c) && decide (c ≤ 122)
def stop (r : List Nat) : Prop := ∀ c t, r = c :: t → isNum c = false ∧ isLet c = false
/-- the signs of a number -/
def dg (i : Int) : List Nat := (Str.ofString (toString i)).cps.toList
def cn (c : Int) : List Nat := if c = 1 then [] else 32 :: 42 :: 32 :: dg c
def sepB (b : Bool) : List Nat := if b = true then [] else [44, 32]
mutual
def enc : Val → List Nat
  | .num i => dg i
  | .word s => 39 :: s.cps.toList
  | .row ps => 60 :: encR true ps
  | .bag ps => 123 :: encB true ps
def encR : Bool → List (Str × Val) → List Nat
  | _, [] => [62]
  | b, p :: ps => sepB b ++ (p.1.cps.toList ++ (58 :: 32 :: (enc p.2 ++ encR false ps)))
def encB : Bool → List (Val × Int) → List Nat
  | _, [] => [125]
  | b, p :: ps => sepB b ++ (enc p.1 ++ (cn p.2 ++ encB false ps))
end
def lets (s : Str) : Prop := ∀ c ∈ s.cps.toList, isLet c = true
mutual
def Gd : Val → Prop
  | .num _ => True
  | .word s => lets s
  | .row ps => GdR ps
  | .bag ps => GdB ps
def GdR : List (Str × Val) → Prop
  | [] => True
  | p :: ps => lets p.1 ∧ Gd p.2 ∧ GdR ps
def GdB : List (Val × Int) → Prop
  | [] => True
  | p :: ps => Gd p.1 ∧ GdB ps
end

end Kn
end
section
set_option Elab.async false
set_option linter.all false
namespace Kn
open PySem L2
mutual
def dat : Val → Dt
  | .num i => .tup [.str "num", .int i]
  | .word s => .tup [.str "word", .str s]
  | .row ps => .tup [.str "row", .tup (datR ps)]
  | .bag ps => .tup [.str "bag", .tup (datB ps)]
def datR : List (Str × Val) → List Dt
  | [] => []
  | p :: ps => .tup [.str p.1, dat p.2] :: datR ps
def datB : List (Val × Int) → List Dt
  | [] => []
  | p :: ps => .tup [dat p.1, .int p.2] :: datB ps
end

/-- bounds: at most b parts a knot, d levels, short texts -/
def Bd (b : Nat) : Nat → Val → Prop
  | _, .num _ => True
  | _, .word s => s.length ≤ 100
  | 0, .row ps => ps = []
  | 0, .bag ps => ps = []
  | d + 1, .row ps => ps.length ≤ b ∧ ∀ p ∈ ps, p.1.length ≤ 100 ∧ Bd b d p.2
  | d + 1, .bag ps => ps.length ≤ b ∧ ∀ p ∈ ps, Bd b d p.1
theorem Bd.mono {b c : Nat} (h : b ≤ c) : ∀ {d : Nat} {x : Val}, Bd b d x → Bd c d x
  | 0, .num _, _ => by simp only [Bd]
  | _ + 1, .num _, _ => by simp only [Bd]
  | 0, .word s, q => by simp only [Bd] at q ⊢; exact q
  | _ + 1, .word s, q => by simp only [Bd] at q ⊢; exact q
  | 0, .row ps, q => by simp only [Bd] at q ⊢; exact q
  | 0, .bag ps, q => by simp only [Bd] at q ⊢; exact q
  | d + 1, .row ps, q => by simp only [Bd] at q ⊢; exact ⟨Nat.le_trans q.1 h, fun p hp => ⟨(q.2 p hp).1, Bd.mono h (q.2 p hp).2⟩⟩
  | d + 1, .bag ps, q => by simp only [Bd] at q ⊢; exact ⟨Nat.le_trans q.1 h, fun p hp => Bd.mono h (q.2 p hp)⟩
theorem Bd.up {b : Nat} : ∀ {d : Nat} {x : Val}, Bd b d x → Bd b (d + 1) x
  | 0, .num _, _ => by simp only [Bd]
  | _ + 1, .num _, _ => by simp only [Bd]
  | 0, .word s, q => by simp only [Bd] at q ⊢; exact q
  | _ + 1, .word s, q => by simp only [Bd] at q ⊢; exact q
  | 0, .row ps, q => by simp only [Bd] at q; subst q; simp [Bd]
  | 0, .bag ps, q => by simp only [Bd] at q; subst q; simp [Bd]
  | d + 1, .row ps, q => by
    simp only [Bd] at q
    rw [Bd]
    exact ⟨q.1, fun p hp => ⟨(q.2 p hp).1, Bd.up (q.2 p hp).2⟩⟩
  | d + 1, .bag ps, q => by
    simp only [Bd] at q
    rw [Bd]
    exact ⟨q.1, fun p hp => Bd.up (q.2 p hp)⟩
theorem depL_le {ds : List Dt} {n : Nat} (h : ∀ d ∈ ds, d.dep ≤ n) : depL ds ≤ n := by
  induction ds with
  | nil => rw [depL]; exact Nat.zero_le _
  | cons d ds ih =>
    rw [depL]
    have h1 := h d List.mem_cons_self
    have h2 := ih fun e he => h e (List.mem_cons_of_mem _ he)
    omega
def IsVal (H : Hp) (x : Val) (v : V) : Prop := IsDt H (dat x) v
end Kn
end
section
set_option Elab.async false
set_option linter.all false
namespace Kn
open PySem L2
/-- a kind of the document, as a tree -/
inductive Kd where
  | num
  | word
  | row (ps : List (Str × Kd))
  | bag (k : Kd)
mutual
def kdat : Kd → Dt
  | .num => .tup [.str "num"]
  | .word => .tup [.str "word"]
  | .row ps => .tup [.str "row", .tup (kdatR ps)]
  | .bag k => .tup [.str "bag", kdat k]
def kdatR : List (Str × Kd) → List Dt
  | [] => []
  | p :: ps => .tup [.str p.1, kdat p.2] :: kdatR ps
end
mutual
def kenc : Kd → List Nat
  | .num => [110, 117, 109]
  | .word => [119, 111, 114, 100]
  | .row ps => 60 :: kencR true ps
  | .bag k => 123 :: (kenc k ++ [125])
def kencR : Bool → List (Str × Kd) → List Nat
  | _, [] => [62]
  | b, p :: ps => sepB b ++ (p.1.cps.toList ++ (58 :: 32 :: (kenc p.2 ++ kencR false ps)))
end
mutual
def ksz : Kd → Nat
  | .num => 1
  | .word => 1
  | .row ps => 1 + kszR ps
  | .bag k => 1 + ksz k
def kszR : List (Str × Kd) → Nat
  | [] => 0
  | p :: ps => ksz p.2 + kszR ps
end
mutual
def hasBag : Kd → Bool
  | .num => false
  | .word => false
  | .row ps => hasBagR ps
  | .bag _ => true
def hasBagR : List (Str × Kd) → Bool
  | [] => false
  | p :: ps => hasBag p.2 || hasBagR ps
end
/-- bounds: d levels, short names of letters -/
def KB : Nat → Kd → Prop
  | _, .num => True
  | _, .word => True
  | 0, .row ps => ps = []
  | 0, .bag _ => False
  | d + 1, .row ps => ∀ p ∈ ps, lets p.1 ∧ p.1.length ≤ 9 ∧ KB d p.2
  | d + 1, .bag k => KB d k
theorem KB.up : ∀ {d : Nat} {x : Kd}, KB d x → KB (d + 1) x
  | 0, .num, _ => by simp only [KB]
  | _ + 1, .num, _ => by simp only [KB]
  | 0, .word, _ => by simp only [KB]
  | _ + 1, .word, _ => by simp only [KB]
  | 0, .row ps, q => by simp only [KB] at q; subst q; simp [KB]
  | 0, .bag k, q => by simp only [KB] at q
  | d + 1, .row ps, q => by
    simp only [KB] at q
    rw [KB]
    exact fun p hp => ⟨(q p hp).1, (q p hp).2.1, KB.up (q p hp).2.2⟩
  | d + 1, .bag k, q => by
    simp only [KB] at q
    rw [KB]
    exact KB.up q
theorem KB.mono {d e : Nat} {x : Kd} (h : d ≤ e) (q : KB d x) : KB e x := by
  induction h with
  | refl => exact q
  | step _ ih => exact ih.up
/-! unlike kinds have unlike texts -/
mutual
def GdK : Kd → Prop
  | .num => True
  | .word => True
  | .row ps => GdKR ps
  | .bag k => GdK k
def GdKR : List (Str × Kd) → Prop
  | [] => True
  | p :: ps => lets p.1 ∧ GdK p.2 ∧ GdKR ps
end
theorem GdKR_mem {ps : List (Str × Kd)} : GdKR ps ↔ ∀ p ∈ ps, lets p.1 ∧ GdK p.2 := by
  induction ps with
  | nil => simp [GdKR]
  | cons p ps ih => rw [GdKR, ih]; simp [and_assoc]
theorem KB.gd : ∀ {d : Nat} {x : Kd}, KB d x → GdK x
  | d, .num, _ => by simp only [GdK]
  | d, .word, _ => by simp only [GdK]
  | 0, .row ps, q => by simp only [KB] at q; subst q; simp only [GdK, GdKR]
  | 0, .bag k, q => by simp only [KB] at q
  | d + 1, .row ps, q => by
    simp only [KB] at q
    rw [GdK, GdKR_mem]
    exact fun p hp => ⟨(q p hp).1, KB.gd (q p hp).2.2⟩
  | d + 1, .bag k, q => by
    simp only [KB] at q
    rw [GdK]
    exact KB.gd q
def kRank : Kd → Nat
  | .num => 110
  | .word => 119
  | .row _ => 60
  | .bag _ => 123

/-! ### pieces of a text: signs, and what is unfolded further -/
inductive Pc (α : Type) where
  | t (s : Str)
  | v (x : α)
def Pc.fl {α : Type} (f : α → List Str) : Pc α → List Str
  | .t s => [s]
  | .v y => f y
def Pc.sz {α : Type} (f : α → Nat) : Pc α → Nat
  | .t _ => 0
  | .v y => f y
/-- how things of a type are unfolded to texts -/
structure Unf (α : Type) where
  dat : α → Dt
  pcs : α → List (Pc α)
  fl : α → List Str
  sz : α → Nat
  ok : α → Prop
  tup : ∀ x, ∃ ds, dat x = .tup ds
  fl_eq : ∀ x, fl x = (pcs x).flatMap (Pc.fl fl)
  sz_lt : ∀ x, ((pcs x).map (Pc.sz sz)).sum < sz x
  ne : ∀ x, 1 ≤ (fl x).length
  sub : ∀ x y, ok x → Pc.v y ∈ pcs x → ok y
def Unf.pd {α : Type} (U : Unf α) : Pc α → Dt
  | .t s => .str s
  | .v x => U.dat x
def Unf.pf {α : Type} (U : Unf α) : Pc α → List Str
  | .t s => [s]
  | .v x => U.fl x
def Unf.pm {α : Type} (U : Unf α) : Pc α → Nat
  | .t _ => 1
  | .v x => (U.fl x).length + U.sz x
def Unf.flP {α : Type} (U : Unf α) (ps : List (Pc α)) : List Str := ps.flatMap U.pf
def Unf.ms {α : Type} (U : Unf α) (ps : List (Pc α)) : Nat := (ps.map U.pm).sum
/-! ### the texts of kinds -/
mutual
def kfl : Kd → List Str
  | .num => [Str.ofString "num"]
  | .word => [Str.ofString "word"]
  | .row ps => Str.ofString "<" :: (kflR true ps ++ [Str.ofString ">"])
  | .bag k => Str.ofString "{" :: (kfl k ++ [Str.ofString "}"])
def kflR : Bool → List (Str × Kd) → List Str
  | _, [] => []
  | b, p :: ps => (if b = true then [] else [Str.ofString ", "]) ++ ((p.1 ++ Str.ofString ": ") :: (kfl p.2 ++ kflR false ps))
end
def kpcR : Bool → List (Str × Kd) → List (Pc Kd)
  | _, [] => []
  | b, p :: ps => (if b = true then [] else [.t ", "]) ++ (.t (p.1 ++ ": ") :: .v p.2 :: kpcR false ps)
def kpcs : Kd → List (Pc Kd)
  | .num => [.t "num"]
  | .word => [.t "word"]
  | .row ps => .t "<" :: (kpcR true ps ++ [.t ">"])
  | .bag k => [.t "{", .v k, .t "}"]
theorem kflR_eq (b : Bool) (ps : List (Str × Kd)) : kflR b ps = (kpcR b ps).flatMap (Pc.fl kfl) := by
  induction ps generalizing b with
  | nil => rw [kflR, kpcR]; rfl
  | cons p ps ih => rw [kflR, kpcR, ih]; cases b <;> simp [Pc.fl]
theorem kszR_eq (b : Bool) (ps : List (Str × Kd)) : ((kpcR b ps).map (Pc.sz ksz)).sum = kszR ps := by
  induction ps generalizing b with
  | nil => rw [kszR, kpcR]; rfl
  | cons p ps ih => rw [kszR, kpcR, ← ih false]; cases b <;> simp [Pc.sz]
theorem mem_kpcR {b : Bool} {ps : List (Str × Kd)} {y : Kd} (h : Pc.v y ∈ kpcR b ps) : ∃ p ∈ ps, p.2 = y := by
  induction ps generalizing b with
  | nil => rw [kpcR] at h; cases h
  | cons p ps ih =>
    rw [kpcR] at h
    rcases List.mem_append.mp h with h | h
    · cases b <;> simp at h
    · rcases List.mem_cons.mp h with h | h
      · cases h
      rcases List.mem_cons.mp h with h | h
      · injection h with h; exact ⟨p, List.mem_cons_self, h.symm⟩
      · obtain ⟨q, hq, e⟩ := ih h
        exact ⟨q, List.mem_cons_of_mem _ hq, e⟩
def KOk (x : Kd) : Prop := ∃ d, KB d x
def UK : Unf Kd where
  dat := kdat
  pcs := kpcs
  fl := kfl
  sz := ksz
  ok := KOk
  tup := fun x => by cases x <;> (rw [kdat]; exact ⟨_, rfl⟩)
  fl_eq := fun x => by
    cases x with
    | num => rw [kfl, kpcs]; rfl
    | word => rw [kfl, kpcs]; rfl
    | row ps => rw [kfl, kpcs, kflR_eq]; simp [Pc.fl]
    | bag k => rw [kfl, kpcs]; simp [Pc.fl]
  sz_lt := fun x => by
    cases x with
    | num => rw [ksz, kpcs]; simp [Pc.sz]
    | word => rw [ksz, kpcs]; simp [Pc.sz]
    | row ps => rw [ksz, kpcs]; simp only [List.map_cons, List.sum_cons, List.map_append, List.sum_append, List.map_nil, List.sum_nil]; rw [kszR_eq]; show 0 + (_ + (0 + 0)) < _; omega
    | bag k => rw [ksz, kpcs]; simp [Pc.sz]
  ne := fun x => by cases x <;> (rw [kfl]; simp)
  sub := fun x y hx hy => by
    obtain ⟨d, hd⟩ := hx
    cases x with
    | num => rw [kpcs] at hy; simp at hy
    | word => rw [kpcs] at hy; simp at hy
    | row ps =>
      rw [kpcs] at hy
      have hy' : Pc.v y ∈ kpcR true ps := by simpa using hy
      obtain ⟨p, hp, rfl⟩ := mem_kpcR hy'
      cases d with
      | zero => simp only [KB] at hd; subst hd; cases hp
      | succ d => simp only [KB] at hd; exact ⟨d, (hd p hp).2.2⟩
    | bag k =>
      rw [kpcs] at hy
      have : y = k := by simpa using hy
      subst this
      cases d with
      | zero => simp only [KB] at hd
      | succ d => simp only [KB] at hd; exact ⟨d, hd⟩
/-- the signs of texts, one behind the other -/
def cod (l : List Str) : List Nat := l.flatMap fun s => s.cps.toList


end Kn
end
section
set_option Elab.async false
set_option linter.all false
namespace Kn
open PySem L2
/-- what lies on the pile: an item of a key, or a value still to be unfolded -/
inductive Pt where
  | k (e : KE)
  | v (x : Val)
def Pt.key : Pt → List KE
  | .k e => [e]
  | .v x => Kn.key x
def flatK (ps : List Pt) : List KE := ps.flatMap Pt.key
def ptsR : List (Str × Val) → List Pt
  | [] => [.k (.i 0)]
  | p :: ps => .k (.i 1) :: .k (.s p.1) :: .v p.2 :: ptsR ps
def ptsB : List (Val × Int) → List Pt
  | [] => [.k (.i 0)]
  | p :: ps => .k (.i 1) :: .v p.1 :: .k (.i p.2) :: ptsB ps
def pts : Val → List Pt
  | .num i => [.k (.i 0), .k (.i i)]
  | .word s => [.k (.i 1), .k (.s s)]
  | .row ps => .k (.i 2) :: ptsR ps
  | .bag ps => .k (.i 3) :: ptsB ps
def Pt.ms : Pt → Nat
  | .k _ => 1
  | .v x => 2 * (Kn.key x).length
def msL (ps : List Pt) : Nat := (ps.map Pt.ms).sum
def IsPt (H : Hp) : Pt → V → Prop
  | .k e, v => v = kv e
  | .v x, v => IsVal H x v
def IsPts (H : Hp) : List Pt → List V → Prop
  | [], us => us = []
  | p :: ps, us => ∃ y ys, us = y :: ys ∧ IsPt H p y ∧ IsPts H ps ys
theorem IsPt.mono {H H' : Hp} (t : Tups H H') {p : Pt} {v : V} (h : IsPt H p v) : IsPt H' p v := by
  cases p with
  | k e => exact h
  | v x => exact IsDt.mono t h
theorem IsPts.mono {H H' : Hp} (t : Tups H H') : ∀ {ps : List Pt} {us : List V}, IsPts H ps us → IsPts H' ps us
  | [], us, h => h
  | p :: ps, us, h => let ⟨y, ys, e, h1, h2⟩ := h; ⟨y, ys, e, h1.mono t, h2.mono t⟩
theorem IsPts.append {H : Hp} : ∀ {ps qs : List Pt} {us vs : List V}, IsPts H ps us → IsPts H qs vs → IsPts H (ps ++ qs) (us ++ vs)
  | [], qs, us, vs, h, h' => by rw [show us = [] from h]; exact h'
  | p :: ps, qs, us, vs, h, h' => by
    obtain ⟨y, ys, rfl, h1, h2⟩ := h
    exact ⟨y, ys ++ vs, rfl, h1, h2.append h'⟩
theorem IsPts.reverse {H : Hp} : ∀ {ps : List Pt} {us : List V}, IsPts H ps us → IsPts H ps.reverse us.reverse
  | [], us, h => by rw [show us = [] from h]; rfl
  | p :: ps, us, h => by
    obtain ⟨y, ys, rfl, h1, h2⟩ := h
    rw [List.reverse_cons, List.reverse_cons]
    exact h2.reverse.append ⟨y, [], rfl, h1, rfl⟩
theorem IsPts.length {H : Hp} : ∀ {ps : List Pt} {us : List V}, IsPts H ps us → us.length = ps.length
  | [], us, h => by rw [show us = [] from h]; rfl
  | p :: ps, us, h => by
    obtain ⟨y, ys, rfl, h1, h2⟩ := h
    simp [h2.length]
theorem IsPts.last {H : Hp} {ps : List Pt} {p : Pt} {us : List V} (h : IsPts H (ps ++ [p]) us) : ∃ ys y, us = ys ++ [y] ∧ IsPts H ps ys ∧ IsPt H p y := by
  induction ps generalizing us with
  | nil =>
    obtain ⟨y, ys, rfl, h1, h2⟩ := h
    rw [show ys = [] from h2]
    exact ⟨[], y, rfl, rfl, h1⟩
  | cons q ps ih =>
    obtain ⟨y, ys, rfl, h1, h2⟩ := h
    obtain ⟨zs, z, rfl, a, b⟩ := ih h2
    exact ⟨y :: zs, z, rfl, ⟨y, zs, rfl, h1, a⟩, b⟩
def rankS (s : Str) : Option Int := if s = "num" then some 0 else if s = "word" then some 1 else if s = "row" then some 2 else if s = "bag" then some 3 else none
/-- the table of ranks at a -/
def rRank (a : Addr) : R2 := fun x y H Q => ∃ s i, x = .ref a ∧ y = .str s ∧ rankS s = some i ∧ Q (.int i) H
/-- the first word and what stands behind it -/
def tagS : Val → Str
  | .num _ => "num"
  | .word _ => "word"
  | .row _ => "row"
  | .bag _ => "bag"
def restD : Val → Dt
  | .num i => .int i
  | .word s => .str s
  | .row ps => .tup (datR ps)
  | .bag ps => .tup (datB ps)
theorem dat_two (x : Val) : dat x = .tup [.str (tagS x), restD x] := by cases x <;> rw [dat] <;> rfl
theorem IsVal.two {H : Hp} {x : Val} {v : V} (h : IsVal H x v) : ∃ a w, v = .ref a ∧ H a = some (.tup [.str (tagS x), w]) ∧ IsDt H (restD x) w := by
  unfold IsVal at h
  rw [dat_two, IsDt] at h
  obtain ⟨a, xs, e, h1, h2⟩ := h
  rw [IsDts] at h2
  obtain ⟨y, ys, rfl, h3, h4⟩ := h2
  rw [IsDts] at h4
  obtain ⟨w, zs, rfl, h5, h6⟩ := h4
  rw [IsDts] at h6
  subst h6
  rw [IsDt] at h3
  subst h3
  exact ⟨a, w, e, h1, h5⟩
end Kn
end
section
set_option Elab.async false
set_option linter.all false
namespace Kn
open PySem L2
/-- a pair of a row, of a bag -/
inductive Pr where
  | r (f : Str) (x : Val)
  | b (x : Val) (n : Int)
def Pr.dat : Pr → Dt
  | .r f x => .tup [.str f, Kn.dat x]
  | .b x n => .tup [Kn.dat x, .int n]
def Pr.tag : Pr → Str
  | .r _ _ => "row"
  | .b _ _ => "bag"
/-- unlike pairs: which is ahead -/
noncomputable def Pr.lt : Pr → Pr → Bool
  | .r f x, .r g y => if f = g then ltV x y else sLt f g
  | .b x n, .b y m => if x = y then decide (n < m) else ltV x y
  | _, _ => false
end Kn
end
section
set_option Elab.async false
set_option linter.all false
namespace Kn
open PySem L2
/-! ### values: their knots, bounds of numbers and counts, the length of their texts -/
mutual
def vsz : Val → Nat
  | .num _ => 1
  | .word _ => 1
  | .row ps => 1 + vszR ps
  | .bag ps => 1 + vszB ps
def vszR : List (Str × Val) → Nat
  | [] => 0
  | p :: ps => vsz p.2 + vszR ps
def vszB : List (Val × Int) → Nat
  | [] => 0
  | p :: ps => vsz p.1 + vszB ps
end
mutual
/-- numbers below N, counts below C, short names of letters -/
def Gv (N C : Nat) : Val → Prop
  | .num i => i.natAbs < N
  | .word s => lets s ∧ s.length ≤ 9
  | .row ps => GvR N C ps
  | .bag ps => GvB N C ps
def GvR (N C : Nat) : List (Str × Val) → Prop
  | [] => True
  | p :: ps => (lets p.1 ∧ p.1.length ≤ 9 ∧ Gv N C p.2) ∧ GvR N C ps
def GvB (N C : Nat) : List (Val × Int) → Prop
  | [] => True
  | p :: ps => (Gv N C p.1 ∧ p.2.natAbs < C) ∧ GvB N C ps
end
theorem GvR_mem {N C : Nat} {ps : List (Str × Val)} : GvR N C ps ↔ ∀ p ∈ ps, lets p.1 ∧ p.1.length ≤ 9 ∧ Gv N C p.2 := by
  induction ps with
  | nil => simp [GvR]
  | cons p ps ih => rw [GvR, ih]; simp
theorem GvB_mem {N C : Nat} {ps : List (Val × Int)} : GvB N C ps ↔ ∀ p ∈ ps, Gv N C p.1 ∧ p.2.natAbs < C := by
  induction ps with
  | nil => simp [GvB]
  | cons p ps ih => rw [GvB, ih]; simp
mutual
theorem Gv.mono {N C N' C' : Nat} (hN : N ≤ N') (hC : C ≤ C') : ∀ {x : Val}, Gv N C x → Gv N' C' x
  | .num i, h => by rw [Gv] at *; omega
  | .word s, h => by rw [Gv] at *; exact h
  | .row ps, h => by rw [Gv] at *; exact GvR.mono hN hC h
  | .bag ps, h => by rw [Gv] at *; exact GvB.mono hN hC h
theorem GvR.mono {N C N' C' : Nat} (hN : N ≤ N') (hC : C ≤ C') : ∀ {ps : List (Str × Val)}, GvR N C ps → GvR N' C' ps
  | [], _ => by rw [GvR]; trivial
  | p :: ps, h => by rw [GvR] at *; exact ⟨⟨h.1.1, h.1.2.1, Gv.mono hN hC h.1.2.2⟩, GvR.mono hN hC h.2⟩
theorem GvB.mono {N C N' C' : Nat} (hN : N ≤ N') (hC : C ≤ C') : ∀ {ps : List (Val × Int)}, GvB N C ps → GvB N' C' ps
  | [], _ => by rw [GvB]; trivial
  | p :: ps, h => by rw [GvB] at *; exact ⟨⟨Gv.mono hN hC h.1.1, by omega⟩, GvB.mono hN hC h.2⟩
end
mutual
theorem Gv.gd {N C : Nat} : ∀ {x : Val}, Gv N C x → Gd x
  | .num i, h => by rw [Gd]; trivial
  | .word s, h => by rw [Gv] at h; rw [Gd]; exact h.1
  | .row ps, h => by rw [Gv] at h; rw [Gd]; exact GvR.gd h
  | .bag ps, h => by rw [Gv] at h; rw [Gd]; exact GvB.gd h
theorem GvR.gd {N C : Nat} : ∀ {ps : List (Str × Val)}, GvR N C ps → GdR ps
  | [], _ => by rw [GdR]; trivial
  | p :: ps, h => by rw [GvR] at h; rw [GdR]; exact ⟨h.1.1, Gv.gd h.1.2.2, GvR.gd h.2⟩
theorem GvB.gd {N C : Nat} : ∀ {ps : List (Val × Int)}, GvB N C ps → GdB ps
  | [], _ => by rw [GdB]; trivial
  | p :: ps, h => by rw [GvB] at h; rw [GdB]; exact ⟨Gv.gd h.1.1, GvB.gd h.2⟩
end

/-! ### the pieces of a value's text -/
def cnS (c : Int) : Str := if c = 1 then Str.ofString "" else Str.ofString " * " ++ Str.ofString (toString c)
mutual
def vfl : Val → List Str
  | .num i => [Str.ofString (toString i)]
  | .word s => [Str.ofString "'" ++ s]
  | .row ps => Str.ofString "<" :: (vflR true ps ++ [Str.ofString ">"])
  | .bag ps => Str.ofString "{" :: (vflB true ps ++ [Str.ofString "}"])
def vflR : Bool → List (Str × Val) → List Str
  | _, [] => []
  | b, p :: ps => (if b = true then [] else [Str.ofString ", "]) ++ ((p.1 ++ Str.ofString ": ") :: (vfl p.2 ++ vflR false ps))
def vflB : Bool → List (Val × Int) → List Str
  | _, [] => []
  | b, p :: ps => (if b = true then [] else [Str.ofString ", "]) ++ (vfl p.1 ++ (cnS p.2 :: vflB false ps))
end
def vpcR : Bool → List (Str × Val) → List (Pc Val)
  | _, [] => []
  | b, p :: ps => (if b = true then [] else [.t ", "]) ++ (.t (p.1 ++ Str.ofString ": ") :: .v p.2 :: vpcR false ps)
def vpcB : Bool → List (Val × Int) → List (Pc Val)
  | _, [] => []
  | b, p :: ps => (if b = true then [] else [.t ", "]) ++ (.v p.1 :: .t (cnS p.2) :: vpcB false ps)
def vpcs : Val → List (Pc Val)
  | .num i => [.t (Str.ofString (toString i))]
  | .word s => [.t (Str.ofString "'" ++ s)]
  | .row ps => .t "<" :: (vpcR true ps ++ [.t ">"])
  | .bag ps => .t "{" :: (vpcB true ps ++ [.t "}"])
theorem vflR_eq (b : Bool) (ps : List (Str × Val)) : vflR b ps = (vpcR b ps).flatMap (Pc.fl vfl) := by
  induction ps generalizing b with
  | nil => rw [vflR, vpcR]; rfl
  | cons p ps ih => rw [vflR, vpcR, ih]; cases b <;> simp [Pc.fl]
theorem vflB_eq (b : Bool) (ps : List (Val × Int)) : vflB b ps = (vpcB b ps).flatMap (Pc.fl vfl) := by
  induction ps generalizing b with
  | nil => rw [vflB, vpcB]; rfl
  | cons p ps ih => rw [vflB, vpcB, ih]; cases b <;> simp [Pc.fl]
theorem vszR_eq (b : Bool) (ps : List (Str × Val)) : ((vpcR b ps).map (Pc.sz vsz)).sum = vszR ps := by
  induction ps generalizing b with
  | nil => rw [vszR, vpcR]; rfl
  | cons p ps ih => rw [vszR, vpcR, ← ih false]; cases b <;> simp [Pc.sz]
theorem vszB_eq (b : Bool) (ps : List (Val × Int)) : ((vpcB b ps).map (Pc.sz vsz)).sum = vszB ps := by
  induction ps generalizing b with
  | nil => rw [vszB, vpcB]; rfl
  | cons p ps ih => rw [vszB, vpcB, ← ih false]; cases b <;> simp [Pc.sz]
theorem mem_vpcR {b : Bool} {ps : List (Str × Val)} {y : Val} (h : Pc.v y ∈ vpcR b ps) : ∃ p ∈ ps, p.2 = y := by
  induction ps generalizing b with
  | nil => rw [vpcR] at h; cases h
  | cons p ps ih =>
    rw [vpcR] at h
    rcases List.mem_append.mp h with h | h
    · cases b <;> simp at h
    · rcases List.mem_cons.mp h with h | h
      · cases h
      rcases List.mem_cons.mp h with h | h
      · injection h with h; exact ⟨p, List.mem_cons_self, h.symm⟩
      · obtain ⟨q, hq, e⟩ := ih h
        exact ⟨q, List.mem_cons_of_mem _ hq, e⟩
theorem mem_vpcB {b : Bool} {ps : List (Val × Int)} {y : Val} (h : Pc.v y ∈ vpcB b ps) : ∃ p ∈ ps, p.1 = y := by
  induction ps generalizing b with
  | nil => rw [vpcB] at h; cases h
  | cons p ps ih =>
    rw [vpcB] at h
    rcases List.mem_append.mp h with h | h
    · cases b <;> simp at h
    · rcases List.mem_cons.mp h with h | h
      · injection h with h; exact ⟨p, List.mem_cons_self, h.symm⟩
      rcases List.mem_cons.mp h with h | h
      · cases h
      · obtain ⟨q, hq, e⟩ := ih h
        exact ⟨q, List.mem_cons_of_mem _ hq, e⟩
def UV : Unf Val where
  dat := dat
  pcs := vpcs
  fl := vfl
  sz := vsz
  ok := Gv (10 ^ 34) (10 ^ 34)
  tup := fun x => by cases x <;> (rw [dat]; exact ⟨_, rfl⟩)
  fl_eq := fun x => by
    cases x with
    | num i => rw [vfl, vpcs]; rfl
    | word s => rw [vfl, vpcs]; rfl
    | row ps => rw [vfl, vpcs, vflR_eq]; simp [Pc.fl]
    | bag ps => rw [vfl, vpcs, vflB_eq]; simp [Pc.fl]
  sz_lt := fun x => by
    cases x with
    | num i => rw [vsz, vpcs]; simp [Pc.sz]
    | word s => rw [vsz, vpcs]; simp [Pc.sz]
    | row ps => rw [vsz, vpcs]; simp only [List.map_cons, List.sum_cons, List.map_append, List.sum_append, List.map_nil, List.sum_nil]; rw [vszR_eq]; show 0 + (_ + (0 + 0)) < _; omega
    | bag ps => rw [vsz, vpcs]; simp only [List.map_cons, List.sum_cons, List.map_append, List.sum_append, List.map_nil, List.sum_nil]; rw [vszB_eq]; show 0 + (_ + (0 + 0)) < _; omega
  ne := fun x => by cases x <;> (rw [vfl]; simp)
  sub := fun x y hx hy => by
    cases x with
    | num i => rw [vpcs] at hy; simp at hy
    | word s => rw [vpcs] at hy; simp at hy
    | row ps =>
      rw [vpcs] at hy
      have hy' : Pc.v y ∈ vpcR true ps := by simpa using hy
      obtain ⟨p, hp, rfl⟩ := mem_vpcR hy'
      rw [Gv, GvR_mem] at hx
      exact (hx p hp).2.2
    | bag ps =>
      rw [vpcs] at hy
      have hy' : Pc.v y ∈ vpcB true ps := by simpa using hy
      obtain ⟨p, hp, rfl⟩ := mem_vpcB hy'
      rw [Gv, GvB_mem] at hx
      exact (hx p hp).1


end Kn
end
section
set_option Elab.async false
set_option linter.all false
namespace Kn
open PySem L2
/-! ### questions, claims and kinds as trees -/
inductive At where
  | int (i : Int)
  | txt (s : Str)
inductive Tr where
  | row (ps : List (Str × Tr))
  | node (w : Str) (as : List At) (ps : List Tr)
def atD : At → Dt
  | .int i => .int i
  | .txt s => .str s
def numS (i : Int) : Str := Str.ofString (toString i)
def atS : At → Str
  | .int i => numS i
  | .txt s => s
mutual
def tdat : Tr → Dt
  | .row ps => .tup [.str "row", .tup (tdatR ps)]
  | .node w as ps => .tup (.str w :: (as.map atD ++ tdatL ps))
def tdatR : List (Str × Tr) → List Dt
  | [] => []
  | p :: ps => .tup [.str p.1, tdat p.2] :: tdatR ps
def tdatL : List Tr → List Dt
  | [] => []
  | p :: ps => tdat p :: tdatL ps
end
mutual
def twd : Tr → List Str
  | .row ps => Str.ofString "row" :: numS (ps.length : Int) :: twdR ps
  | .node w as ps => w :: (as.map atS ++ twdL ps)
def twdR : List (Str × Tr) → List Str
  | [] => []
  | p :: ps => p.1 :: (twd p.2 ++ twdR ps)
def twdL : List Tr → List Str
  | [] => []
  | p :: ps => twd p ++ twdL ps
end
mutual
def tsz : Tr → Nat
  | .row ps => 1 + tszR ps
  | .node _ as ps => 1 + as.length + tszL ps
def tszR : List (Str × Tr) → Nat
  | [] => 0
  | p :: ps => 1 + tsz p.2 + tszR ps
def tszL : List Tr → Nat
  | [] => 0
  | p :: ps => tsz p + tszL ps
end
theorem tdatR_map (ps : List (Str × Tr)) : tdatR ps = ps.map fun p => .tup [.str p.1, tdat p.2] := by
  induction ps with
  | nil => rw [tdatR]; rfl
  | cons p ps ih => rw [tdatR, ih]; rfl
theorem tdatL_map (ps : List Tr) : tdatL ps = ps.map tdat := by
  induction ps with
  | nil => rw [tdatL]; rfl
  | cons p ps ih => rw [tdatL, ih]; rfl
theorem twdR_map (ps : List (Str × Tr)) : twdR ps = ps.flatMap fun p => p.1 :: twd p.2 := by
  induction ps with
  | nil => rw [twdR]; rfl
  | cons p ps ih => rw [twdR, ih]; rfl
theorem twdL_map (ps : List Tr) : twdL ps = ps.flatMap twd := by
  induction ps with
  | nil => rw [twdL]; rfl
  | cons p ps ih => rw [twdL, ih]; rfl
theorem tszR_map (ps : List (Str × Tr)) : tszR ps = (ps.map fun p => 1 + tsz p.2).sum := by
  induction ps with
  | nil => rw [tszR]; rfl
  | cons p ps ih => rw [tszR, ih, List.map_cons, List.sum_cons]
theorem tszL_map (ps : List Tr) : tszL ps = (ps.map tsz).sum := by
  induction ps with
  | nil => rw [tszL]; rfl
  | cons p ps ih => rw [tszL, ih, List.map_cons, List.sum_cons]
def atOk : At → Prop
  | .int i => i.natAbs < 10 ^ 34
  | .txt s => s.length ≤ 10
mutual
def TOk : Tr → Prop
  | .row ps => ps.length ≤ 14 ∧ TOkR ps
  | .node w as ps => w ≠ Str.ofString "row" ∧ w.length ≤ 10 ∧ as.length ≤ 1 ∧ ps.length ≤ 2 ∧ (∀ a ∈ as, atOk a) ∧ TOkL ps
def TOkR : List (Str × Tr) → Prop
  | [] => True
  | p :: ps => (p.1.length ≤ 10 ∧ TOk p.2) ∧ TOkR ps
def TOkL : List Tr → Prop
  | [] => True
  | p :: ps => TOk p ∧ TOkL ps
end
theorem TOkR_mem {ps : List (Str × Tr)} : TOkR ps ↔ ∀ p ∈ ps, p.1.length ≤ 10 ∧ TOk p.2 := by
  induction ps with
  | nil => simp [TOkR]
  | cons p ps ih => rw [TOkR, ih]; simp
theorem TOkL_mem {ps : List Tr} : TOkL ps ↔ ∀ p ∈ ps, TOk p := by
  induction ps with
  | nil => simp [TOkL]
  | cons p ps ih => rw [TOkL, ih]; simp


def tpcs : Tr → List (Pc Tr)
  | .row ps => .t (Str.ofString "row") :: .t (numS (ps.length : Int)) :: ps.flatMap fun p => [.t p.1, .v p.2]
  | .node w as ps => .t w :: (as.map (fun a => .t (atS a)) ++ ps.map .v)
def UT : Unf Tr where
  dat := tdat
  pcs := tpcs
  fl := twd
  sz := tsz
  ok := TOk
  tup := fun x => by cases x <;> (rw [tdat]; exact ⟨_, rfl⟩)
  fl_eq := fun x => by
    cases x with
    | row ps =>
      rw [twd, tpcs, twdR_map, List.flatMap_cons, List.flatMap_cons, List.flatMap_assoc]
      show _ = [Str.ofString "row"] ++ ([numS ps.length] ++ _)
      simp [Pc.fl]
    | node w as ps =>
      rw [twd, tpcs, twdL_map, List.flatMap_cons, List.flatMap_append, List.flatMap_map, List.flatMap_map]
      show _ = [w] ++ ((as.flatMap fun a => [atS a]) ++ ps.flatMap fun t => twd t)
      simp [← List.map_eq_flatMap]
  sz_lt := fun x => by
    cases x with
    | row ps =>
      rw [tsz, tpcs, tszR_map]
      have key : ((ps.flatMap fun p => [Pc.t p.1, Pc.v p.2]).map (Pc.sz tsz)).sum ≤ (ps.map fun p => 1 + tsz p.2).sum := by
        induction ps with
        | nil => simp
        | cons p ps ih =>
          have e1 : (([Pc.t p.1, Pc.v p.2] : List (Pc Tr)).map (Pc.sz tsz)).sum = tsz p.2 := by simp [Pc.sz]
          have e2 : ((p :: ps).map fun p => 1 + tsz p.2).sum = 1 + tsz p.2 + (ps.map fun p => 1 + tsz p.2).sum := by rw [List.map_cons, List.sum_cons]
          rw [List.flatMap_cons, List.map_append, List.sum_append, e1, e2]
          omega
      simp only [List.map_cons, List.sum_cons]
      show 0 + (0 + _) < _
      omega
    | node w as ps =>
      rw [tsz, tpcs, tszL_map]
      have h1 : ((as.map fun a => (Pc.t (atS a) : Pc Tr)).map (Pc.sz tsz)).sum = 0 := by
        induction as with
        | nil => rfl
        | cons a as ih => rw [List.map_cons, List.map_cons, List.sum_cons, ih]; rfl
      have h2 : ((ps.map Pc.v).map (Pc.sz tsz)).sum = (ps.map tsz).sum := by rw [List.map_map]; rfl
      simp only [List.map_cons, List.sum_cons, List.map_append, List.sum_append, h1, h2]
      show 0 + (0 + _) < _
      omega
  ne := fun x => by cases x <;> (rw [twd]; simp)
  sub := fun x y hx hy => by
    cases x with
    | row ps =>
      rw [TOk] at hx
      rw [tpcs] at hy
      simp only [List.mem_cons, reduceCtorEq, false_or] at hy
      obtain ⟨p, hp, e⟩ := List.mem_flatMap.mp hy
      simp at e
      rw [e]
      exact ((TOkR_mem.mp hx.2) p hp).2
    | node w as ps =>
      rw [TOk] at hx
      rw [tpcs] at hy
      simp only [List.mem_cons, reduceCtorEq, false_or] at hy
      rcases List.mem_append.mp hy with h | h
      · obtain ⟨a, _, e⟩ := List.mem_map.mp h
        cases e
      · obtain ⟨t, ht, e⟩ := List.mem_map.mp h
        injection e with e
        rw [← e]
        exact (TOkL_mem.mp hx.2.2.2.2.2) t ht
/-- kinds, d levels -/
inductive KG : Nat → Tr → Prop where
  | num {d : Nat} : KG d (.node (Str.ofString "num") [] [])
  | word {d : Nat} : KG d (.node (Str.ofString "word") [] [])
  | bag {d : Nat} {k : Tr} (h : KG d k) : KG (d + 1) (.node (Str.ofString "bag") [] [k])
  | row {d : Nat} {ps : List (Str × Tr)} (hl : ps.length ≤ 14) (hn : ∀ p ∈ ps, p.1.length ≤ 10) (h : ∀ p ∈ ps, KG d p.2) : KG (d + 1) (.row ps)
theorem KG.up {d : Nat} {t : Tr} (h : KG d t) : KG (d + 1) t := by
  induction h with
  | num => exact .num
  | word => exact .word
  | bag _ ih => exact .bag ih
  | row hl hn _ ih => exact .row hl hn ih
theorem KG.mono {d e : Nat} {t : Tr} (l : d ≤ e) (h : KG d t) : KG e t := by
  induction l with
  | refl => exact h
  | step _ ih => exact ih.up
theorem tok_node {w : Str} {as : List At} {ps : List Tr} (h1 : w ≠ Str.ofString "row") (h2 : w.length ≤ 10) (h3 : as.length ≤ 1) (h4 : ps.length ≤ 2) (h5 : ∀ a ∈ as, atOk a) (h6 : ∀ p ∈ ps, TOk p) : TOk (.node w as ps) := by
  rw [TOk]; exact ⟨h1, h2, h3, h4, h5, TOkL_mem.mpr h6⟩
theorem one_mem {α : Type} {P : α → Prop} {x : α} (h : P x) : ∀ y ∈ [x], P y := fun y hy => by rw [List.mem_singleton.mp hy]; exact h
theorem two_mem {α : Type} {P : α → Prop} {x y : α} (h : P x) (g : P y) : ∀ z ∈ [x, y], P z := fun z hz => by
  rcases List.mem_cons.mp hz with rfl | hz
  · exact h
  · rw [List.mem_singleton.mp hz]; exact g
theorem nil_mem {α : Type} {P : α → Prop} : ∀ y ∈ ([] : List α), P y := fun _ h => nomatch h
theorem KG.ok {d : Nat} {t : Tr} (h : KG d t) : TOk t := by
  induction h with
  | num => exact tok_node (by decide +kernel) (by decide +kernel) (by simp) (by simp) nil_mem nil_mem
  | word => exact tok_node (by decide +kernel) (by decide +kernel) (by simp) (by simp) nil_mem nil_mem
  | bag _ ih => exact tok_node (by decide +kernel) (by decide +kernel) (by simp) (by simp) nil_mem (one_mem ih)
  | row hl hn h ih => rw [TOk]; exact ⟨hl, TOkR_mem.mpr fun p hp => ⟨hn p hp, ih p hp⟩⟩
/-- questions (false) and claims (true), d levels -/
inductive QG : Nat → Bool → Tr → Prop where
  | num {d : Nat} {i : Int} (h : i.natAbs < 10 ^ 34) : QG d false (.node (Str.ofString "num") [.int i] [])
  | leaf {d : Nat} {w s : Str} (hw : w = Str.ofString "word" ∨ w = Str.ofString "var" ∨ w = Str.ofString "table") (h : s.length ≤ 10) : QG d false (.node w [.txt s] [])
  | none {d : Nat} {k : Tr} (h : KG 2 k) : QG d false (.node (Str.ofString "none") [] [k])
  | row0 {d : Nat} : QG d false (.row [])
  | row {d : Nat} {ps : List (Str × Tr)} (hl : ps.length ≤ 14) (hn : ∀ p ∈ ps, p.1.length ≤ 10) (h : ∀ p ∈ ps, QG d false p.2) : QG (d + 1) false (.row ps)
  | at {d : Nat} {s : Str} {q : Tr} (h : s.length ≤ 10) (hq : QG d false q) : QG (d + 1) false (.node (Str.ofString "at") [.txt s] [q])
  | times {d : Nat} {i : Int} {q : Tr} (h : i.natAbs < 10 ^ 34) (hq : QG d false q) : QG (d + 1) false (.node (Str.ofString "times") [.int i] [q])
  | one {d : Nat} {q : Tr} (hq : QG d false q) : QG (d + 1) false (.node (Str.ofString "one") [] [q])
  | when {d : Nat} {c q : Tr} (hc : QG d true c) (hq : QG d false q) : QG (d + 1) false (.node (Str.ofString "when") [] [c, q])
  | bind {d : Nat} {w s : Str} {q r : Tr} (hw : w = Str.ofString "for" ∨ w = Str.ofString "let") (h : s.length ≤ 10) (hq : QG d false q) (hr : QG d false r) : QG (d + 1) false (.node w [.txt s] [q, r])
  | two {d : Nat} {w : Str} {q r : Tr} (hw : w = Str.ofString "add" ∨ w = Str.ofString "mul" ∨ w = Str.ofString "both") (hq : QG d false q) (hr : QG d false r) : QG (d + 1) false (.node w [] [q, r])
  | cmp {d : Nat} {w : Str} {q r : Tr} (hw : w = Str.ofString "same" ∨ w = Str.ofString "under") (hq : QG d false q) (hr : QG d false r) : QG (d + 1) true (.node w [] [q, r])
  | logic {d : Nat} {w : Str} {q r : Tr} (hw : w = Str.ofString "and" ∨ w = Str.ofString "or") (hq : QG d true q) (hr : QG d true r) : QG (d + 1) true (.node w [] [q, r])
  | not {d : Nat} {c : Tr} (hc : QG d true c) : QG (d + 1) true (.node (Str.ofString "not") [] [c])
theorem QG.up {d : Nat} {b : Bool} {t : Tr} (h : QG d b t) : QG (d + 1) b t := by
  induction h with
  | num h => exact .num h
  | leaf hw h => exact .leaf hw h
  | none h => exact .none h
  | row0 => exact .row0
  | row hl hn _ ih => exact .row hl hn ih
  | «at» h _ ih => exact .at h ih
  | times h _ ih => exact .times h ih
  | one _ ih => exact .one ih
  | when _ _ i1 i2 => exact .when i1 i2
  | bind hw h _ _ i1 i2 => exact .bind hw h i1 i2
  | two hw _ _ i1 i2 => exact .two hw i1 i2
  | cmp hw _ _ i1 i2 => exact .cmp hw i1 i2
  | logic hw _ _ i1 i2 => exact .logic hw i1 i2
  | not _ ih => exact .not ih
theorem QG.mono {d e : Nat} {b : Bool} {t : Tr} (l : d ≤ e) (h : QG d b t) : QG e b t := by
  induction l with
  | refl => exact h
  | step _ ih => exact ih.up
theorem QG.ok {d : Nat} {b : Bool} {t : Tr} (h : QG d b t) : TOk t := by
  induction h with
  | num h => exact tok_node (by decide +kernel) (by decide +kernel) (by simp) (by simp) (one_mem h) nil_mem
  | leaf hw h => rcases hw with rfl | rfl | rfl <;> exact tok_node (by decide +kernel) (by decide +kernel) (by simp) (by simp) (one_mem h) nil_mem
  | none h => exact tok_node (by decide +kernel) (by decide +kernel) (by simp) (by simp) nil_mem (one_mem h.ok)
  | row0 => rw [TOk]; exact ⟨by decide, by rw [TOkR]; trivial⟩
  | row hl hn h ih => rw [TOk]; exact ⟨hl, TOkR_mem.mpr fun p hp => ⟨hn p hp, ih p hp⟩⟩
  | «at» h _ ih => exact tok_node (by decide +kernel) (by decide +kernel) (by simp) (by simp) (one_mem h) (one_mem ih)
  | times h _ ih => exact tok_node (by decide +kernel) (by decide +kernel) (by simp) (by simp) (one_mem h) (one_mem ih)
  | one _ ih => exact tok_node (by decide +kernel) (by decide +kernel) (by simp) (by simp) nil_mem (one_mem ih)
  | when _ _ i1 i2 => exact tok_node (by decide +kernel) (by decide +kernel) (by simp) (by simp) nil_mem (two_mem i1 i2)
  | bind hw h _ _ i1 i2 => rcases hw with rfl | rfl <;> exact tok_node (by decide +kernel) (by decide +kernel) (by simp) (by simp) (one_mem h) (two_mem i1 i2)
  | two hw _ _ i1 i2 => rcases hw with rfl | rfl | rfl <;> exact tok_node (by decide +kernel) (by decide +kernel) (by simp) (by simp) nil_mem (two_mem i1 i2)
  | cmp hw _ _ i1 i2 => rcases hw with rfl | rfl <;> exact tok_node (by decide +kernel) (by decide +kernel) (by simp) (by simp) nil_mem (two_mem i1 i2)
  | logic hw _ _ i1 i2 => rcases hw with rfl | rfl <;> exact tok_node (by decide +kernel) (by decide +kernel) (by simp) (by simp) nil_mem (two_mem i1 i2)
  | not _ ih => exact tok_node (by decide +kernel) (by decide +kernel) (by simp) (by simp) nil_mem (one_mem ih)
end Kn
end
section
set_option Elab.async false
set_option linter.all false
set_option maxRecDepth 100000
set_option maxHeartbeats 4000000
namespace K46
open PySem L2 Kn
def top (i : Nat) : Stmt := PySem.Challenge.pw_keptnest_k46_at_path.main.body.getD i (.Pass ⟨0, 0, 0, 0⟩)
def clsBody (s : Stmt) : List Stmt := match s with
  | .ClassDef _ _ _ b _ _ _ _ _ _ _ => b
  | _ => []
def mtop (i j : Nat) : Stmt := (clsBody (top i)).getD j (.Pass ⟨0, 0, 0, 0⟩)
/-- a method of the text: its own facts in one -/
structure Mf (K : PySem.W.Frag) (C : Addr) (m qual : Str) (st : Stmt) (f : Addr) (fd : FuncData) (ps : List Str) : Prop where
  fn : Fun K m qual st f fd
  b : Binds K fd ps []
  mt : Meth K C m f
/-- what the text leaves to Python -/
structure Tx (mg : Str → Option Value) : Prop where
  z_len : mg "len" = none
  z_int : mg "int" = none
  z_tuple : mg "tuple" = none
  z_range : mg "range" = none
  z_sorted : mg "sorted" = none
  z_list : mg "list" = none
  z_min : mg "min" = none
  z_sum : mg "sum" = none
  z_dict : mg "dict" = none
  z_all : mg "all" = none
  z_enumerate : mg "enumerate" = none
def ExD (p c : Addr) (H H' : Hp) : Prop := ∀ b o, b ≠ p → b ≠ c → H b = some o → H' b = some o
theorem ExD.refl (p c : Addr) (H : Hp) : ExD p c H H := fun _ _ _ _ h => h
theorem ExD.trans {p c : Addr} {H H1 H2 : Hp} (a : ExD p c H H1) (b : ExD p c H1 H2) : ExD p c H H2 := fun d o n m h => b d o n m (a d o n m h)
theorem exd_p {p c : Addr} {H : Hp} {o : HO} : ExD p c H (upd H p o) := fun b u n _ h => by rw [upd_ne n]; exact h
theorem exd_c {p c : Addr} {H : Hp} {o : HO} : ExD p c H (upd H c o) := fun b u _ n h => by rw [upd_ne n]; exact h
theorem exd_new {p c q : Addr} {H : Hp} {o : HO} (h : H q = none) : ExD p c H (upd H q o) := fun b u _ _ e => by rw [upd_ne (ne_of_none e h)]; exact e
theorem Same.exd {p c : Addr} {H H' : Hp} (s : Same H H') : ExD p c H H' := fun b o _ _ h => s b o h
/-- the deck at p, its cells at c -/
def Dk (H : Hp) (p c : Addr) (m : Int) : Prop := ∃ (n : Int) (cs : List Int), H p = some (.lst [.ref c, .int n, .int m]) ∧ H c = some (.lst (cs.map V.int)) ∧ 1 ≤ cs.length ∧ cs.length ≤ 64 ∧ 0 ≤ n ∧ c ≠ p
theorem Dk.keep {H H' : Hp} {p c : Addr} {m : Int} (h : Dk H p c m) (s : Same H H') : Dk H' p c m := by
  obtain ⟨n, cs, h1, h2, r⟩ := h; exact ⟨n, cs, s _ _ h1, s _ _ h2, r⟩
theorem Dk.new {H : Hp} {p c q : Addr} {m : Int} {o : HO} (h : Dk H p c m) (hq : H q = none) : Dk (upd H q o) p c m := h.keep fun b u e => by rw [upd_ne (ne_of_none e hq)]; exact e
theorem Dk.ne {H : Hp} {p c q : Addr} {m : Int} (h : Dk H p c m) (hq : H q = none) : q ≠ p ∧ q ≠ c := by
  obtain ⟨n, cs, h1, h2, r⟩ := h
  exact ⟨fun z => (by rw [z, h1] at hq; cases hq), fun z => (by rw [z, h2] at hq; cases hq)⟩
theorem Dk.tups {H H' : Hp} {p c : Addr} {m : Int} (h : Dk H p c m) (x : ExD p c H H') : Tups H H' := fun b xs e => by
  obtain ⟨n, cs, h1, h2, r⟩ := h
  exact x b _ (ne_of e h1 (by intro z; cases z)) (ne_of e h2 (by intro z; cases z)) e
theorem Dk.dk {H H' : Hp} {p c : Addr} {m : Int} (h : Dk H p c m) (x : ExD p c H H') {b : Addr} {kvs : List (Key × V)} (e : H b = some (.dK kvs)) : H' b = some (.dK kvs) := by
  obtain ⟨n, cs, h1, h2, r⟩ := h
  exact x b _ (ne_of e h1 (by intro z; cases z)) (ne_of e h2 (by intro z; cases z)) e
section
variable {P : Program} {w : World} {K : PySem.W.Frag} {mg : Str → Option Value} {base : Heap} {f : Addr} {fd : FuncData}
theorem u110 {k : Nat} {A : Around} (hr : Room k A) : A.units + 110 < cLine := by have := hr.un; omega
theorem u0 {k : Nat} {A : Around} (hr : Room k A) : A.units < cLine := by have := hr.un; omega
theorem same_new {H : Hp} {p : Addr} (h : H p = none) (o : HO) : Same H (upd H p o) := fun b u q => by rw [upd_ne (ne_of_none q h)]; exact q
theorem same_back {H H' : Hp} (s : Same H H') {l : Addr} (h : H' l = none) : H l = none := by
  cases e : H l with
  | none => rfl
  | some o => rw [s _ _ e] at h; cases h
theorem line1 {n : Nat} (h : n ≤ 15000000) : n < sizeLine := Nat.lt_of_le_of_lt h (by decide)
theorem iteP {c A B : Prop} [Decidable c] (h : c) (x : A) : if c then A else B := by rw [if_pos h]; exact x
theorem iteN {c A B : Prop} [Decidable c] (h : ¬ c) (x : B) : if c then A else B := by rw [if_neg h]; exact x
theorem veq {a : V} : decide (a = a) = true := decide_eq_true rfl
theorem vne {a b : Str} (h : a ≠ b) : ¬ (decide (V.str a = V.str b) = true) := fun z => h (by have := of_decide_eq_true z; injection this)
theorem vs_eq {a b : Str} (h : decide (V.str a = V.str b) = true) : a = b := by have := of_decide_eq_true h; injection this
theorem bm (a k : Int) (h : 0 < k) (h2 : k < 2 ^ 64) : -(2 ^ 64) < a % k ∧ a % k < 2 ^ 64 := by
  have h1 := Int.emod_nonneg a (by omega : k ≠ 0)
  have h3 := Int.emod_lt_of_pos a h
  omega
theorem atI_mem {α : Type} {xs : List α} {r : Int} (h0 : 0 ≤ r) (h1 : r < xs.length) : ∃ v, atI xs r = some v ∧ v ∈ xs := by
  have hk : r.toNat < xs.length := by omega
  have e : ((r.toNat : Nat) : Int) = r := by omega
  have z : atI xs ((r.toNat : Nat) : Int) = some xs[r.toNat] := atI_nat (List.getElem?_eq_getElem hk)
  rw [e] at z
  exact ⟨_, z, List.getElem_mem hk⟩
theorem gall {i : Nat} {x : V} {σ : St} {H : Hp} {A B : St → Hp → Prop} (h : A (σ.set i (some x)) H) : gName i x σ H fun σ2 H2 => tAll σ2 H2 fun b H3 => if b = true then A σ2 H3 else B σ2 H3 := by
  show (if true = true then A (σ.set i (some x)) H else B (σ.set i (some x)) H)
  rw [if_pos rfl]; exact h
theorem tall {σ : St} {H : Hp} {A B : Hp → Prop} (h : A H) : tAll σ H fun b H3 => if b = true then A H3 else B H3 := by
  show (if true = true then A H else B H)
  rw [if_pos rfl]; exact h
theorem ixN_lt {n : Nat} {r : Int} (h0 : 0 ≤ r) (h1 : r < n) : ixN n r = some r.toNat := by
  unfold ixN
  rw [if_pos h0, if_pos h1]
theorem sc__law_take : FnScope ["deck", "many", "at", "cell"] ["deck", "many"] (defScope (top 15)) := ⟨rfl, rfl, rfl, by decide +kernel, rfl, by decide +kernel, by decide +kernel⟩
def spTake : Sp := fun vs H Q _ => ∃ (p c : Addr) (m many : Int), vs = [.ref p, .int many] ∧ Dk H p c m ∧ 0 < many ∧ many < 2 ^ 200 ∧
  ∀ (x : Int) (H' : Hp), 0 ≤ x → x < many → ExD p c H H' → Dk H' p c m → Q (.int x) H'
theorem ok_take (T : Tx mg) (D : Df K mg "_law_take" (top 15) f fd ["deck", "many"]) : FnOk P w K mg base CX0 1 f fd ["deck", "many"] spTake := by
  refine D.fn.okH sc__law_take (fun vs H Q E h => ?_) (fun cdv A outer s H vs Q E hr h => ?_)
  · obtain ⟨p, c, m, many, rfl, _⟩ := h; rfl
  obtain ⟨p, c, m, many, rfl, ⟨n, cs, hp, hc, l1, l64, n0, ne⟩, m0, m1, fin⟩ := h
  have hu := u110 hr
  have hu1 := hu_of hr
  refine ⟨_, (wss_cons (ws_set (i := 2) sc__law_take.nd rfl (Or.inl rfl) (we_op op_mod (we_ix (ix_U hu1) (wv 0) we_int (fun _ _ => rfl)) (we_callB call_lenU rfl T.z_len bt_len (wa_cons (we_ix (ix_U hu1) (wv 0) we_int (fun _ _ => rfl)) wa_nil))))
      (wss_cons (ws_asg (we_op op_plus (we_ix (ix_U hu1) (wv 0) we_int (fun _ _ => rfl)) we_int) (wg_sub (wv 0) we_int (set_U hu1)))
      (wss_cons (ws_set (i := 3) sc__law_take.nd rfl (Or.inl rfl) (we_ix (ix_U hu1) (we_ix (ix_U hu1) (wv 0) we_int (fun _ _ => rfl)) (wv 2) (fun _ _ => rfl)))
      (wss_cons (ws_asg (we_op op_fdivB (wv 3) (wv 1)) (wg_sub (we_ix (ix_U hu1) (wv 0) we_int (fun _ _ => rfl)) (wv 2) (set_U hu1)))
      (wss_one (ws_ret (we_op op_mod (wv 3) (wv 1)))))))), ?_⟩
  have cl : 0 < (cs.map V.int).length := by rw [List.length_map]; omega
  refine ⟨_, rfl, .inl ⟨p, _, 1, _, rfl, rfl, SqL.of hp, rfl, _, rfl, .inl ⟨p, _, 0, _, rfl, rfl, SqL.of hp, rfl, .inl ⟨c, _, rfl, .inl (SqL.of hc), _, _, rfl, rfl, by omega, ?_⟩⟩⟩⟩
  have a0 := Int.emod_nonneg n (show ((cs.map V.int).length : Int) ≠ 0 by omega)
  have a1 := Int.emod_lt_of_pos n (show (0 : Int) < ((cs.map V.int).length : Int) by omega)
  refine ⟨_, rfl, .inl ⟨p, _, 1, _, rfl, rfl, SqL.of hp, rfl, .inl ⟨_, _, rfl, rfl, _, rfl, .inl ⟨p, _, _, 1, rfl, rfl, hp, rfl, ?_⟩⟩⟩⟩
  have hp1 : (upd H p (.lst ([V.ref c, .int n, .int m].set 1 (.int (n + 1))))) p = some (.lst [.ref c, .int (n + 1), .int m]) := upd_same
  have hc1 : (upd H p (.lst ([V.ref c, .int n, .int m].set 1 (.int (n + 1))))) c = some (.lst (cs.map V.int)) := by rw [upd_ne ne]; exact hc
  have ex1 : ExD p c H (upd H p (.lst ([V.ref c, .int n, .int m].set 1 (.int (n + 1))))) := exd_p
  generalize upd H p (.lst ([V.ref c, .int n, .int m].set 1 (.int (n + 1)))) = H1 at hp1 hc1 ex1 ⊢
  obtain ⟨v, hv, hvm⟩ := atI_mem a0 a1
  obtain ⟨cell, _, rfl⟩ := List.mem_map.mp hvm
  refine ⟨_, rfl, .inl ⟨p, _, 0, _, rfl, rfl, SqL.of hp1, rfl, _, rfl, .inl ⟨c, _, _, _, rfl, rfl, SqL.of hc1, hv, ?_⟩⟩⟩
  refine ⟨_, rfl, _, rfl, _, _, rfl, rfl, ⟨m0, m1⟩, _, rfl, .inl ⟨p, _, 0, _, rfl, rfl, SqL.of hp1, rfl, _, rfl, .inl ⟨c, _, _, _, rfl, rfl, hc1, ixN_lt a0 a1, ?_⟩⟩⟩
  refine ⟨_, rfl, _, rfl, _, _, rfl, rfl, m0, ?_⟩
  refine fin _ _ (Int.emod_nonneg _ (by omega)) (Int.emod_lt_of_pos _ m0) (ex1.trans exd_c) ⟨n + 1, cs.set (n % ((cs.map V.int).length : Int)).toNat (cell / many), ?_, ?_, by rw [List.length_set]; omega, by rw [List.length_set]; omega, by omega, ne⟩
  · rw [upd_ne ne.symm]; exact hp1
  · rw [upd_same, List.map_set]
end
end K46
end
section
set_option Elab.async false
set_option linter.all false
set_option maxRecDepth 100000
set_option maxHeartbeats 4000000
namespace K46
open PySem L2 Kn
theorem tr_row {H : Hp} {ps : List (Str × Tr)} {v : V} (h : IsDt H (tdat (.row ps)) v) : ∃ a b ys, v = .ref a ∧ H a = some (.tup [.str "row", .ref b]) ∧ H b = some (.tup ys) ∧ IsDts H (tdatR ps) ys := by
  rw [tdat, IsDt] at h
  obtain ⟨a, xs, rfl, h1, h2⟩ := h
  rw [IsDts] at h2
  obtain ⟨y1, r1, rfl, h3, h4⟩ := h2
  rw [IsDts] at h4
  obtain ⟨y2, r2, rfl, h5, h6⟩ := h4
  rw [IsDts] at h6
  subst h6
  rw [IsDt] at h3
  subst h3
  rw [IsDt] at h5
  obtain ⟨b, ys, rfl, h7, h8⟩ := h5
  exact ⟨a, b, ys, rfl, h1, h7, h8⟩
theorem tr_item {H : Hp} {ps : List (Str × Tr)} {ys : List V} {i : Nat} {y : V} (h : IsDts H (tdatR ps) ys) (e : ys[i]? = some y) : ∃ p c u, ps[i]? = some p ∧ y = .ref c ∧ H c = some (.tup [.str p.1, u]) ∧ IsDt H (tdat p.2) u := by
  have hl := h.length
  have hi : i < ys.length := (List.getElem?_eq_some_iff.mp e).1
  have hp : i < ps.length := by rw [tdatR_map, List.length_map] at hl; omega
  obtain ⟨z, e1, d1⟩ := h.get (i := i) (d := .tup [.str ps[i].1, tdat ps[i].2]) (by rw [tdatR_map, List.getElem?_map, List.getElem?_eq_getElem hp]; rfl)
  rw [e] at e1
  cases e1
  rw [IsDt] at d1
  obtain ⟨c, xs, rfl, h1, h2⟩ := d1
  rw [IsDts] at h2
  obtain ⟨y1, r1, rfl, h3, h4⟩ := h2
  rw [IsDts] at h4
  obtain ⟨y2, r2, rfl, h5, h6⟩ := h4
  rw [IsDts] at h6
  subst h6
  rw [IsDt] at h3
  subst h3
  exact ⟨ps[i], c, y2, List.getElem?_eq_getElem hp, rfl, h1, h5⟩
def atV : At → V
  | .int i => .int i
  | .txt s => .str s
theorem isDt_at {H : Hp} {a : At} {u : V} (h : IsDt H (atD a) u) : u = atV a := by
  cases a with
  | int i => rw [atD, IsDt] at h; exact h
  | txt s => rw [atD, IsDt] at h; exact h
theorem isDts_ats {H : Hp} : ∀ (as : List At) (ds : List Dt) (xs : List V), IsDts H (as.map atD ++ ds) xs → ∃ zs, xs = as.map atV ++ zs ∧ IsDts H ds zs
  | [], ds, xs, h => ⟨xs, rfl, h⟩
  | a :: as, ds, xs, h => by
    rw [List.map_cons, List.cons_append, IsDts] at h
    obtain ⟨y, r, rfl, h1, h2⟩ := h
    obtain ⟨zs, e, h3⟩ := isDts_ats as ds r h2
    exact ⟨zs, by rw [isDt_at h1, e]; rfl, h3⟩
theorem tr_node {H : Hp} {w : Str} {as : List At} {ps : List Tr} {v : V} (h : IsDt H (tdat (.node w as ps)) v) : ∃ a zs, v = .ref a ∧ H a = some (.tup (.str w :: (as.map atV ++ zs))) ∧ IsDts H (ps.map tdat) zs := by
  rw [tdat, IsDt] at h
  obtain ⟨a, xs, rfl, h1, h2⟩ := h
  rw [IsDts] at h2
  obtain ⟨y1, r1, rfl, h3, h4⟩ := h2
  rw [IsDt] at h3
  subst h3
  obtain ⟨zs, rfl, h5⟩ := isDts_ats as _ r1 h4
  rw [tdatL_map] at h5
  exact ⟨a, zs, rfl, h1, h5⟩
theorem isDts_one {H : Hp} {d : Dt} {zs : List V} (h : IsDts H [d] zs) : ∃ u, zs = [u] ∧ IsDt H d u := by
  rw [IsDts] at h
  obtain ⟨y, r, rfl, h1, h2⟩ := h
  rw [IsDts] at h2
  subst h2
  exact ⟨y, rfl, h1⟩
theorem isDts_nil' {H : Hp} {zs : List V} (h : IsDts H [] zs) : zs = [] := by rw [IsDts] at h; exact h

def HM : List Str := [Str.ofString "num", Str.ofString "word", Str.ofString "var", Str.ofString "table", Str.ofString "none", Str.ofString "at", Str.ofString "times", Str.ofString "for", Str.ofString "let"]
/-- questions and claims, d levels -/
inductive TH : Nat → Tr → Prop where
  | atom {d : Nat} {w : Str} {a : At} (hw : w ∈ [Str.ofString "num", Str.ofString "word", Str.ofString "var", Str.ofString "table"]) : TH d (.node w [a] [])
  | none {d : Nat} {k : Tr} (h : KG 3 k) : TH d (.node (Str.ofString "none") [] [k])
  | row {d : Nat} {ps : List (Str × Tr)} (hl : ps.length ≤ 14) (h : ∀ p ∈ ps, TH d p.2) : TH (d + 1) (.row ps)
  | more {d : Nat} {w : Str} {a : At} {ps : List Tr} (hw : w ∈ [Str.ofString "at", Str.ofString "times", Str.ofString "for", Str.ofString "let"]) (hl : ps.length ≤ 2) (h : ∀ q ∈ ps, TH d q) : TH (d + 1) (.node w [a] ps)
  | plain {d : Nat} {w : Str} {ps : List Tr} (hw : w ∉ HM) (hr : w ≠ Str.ofString "row") (hl : ps.length ≤ 2) (h : ∀ q ∈ ps, TH d q) : TH (d + 1) (.node w [] ps)
theorem TH.up {d : Nat} {t : Tr} (h : TH d t) : TH (d + 1) t := by
  induction h with
  | atom hw => exact .atom hw
  | none h => exact .none h
  | row hl _ ih => exact .row hl ih
  | more hw hl _ ih => exact .more hw hl ih
  | plain hw hr hl _ ih => exact .plain hw hr hl ih
theorem TH.mono {d e : Nat} {t : Tr} (l : d ≤ e) (h : TH d t) : TH e t := by
  induction l with
  | refl => exact h
  | step _ ih => exact ih.up
def kids : Tr → List Tr
  | .row ps => ps.map (·.2)
  | .node w _ ps => if w = Str.ofString "none" then [] else ps
theorem kids_node (w : Str) (as : List At) (ps : List Tr) : kids (.node w as ps) = if w = Str.ofString "none" then [] else ps := rfl
theorem TH.sub {d : Nat} {t : Tr} (h : TH d t) : ∀ q ∈ kids t, ∃ e, e < d ∧ TH e q := by
  cases h with
  | atom hw => intro q hq; rw [kids_node] at hq; split at hq <;> cases hq
  | none => intro q hq; rw [kids_node, if_pos rfl] at hq; cases hq
  | row hl h =>
    intro q hq
    obtain ⟨p, hp, rfl⟩ := List.mem_map.mp hq
    exact ⟨_, Nat.lt_succ_self _, h p hp⟩
  | more hw hl h =>
    intro q hq; rw [kids_node] at hq
    split at hq
    · cases hq
    · exact ⟨_, Nat.lt_succ_self _, h q hq⟩
  | plain hw hr hl h =>
    intro q hq; rw [kids_node] at hq
    split at hq
    · cases hq
    · exact ⟨_, Nat.lt_succ_self _, h q hq⟩
theorem TH.len {d : Nat} {t : Tr} (h : TH d t) : (kids t).length ≤ 14 := by
  cases h with
  | atom hw => rw [kids_node]; split <;> simp
  | none => rw [kids_node, if_pos rfl]; simp
  | row hl h => show (List.map _ _).length ≤ 14; rw [List.length_map]; exact hl
  | more hw hl h => rw [kids_node]; split <;> (try simp only [List.length_nil]) <;> omega
  | plain hw hr hl h => rw [kids_node]; split <;> (try simp only [List.length_nil]) <;> omega
theorem inV_str (w : Str) : ∀ l : List Str, inV (.str w) (l.map V.str) = true ↔ w ∈ l
  | [] => by simp [inV]
  | x :: l => by
    have ih := inV_str w l
    unfold inV at ih ⊢
    rw [List.map_cons, List.any_cons, Bool.or_eq_true, ih, List.mem_cons]
    show (x == w) = true ∨ _ ↔ _
    rw [beq_iff_eq]
    exact ⟨fun h => h.elim (fun e => .inl e.symm) .inr, fun h => h.elim (fun e => .inl e.symm) .inr⟩
theorem flat_strs (l : List Str) : (l.map V.str).all flatV = true := by rw [List.all_map]; exact List.all_eq_true.mpr fun _ _ => rfl
theorem cutN {xs : List V} {k : Nat} : cutV xs (some (k : Int)) none = xs.drop k := by
  unfold cutV
  rw [HT.sIx_nat, show HT.sIx xs.length xs.length none = xs.length from rfl]
  rw [List.take_of_length_le (by rw [List.length_drop]; omega)]
  by_cases h : k ≤ xs.length
  · rw [Nat.min_eq_left h]
  · rw [List.drop_of_length_le (by omega), List.drop_of_length_le (by omega)]
theorem ncutN {xs : List V} {k : Nat} (h : 0 < k) (h2 : 0 < xs.length) : ¬ (HT.sIx xs.length 0 (some (k : Int)) = 0 ∧ HT.sIx xs.length xs.length none = xs.length) := fun z => by
  rw [HT.sIx_nat] at z; omega
section
variable {P : Program} {w : World} {K : PySem.W.Frag} {mg : Str → Option Value} {base : Heap} {f : Addr} {fd : FuncData} {aH : Addr}
theorem sc_under : FnScope ["question"] ["question"] (defScope (top 4)) := ⟨rfl, rfl, rfl, by decide +kernel, rfl, by decide +kernel, by decide +kernel⟩
def spUnder : Sp := fun vs H Q _ => ∃ (v : V) (t : Tr) (d : Nat), vs = [v] ∧ IsDt H (tdat t) v ∧ TH d t ∧
  ∀ (a : Addr) (us : List V) (H' : Hp), Same H H' → H' a = some (.tup us) → IsDts H' ((kids t).map tdat) us → Q (.ref a) H'
theorem ok_under (T : Tx mg) (g_HAVE_MORE : mg "HAVE_MORE" = some (.ref aH)) (hHM : ∀ H, SqT K H aH (HM.map V.str)) (D : Df K mg "under" (top 4) f fd ["question"]) : FnOk P w K mg base CX0 1 f fd ["question"] spUnder := by
  refine D.fn.okH sc_under (fun vs H Q E h => ?_) (fun cdv A outer s H vs Q E hr h => ?_)
  · obtain ⟨v, t, d, rfl, _⟩ := h; rfl
  obtain ⟨v, t, d, rfl, hx, th, fin⟩ := h
  have hu := u110 hr
  have hu0 := u0 hr
  have hu1 := hu_of hr
  refine ⟨_, (wss_cons (ws_if (wt_cmpR (op_eqU hu) (we_ix (ix_U hu1) (wv 0) we_int (fun _ _ => rfl)) we_str (nomark _)) (wss_one (ws_ret (we_callTy call_tuple_of rfl T.z_tuple bt_tuple (wa_cons (we_lc (Nt := ["field", "part"]) (fr := []) (LcOk.of (sc := defScope (top 4)) (N := ["question"]) rfl rfl (by decide +kernel)) rfl (wi_U (we_ix (ix_U hu1) (wv 0) we_int (fun _ _ => rfl))) (fun z => wg_tup rfl (wgs_cons (wg_name (i := 0) (by show (["field", "part"] : List Str).Nodup; decide +kernel) rfl (Or.inl rfl) (.inr rfl)) (wgs_cons (wg_name (i := 1) (by show (["field", "part"] : List Str).Nodup; decide +kernel) rfl (Or.inl rfl) (.inr rfl)) wgs_nil))) (fun z => tgt_two (by decide) (by decide)) (fun z => wif_nil) (fun z => (wv 1))) wa_nil)))) wss_nil)
      (wss_one (ws_ret (we_ifExp (wt_cmpR (op_inU hu) (we_ix (ix_U hu1) (wv 0) we_int (fun _ _ => rfl)) (we_glob rfl g_HAVE_MORE (relv_ref _)) (by with_unfolding_all rfl)) (we_slice sl_U (wv 0) (wo_some we_int) wo_none) (we_slice sl_U (wv 0) (wo_some we_int) wo_none))))), ?_⟩
  cases t with
  | row ps =>
    have hl6 : ps.length ≤ 14 := by cases th with | row hl h => exact hl
    obtain ⟨a, b, ys, rfl, ha, hb, hys⟩ := tr_row hx
    have ly : ys.length = ps.length := by rw [hys.length, tdatR_map, List.length_map]
    refine ⟨_, rfl, .inr (.inl ⟨a, _, 0, .str "row", rfl, rfl, SqT.of ha, rfl, .inl ⟨rfl, _, rfl, iteP veq ?_⟩⟩)⟩
    refine .inr ⟨_, rfl, .inr (.inl ⟨a, _, 1, .ref b, rfl, rfl, SqT.of ha, rfl, b, rfl, ⟨ys, SqT.of hb⟩, ?_⟩)⟩
    refine ⟨fun i2 m2 zs H2 => H2 = H ∧ m2 + i2 = ps.length ∧ IsDts H (((ps.map (·.2)).take i2).map tdat) zs, ⟨ps.length, rfl, rfl, by rw [List.take_zero]; exact .nil⟩, ?_⟩
    rintro i2 m2 zs H2 ⟨rfl, hm2, iz⟩
    have lz := iz.length
    rw [List.length_map, List.length_take, List.length_map] at lz
    refine ⟨line1 (by omega), ?_⟩
    by_cases hi2 : i2 < ps.length
    · have hyi : ys[i2]? = some ys[i2] := List.getElem?_eq_getElem (by omega)
      refine .inr ⟨⟨_, _, SqT.of hb, hyi⟩, fun z x H5 hy2 => ?_⟩
      obtain ⟨rfl, hx5⟩ := hy2
      obtain rfl : ys[i2] = x := by have := hx5 _ (SqT.of hb); rw [hyi] at this; injection this
      obtain ⟨p, c, u, hp, ey, hc, hu'⟩ := tr_item hys hyi
      rw [ey]
      refine ⟨c, _, rfl, SqT.of hc, rfl, _, _, rfl, _, _, rfl, rfl, ?_⟩
      refine tall ?_
      refine ⟨_, rfl, m2 - 1, by omega, rfl, by omega, ?_⟩
      rw [List.take_add_one, List.getElem?_map, hp, List.map_append]
      exact iz.append (.one hu')
    · refine .inl ⟨⟨_, SqT.of hb, by omega⟩, fun l2 hl2 => ?_⟩
      rw [List.take_of_length_le (by rw [List.length_map]; omega)] at iz
      refine ⟨l2, _, rfl, .inl ⟨SqL.of upd_same, fun t1 ht1 => ?_⟩⟩
      exact fin t1 zs _ ((same_new hl2 _).trans (same_new ht1 _)) upd_same (IsDts.mono ((same_new hl2 _).trans (same_new ht1 _)).tups iz)
  | node wd as ps =>
    obtain ⟨a, zs, rfl, ha, hzs⟩ := tr_node hx
    have hw : wd ≠ Str.ofString "row" := by
      cases th with
      | atom hw => rintro rfl; revert hw; decide +kernel
      | none => decide +kernel
      | more hw hl h => rintro rfl; revert hw; decide +kernel
      | plain hw hr hl h => exact hr
    refine ⟨_, rfl, .inr (.inl ⟨a, _, 0, .str wd, rfl, rfl, SqT.of ha, (show atI (V.str wd :: (as.map atV ++ zs)) ((0 : Nat) : Int) = _ from atI_nat rfl), .inl ⟨rfl, _, rfl, iteN (vne hw) ?_⟩⟩)⟩
    refine ⟨_, rfl, .inr (.inl ⟨a, _, 0, .str wd, rfl, rfl, SqT.of ha, (show atI (V.str wd :: (as.map atV ++ zs)) ((0 : Nat) : Int) = _ from atI_nat rfl), .inl ⟨aH, _, rfl, .inr (hHM H), rfl, flat_strs HM, _, rfl, ?_⟩⟩)⟩
    have key : ∀ k : Nat, (k = 1 ∨ k = 2) → IsDts H ((kids (.node wd as ps)).map tdat) ((V.str wd :: (as.map atV ++ zs)).drop k) → ∀ q, H q = none → Q (.ref q) (upd H q (.tup (cutV (V.str wd :: (as.map atV ++ zs)) (some (k : Int)) none))) := fun k _ hk q hq => by
      rw [cutN]
      exact fin q _ _ (same_new hq _) upd_same (IsDts.mono (same_new hq _).tups hk)
    refine ite2 (fun e => ?_) (fun e => ?_)
    · have hm : wd ∈ HM := (inV_str wd HM).mp e
      refine ⟨_, rfl, _, rfl, .inr (.inl ⟨a, _, rfl, SqT.of ha, ncutN (k := 2) (by decide) (by simp), fun q hq => key 2 (.inr rfl) ?_ q hq⟩)⟩
      cases th with
      | atom hw =>
        have e0 := isDts_nil' hzs
        subst e0
        rw [kids_node]; split <;> exact .nil
      | none => rw [kids_node, if_pos rfl]; obtain ⟨u, rfl, _⟩ := isDts_one hzs; exact .nil
      | more hw2 hl h =>
        have n0 : ¬ wd = Str.ofString "none" := by rintro rfl; revert hw2; decide +kernel
        rw [kids_node, if_neg n0]; exact hzs
      | plain hw2 hr2 hl h => exact absurd hm hw2
    · have hm : wd ∉ HM := fun z => e ((inV_str wd HM).mpr z)
      refine ⟨_, rfl, _, rfl, .inr (.inl ⟨a, _, rfl, SqT.of ha, ncutN (k := 1) (by decide) (by simp), fun q hq => key 1 (.inl rfl) ?_ q hq⟩)⟩
      cases th with
      | atom hw => exfalso; apply hm; revert hw; simp only [List.mem_cons, List.not_mem_nil, or_false, HM]; rintro (h | h | h | h) <;> simp [h]
      | none => exact absurd (by decide +kernel) hm
      | more hw2 hl h => exfalso; apply hm; revert hw2; simp only [List.mem_cons, List.not_mem_nil, or_false, HM]; rintro (h | h | h | h) <;> simp [h]
      | plain hw2 hr2 hl h =>
        have n0 : ¬ wd = Str.ofString "none" := by rintro rfl; exact hm (by decide +kernel)
        rw [kids_node, if_neg n0]; exact hzs
end
end K46
end
section
set_option Elab.async false
set_option linter.all false
set_option maxRecDepth 100000
set_option maxHeartbeats 4000000
namespace K46
open PySem L2 Kn
/-- where a path leads -/
def walkT : Tr → List Int → Option Tr
  | t, [] => some t
  | t, i :: is => if h : 0 ≤ i ∧ i < (kids t).length then walkT ((kids t)[i.toNat]'(by omega)) is else none
theorem walkT_in {t : Tr} {i : Int} {is : List Int} (h : 0 ≤ i ∧ i < (kids t).length) : walkT t (i :: is) = walkT ((kids t)[i.toNat]'(by omega)) is := by rw [walkT, dif_pos h]
theorem walkT_out {t : Tr} {i : Int} {is : List Int} (h : ¬ (0 ≤ i ∧ i < (kids t).length)) : walkT t (i :: is) = none := by rw [walkT, dif_neg h]
/-- the place at x: its line, its path, its marks; what it stands at -/
def Pl (C : Addr) (H : Hp) (x dx l tp an ar : Addr) (k : Nat) (t : Tr) : Prop :=
  H x = some (.ins C dx [(Str.ofString "line", .ref l), (Str.ofString "path", .ref tp), (Str.ofString "anew", .ref an), (Str.ofString "around", .ref ar)]) ∧ (∃ (ln : List V) (u : V), H l = some (.lst (ln ++ [u])) ∧ ln.length ≤ k ∧ IsDt H (tdat t) u) ∧
    (∃ js : List V, H tp = some (.tup js) ∧ js.length ≤ k) ∧ (∃ bs : List V, H an = some (.lst bs) ∧ bs.length ≤ k + 1) ∧ l ≠ x ∧ an ≠ x ∧ an ≠ l ∧ tp ≠ x ∧ tp ≠ l ∧ tp ≠ an
/-- all but the place as it was -/
def ExP (x l an : Addr) (H H' : Hp) : Prop := ∀ b o, b ≠ x → b ≠ l → b ≠ an → H b = some o → H' b = some o
theorem ExP.trans {x l an : Addr} {H H1 H2 : Hp} (a : ExP x l an H H1) (b : ExP x l an H1 H2) : ExP x l an H H2 := fun d o n m k h => b d o n m k (a d o n m k h)
theorem fstep {H H2 : Hp} {x q : Addr} {o u u2 : HO} (hG : upd (upd H q o) x u2 = H2) (hx : H x = some u) (hq : H q = none) : (∀ b o', b ≠ x → H b = some o' → H2 b = some o') ∧ H2 x = some u2 ∧ H2 q = some o ∧ q ≠ x := by
  have n : q ≠ x := fun z => by rw [z, hx] at hq; cases hq
  subst hG
  exact ⟨fun b o' nb e => by rw [upd_ne nb, upd_ne (ne_of_none e hq)]; exact e, upd_same, by rw [upd_ne n]; exact upd_same, n⟩
theorem pf2 (a b : V) : putF (Str.ofString "path") b [(Str.ofString "line", a)] = [(Str.ofString "line", a), (Str.ofString "path", b)] := by rw [putF, if_neg (by decide +kernel), putF]
theorem pf3 (a b c : V) : putF (Str.ofString "anew") c [(Str.ofString "line", a), (Str.ofString "path", b)] = [(Str.ofString "line", a), (Str.ofString "path", b), (Str.ofString "anew", c)] := by rw [putF, if_neg (by decide +kernel), putF, if_neg (by decide +kernel), putF]
theorem pf4 (a b c d : V) : putF (Str.ofString "around") d [(Str.ofString "line", a), (Str.ofString "path", b), (Str.ofString "anew", c)] = [(Str.ofString "line", a), (Str.ofString "path", b), (Str.ofString "anew", c), (Str.ofString "around", d)] := by rw [putF, if_neg (by decide +kernel), putF, if_neg (by decide +kernel), putF, if_neg (by decide +kernel), putF]
theorem pf5 (a b c d e : V) : putF (Str.ofString "path") e [(Str.ofString "line", a), (Str.ofString "path", b), (Str.ofString "anew", c), (Str.ofString "around", d)] = [(Str.ofString "line", a), (Str.ofString "path", e), (Str.ofString "anew", c), (Str.ofString "around", d)] := by rw [putF, if_neg (by decide +kernel), putF, if_pos rfl]
theorem lk1 (a b c d : V) : ([(Str.ofString "line", a), (Str.ofString "path", b), (Str.ofString "anew", c), (Str.ofString "around", d)] : List (Str × V)).lookup (Str.ofString "line") = some a := rfl
theorem lk2 (a b c d : V) : ([(Str.ofString "line", a), (Str.ofString "path", b), (Str.ofString "anew", c), (Str.ofString "around", d)] : List (Str × V)).lookup (Str.ofString "path") = some b := rfl
theorem lk3 (a b c d : V) : ([(Str.ofString "line", a), (Str.ofString "path", b), (Str.ofString "anew", c), (Str.ofString "around", d)] : List (Str × V)).lookup (Str.ofString "anew") = some c := rfl
theorem lkg (a b c d : V) : ([(Str.ofString "line", a), (Str.ofString "path", b), (Str.ofString "anew", c), (Str.ofString "around", d)] : List (Str × V)).lookup (Str.ofString "go") = none := rfl
theorem lkd (a b c d : V) : ([(Str.ofString "line", a), (Str.ofString "path", b), (Str.ofString "anew", c), (Str.ofString "around", d)] : List (Str × V)).lookup (Str.ofString "down") = none := rfl
theorem lkk (a b c d : V) : ([(Str.ofString "line", a), (Str.ofString "path", b), (Str.ofString "anew", c), (Str.ofString "around", d)] : List (Str × V)).lookup (Str.ofString "knot") = none := rfl
section
variable {P : Program} {w : World} {K : PySem.W.Frag} {mg : Str → Option Value} {base : Heap} {f f_under f_init f_knot f_go f_down f_ms : Addr} {fd fd_under fd_init fd_knot fd_go fd_down fd_ms : FuncData} {C : Addr}
/-- no attribute of the class -/
structure NA (K : PySem.W.Frag) (C : Addr) : Prop where
  line : NoAttr K C (Str.ofString "line")
  path : NoAttr K C (Str.ofString "path")
  anew : NoAttr K C (Str.ofString "anew")
  around : NoAttr K C (Str.ofString "around")
theorem sc_Place___init__ : FnScope ["self", "question"] ["self", "question"] (defScope (mtop 7 0)) := ⟨rfl, rfl, rfl, by decide +kernel, rfl, by decide +kernel, by decide +kernel⟩
def spInit (C : Addr) : Sp := fun vs H Q _ => ∃ (x dx : Addr) (v : V) (t : Tr), vs = [.ref x, v] ∧ H x = some (.ins C dx []) ∧ IsDt H (tdat t) v ∧
  ∀ (l tp an ar : Addr) (H' : Hp), (∀ b o, b ≠ x → H b = some o → H' b = some o) → Pl C H' x dx l tp an ar 0 t → H l = none → H an = none → Q .non H'
theorem ok_init (T : Tx mg) (C_Place : Cls K C) (N : NA K C) (D : Mf K C "__init__" "Place.__init__" (mtop 7 0) f fd ["self", "question"]) : FnOk P w K mg base CX0 1 f fd ["self", "question"] (spInit C) := by
  refine D.fn.okH sc_Place___init__ (fun vs H Q E h => ?_) (fun cdv A outer s H vs Q E hr h => ?_)
  · obtain ⟨x, dx, v, t, rfl, _⟩ := h; rfl
  obtain ⟨x, dx, v, t, rfl, hx, ht, fin⟩ := h
  have hu := u110 hr
  have hu0 := u0 hr
  have hu1 := hu_of hr
  refine ⟨_, (wss_cons (ws_fld (wv 0) (we_lst (wa_cons (wv 1) wa_nil)))
      (wss_cons (ws_fld (wv 0) (we_tup wa_nil))
      (wss_cons (ws_fld (wv 0) (we_lst (wa_cons we_bl wa_nil)))
      (wss_one (ws_fld (wv 0) (we_lst wa_nil)))))), ?_⟩
  refine ⟨_, rfl, (by show 1 ≤ sizeLine; decide), fun l hl => ⟨_, rfl, x, C, dx, [], rfl, by rw [upd_ne (ne_of_none hx hl)]; exact hx, C_Place, N.line, by decide, ?_⟩⟩
  generalize hG1 : upd (upd H l _) x _ = H1
  obtain ⟨k1, x1, l1, n1⟩ := fstep hG1 hx hl
  have x1' : H1 x = some (.ins C dx [(Str.ofString "line", .ref l)]) := x1
  clear hG1 x1
  refine ⟨(by show 0 ≤ sizeLine; decide), fun tp htp => ⟨_, rfl, x, C, dx, _, rfl, by rw [upd_ne (ne_of_none x1' htp)]; exact x1', C_Place, N.path, by simp, ?_⟩⟩
  rw [pf2]
  generalize hG2 : upd (upd H1 tp _) x _ = H2
  obtain ⟨k2, x2, p2, n2⟩ := fstep hG2 x1' htp
  clear hG2
  refine ⟨(by show 1 ≤ sizeLine; decide), fun an han => ⟨_, rfl, x, C, dx, _, rfl, by rw [upd_ne (ne_of_none x2 han)]; exact x2, C_Place, N.anew, by simp, ?_⟩⟩
  rw [pf3]
  generalize hG3 : upd (upd H2 an _) x _ = H3
  obtain ⟨k3, x3, a3, n3⟩ := fstep hG3 x2 han
  clear hG3
  refine ⟨(by show 0 ≤ sizeLine; decide), fun ar har => ⟨_, rfl, x, C, dx, _, rfl, by rw [upd_ne (ne_of_none x3 har)]; exact x3, C_Place, N.around, by simp, ?_⟩⟩
  rw [pf4]
  generalize hG4 : upd (upd H3 ar _) x _ = H4
  obtain ⟨k4, x4, r4, n4⟩ := fstep hG4 x3 har
  clear hG4
  have kA : ∀ b o, b ≠ x → H b = some o → H4 b = some o := fun b o n e => k4 b o n (k3 b o n (k2 b o n (k1 b o n e)))
  have tA : Tups H H4 := fun b xs e => kA b _ (ne_of e hx (by intro z; cases z)) e
  have l2 := k2 l _ n1 l1
  have lan : an ≠ l := fun z => by rw [z, l2] at han; cases han
  have tpl : tp ≠ l := fun z => by rw [z, l1] at htp; cases htp
  have tpan : tp ≠ an := fun z => by rw [← z, p2] at han; cases han
  have hanN : H an = none := by
    cases e : H an with
    | none => rfl
    | some o => rw [k2 an o n3 (k1 an o n3 e)] at han; cases han
  exact fin l tp an ar H4 kA ⟨x4, ⟨[], v, k4 l _ n1 (k3 l _ n1 l2), by simp, IsDt.mono tA ht⟩, ⟨[], k4 tp _ n2 (k3 tp _ n2 p2), by simp⟩, ⟨_, k4 an _ n3 a3, by simp⟩, n1, n3, lan, n2, tpl, tpan⟩ hl hanN
theorem sc_Place_knot : FnScope ["self"] ["self"] (defScope (mtop 7 1)) := ⟨rfl, rfl, rfl, by decide +kernel, rfl, by decide +kernel, by decide +kernel⟩
def spKnot (C : Addr) : Sp := fun vs H Q _ => ∃ (x dx l tp an ar : Addr) (k : Nat) (t : Tr), vs = [.ref x] ∧ Pl C H x dx l tp an ar k t ∧ ∀ v, IsDt H (tdat t) v → Q v H
theorem at_last {ln : List V} {u : V} : atI (ln ++ [u]) (-1) = some u := by
  unfold atI ixN
  rw [if_neg (by decide), if_pos (by simp; omega)]
  simp only [List.length_append, List.length_cons, List.length_nil, Option.bind_some]
  have e : ((-1 : Int) + ((ln.length + (0 + 1) : Nat) : Int)).toNat = ln.length := by omega
  rw [e]
  simp
theorem ok_knot (T : Tx mg) (C_Place : Cls K C) (N : NA K C) (D : Mf K C "knot" "Place.knot" (mtop 7 1) f fd ["self"]) : FnOk P w K mg base CX0 1 f fd ["self"] (spKnot C) := by
  refine D.fn.okH sc_Place_knot (fun vs H Q E h => ?_) (fun cdv A outer s H vs Q E hr h => ?_)
  · obtain ⟨x, dx, l, tp, an, ar, k, t, rfl, _⟩ := h; rfl
  obtain ⟨x, dx, l, tp, an, ar, k, t, rfl, ⟨hx, ⟨ln, u, hl, lk, iu⟩, _⟩, fin⟩ := h
  have hu := u110 hr
  have hu0 := u0 hr
  have hu1 := hu_of hr
  refine ⟨_, (wss_one (ws_ret (we_ix (ix_U hu1) (we_fld (wv 0)) (we_un un_neg we_int) (fun _ _ => rfl)))), ?_⟩
  exact ⟨_, rfl, x, C, dx, _, _, rfl, hx, C_Place, N.line, lk1 _ _ _ _, _, rfl, .inl ⟨l, _, _, u, rfl, rfl, SqL.of hl, at_last, fin u iu⟩⟩
theorem sc_Place_down : FnScope ["self", "step", "parts"] ["self", "step"] (defScope (mtop 7 3)) := ⟨rfl, rfl, rfl, by decide +kernel, rfl, by decide +kernel, by decide +kernel⟩
def spDown (C : Addr) : Sp := fun vs H Q _ => ∃ (x dx l tp an ar : Addr) (k d : Nat) (t : Tr) (i : Int), vs = [.ref x, .int i] ∧ Pl C H x dx l tp an ar k t ∧ TH d t ∧ k ≤ 1000 ∧
  (¬ (0 ≤ i ∧ i < (kids t).length) → ∀ H', Same H H' → Q (.bl false) H') ∧ (∀ (h : 0 ≤ i ∧ i < (kids t).length) (tp' : Addr) (H' : Hp), ExP x l an H H' → Pl C H' x dx l tp' an ar (k + 1) ((kids t)[i.toNat]'(by omega)) → Q (.bl true) H')
theorem ok_down (T : Tx mg) (C_Place : Cls K C) (N : NA K C) (D : Mf K C "down" "Place.down" (mtop 7 3) f fd ["self", "step"]) (D_under : Df K mg "under" (top 4) f_under fd_under ["question"]) (G_under : FnOk P w K mg base CX0 1 f_under fd_under ["question"] spUnder) :
    FnOk P w K mg base CX0 2 f fd ["self", "step"] (spDown C) := by
  refine D.fn.okH sc_Place_down (fun vs H Q E h => ?_) (fun cdv A outer s H vs Q E hr h => ?_)
  · obtain ⟨x, dx, l, tp, an, ar, k, d, t, i, rfl, _⟩ := h; rfl
  obtain ⟨x, dx, l, tp, an, ar, k, d, t, i, rfl, ⟨hx, ⟨ln, u, hl, lk, iu⟩, ⟨js, hj, lj⟩, ⟨bs, hb, lb⟩, n1, n2, n3, n4, n5, n6⟩, th, k1000, fout, fin⟩ := h
  have hu := u110 hr
  have hu0 := u0 hr
  have hu1 := hu_of hr
  have l6 := th.len
  refine ⟨_, (wss_cons (ws_set (i := 2) sc_Place_down.nd rfl (Or.inl rfl) (we_call G_under (hr.mono (by omega)) rfl D_under.mg D_under.kp D_under.b .nil pass0 (wa_cons (we_ix (ix_U hu1) (we_fld (wv 0)) (we_un un_neg we_int) (fun _ _ => rfl)) wa_nil)))
      (wss_cons (ws_if (wt_not (wt_chain op_le (op_ltU hu0) we_int (wv 1) (we_callB call_lenU rfl T.z_len bt_len (wa_cons (wv 2) wa_nil)))) (wss_one (ws_ret we_bl)) wss_nil)
      (wss_cons (ws_expr (we_bm PySem.F.plainAttrs_list PySem.F.slot_list_append PySem.F.type_list_append mt_append (we_fld (wv 0)) (wa_cons (we_ix (ix_U hu1) (wv 2) (wv 1) (fun _ _ => rfl)) wa_nil)))
      (wss_cons (ws_fld (wv 0) (we_op op_plus (we_fld (wv 0)) (we_tup (wa_cons (wv 1) wa_nil))))
      (wss_cons (ws_expr (we_bm PySem.F.plainAttrs_list PySem.F.slot_list_append PySem.F.type_list_append mt_append (we_fld (wv 0)) (wa_cons we_bl wa_nil)))
      (wss_one (ws_ret we_bl))))))), ?_⟩
  refine ⟨_, rfl, x, C, dx, _, _, rfl, hx, C_Place, N.line, lk1 _ _ _ _, _, rfl, .inl ⟨l, _, _, u, rfl, rfl, SqL.of hl, at_last, u, t, d, rfl, iu, th, fun a us H1 s1 ha ius => ?_⟩⟩
  have lus : us.length = (kids t).length := by rw [ius.length, List.length_map]
  refine ⟨_, rfl, _, _, rfl, rfl, _, rfl, ?_⟩
  refine ite2 (fun e0 => ?_) (fun e0 => ?_)
  case refine_2 =>
    refine ⟨_, rfl, ?_⟩
    refine iteP (by decide) ?_
    exact fout (fun z => e0 (decide_eq_true z.1)) H1 s1
  have i0 : 0 ≤ i := of_decide_eq_true e0
  refine ⟨_, rfl, .inl ⟨a, _, rfl, .inr (SqT.of ha), .inl ⟨_, _, rfl, rfl, _, rfl, ?_⟩⟩⟩
  refine ite2 (fun e1 => ?_) (fun e1 => ?_)
  · refine fout (fun z => ?_) H1 s1
    have : i < (us.length : Int) := by rw [lus]; exact z.2
    rw [decide_eq_true this] at e1
    cases e1
  have i1 : i < (us.length : Int) := by
    by_cases z : i < (us.length : Int)
    · exact z
    · exact absurd (by rw [decide_eq_false z]; rfl) e1
  have hin : 0 ≤ i ∧ i < (kids t).length := ⟨i0, by rw [← lus]; exact i1⟩
  have hx1 := s1 _ _ hx
  have hl1 := s1 _ _ hl
  have hj1 := s1 _ _ hj
  have hb1 := s1 _ _ hb
  have hk : i.toNat < (kids t).length := by omega
  obtain ⟨y, hy, iy⟩ := ius.get (i := i.toNat) (d := tdat ((kids t)[i.toNat])) (by rw [List.getElem?_map, List.getElem?_eq_getElem hk]; rfl)
  have hyi : atI us i = some y := by
    have := atI_nat hy
    rwa [show ((i.toNat : Nat) : Int) = i by omega] at this
  refine ⟨_, rfl, x, C, dx, _, _, rfl, hx1, C_Place, N.line, lk1 _ _ _ _, .inl ⟨rfl, _, SqL.of hl1⟩, _, rfl, _, rfl, .inr (.inl ⟨a, us, i, y, rfl, rfl, SqT.of ha, hyi, l, _, y, rfl, rfl, hl1, line1 (by simp; omega), ?_⟩)⟩
  have x2 : (upd H1 l (.lst (ln ++ [u] ++ [y]))) x = some (.ins C dx [(Str.ofString "line", .ref l), (Str.ofString "path", .ref tp), (Str.ofString "anew", .ref an), (Str.ofString "around", .ref ar)]) := by rw [upd_ne n1.symm]; exact hx1
  have p2 : (upd H1 l (.lst (ln ++ [u] ++ [y]))) tp = some (.tup js) := by rw [upd_ne n5]; exact hj1
  have b2 : (upd H1 l (.lst (ln ++ [u] ++ [y]))) an = some (.lst bs) := by rw [upd_ne n3]; exact hb1
  have l2 : (upd H1 l (.lst (ln ++ [u] ++ [y]))) l = some (.lst (ln ++ [u] ++ [y])) := upd_same
  have ex2 : ExP x l an H (upd H1 l (.lst (ln ++ [u] ++ [y]))) := fun b o nx nl _ e => by rw [upd_ne nl]; exact s1 _ _ e
  have iy2 : IsDt (upd H1 l (.lst (ln ++ [u] ++ [y]))) (tdat ((kids t)[i.toNat])) y := IsDt.mono (Tups.lst hl1) iy
  generalize upd H1 l (.lst (ln ++ [u] ++ [y])) = H2 at x2 p2 b2 l2 ex2 iy2 ⊢
  refine ⟨_, rfl, x, C, dx, _, _, rfl, x2, C_Place, N.path, lk2 _ _ _ _, _, rfl, (by show 1 ≤ sizeLine; decide), fun q hq => .inr (.inr (.inr ⟨tp, q, js, [.int i], rfl, rfl, same_new hq _ _ _ p2, upd_same, Nat.le_of_lt (line1 (by simp; omega)), fun tp' H3 s3 htp' => ?_⟩))⟩
  have s23 : Same H2 H3 := (same_new hq _).trans s3
  have x3 := s23 _ _ x2
  refine ⟨_, rfl, x, C, dx, _, rfl, x3, C_Place, N.path, by simp, ?_⟩
  rw [pf5]
  have l3 := s23 _ _ l2
  have b3 := s23 _ _ b2
  have nt1 : tp' ≠ x := fun z => by rw [z, x3] at htp'; cases htp'
  have nt2 : tp' ≠ l := fun z => by rw [z, l3] at htp'; cases htp'
  have nt3 : tp' ≠ an := fun z => by rw [z, b3] at htp'; cases htp'
  generalize hG : upd H3 x _ = H4
  have x4 : H4 x = some (.ins C dx [(Str.ofString "line", .ref l), (Str.ofString "path", .ref tp'), (Str.ofString "anew", .ref an), (Str.ofString "around", .ref ar)]) := by rw [← hG]; exact upd_same
  have k4 : ∀ b o, b ≠ x → H3 b = some o → H4 b = some o := fun b o n e => by rw [← hG, upd_ne n]; exact e
  clear hG
  have l4 := k4 l _ n1 l3
  have b4 := k4 an _ n2 b3
  have t4 := k4 tp' _ nt1 htp'
  have iy4 : IsDt H4 (tdat ((kids t)[i.toNat])) y := IsDt.mono (fun b xs e => k4 b _ (ne_of (s23 _ _ e) x3 (by intro z; cases z)) (s23 _ _ e)) iy2
  refine ⟨_, rfl, x, C, dx, _, _, rfl, x4, C_Place, N.anew, lk3 _ _ _ _, .inl ⟨rfl, _, SqL.of b4⟩, an, _, _, rfl, rfl, b4, line1 (by omega), ?_⟩
  refine fin hin tp' _ (fun b o nx nl na e => by rw [upd_ne na]; exact k4 b o nx (s23 _ _ (ex2 b o nx nl na e))) ⟨?_, ⟨ln ++ [u], y, ?_, by simp; omega, ?_⟩, ⟨js ++ [.int i], ?_, by simp; omega⟩, ⟨_, upd_same, by simp; omega⟩, n1, n2, n3, nt1, nt2, nt3⟩
  · rw [upd_ne n2.symm]; exact x4
  · rw [upd_ne n3.symm]; exact l4
  · exact IsDt.mono (Tups.lst b4) iy4
  · rw [upd_ne nt3]; exact t4
theorem sc_many_shared : FnScope ["one", "other", "low", "high", "middle"] ["one", "other"] (defScope (top 8)) := ⟨rfl, rfl, rfl, by decide +kernel, rfl, by decide +kernel, by decide +kernel⟩
def spMs : Sp := fun vs H Q _ => ∃ (a b : Addr) (xs : List V), vs = [.ref a, .ref b] ∧ H a = some (.tup xs) ∧ H b = some (.tup []) ∧ Q (.int 0) H
theorem ok_ms (T : Tx mg) (D : Df K mg "many_shared" (top 8) f fd ["one", "other"]) : FnOk P w K mg base CX0 1 f fd ["one", "other"] spMs := by
  refine D.fn.okH sc_many_shared (fun vs H Q E h => ?_) (fun cdv A outer s H vs Q E hr h => ?_)
  · obtain ⟨a, b, xs, rfl, _⟩ := h; rfl
  obtain ⟨a, b, xs, rfl, ha, hb, q⟩ := h
  have hu := u110 hr
  have hu0 := u0 hr
  have hu1 := hu_of hr
  refine ⟨_, (wss_cons (ws_set (i := 2) sc_many_shared.nd rfl (Or.inl rfl) we_int)
      (wss_cons (ws_set (i := 3) sc_many_shared.nd rfl (Or.inl rfl) (we_callB (call_min2 rfl) rfl T.z_min bt_min (wa_cons (we_callB call_lenU rfl T.z_len bt_len (wa_cons (wv 0) wa_nil)) (wa_cons (we_callB call_lenU rfl T.z_len bt_len (wa_cons (wv 1) wa_nil)) wa_nil))))
      (wss_cons (ws_while PassesOwn.never (wt_cmpR (op_ltU hu0) (wv 2) (wv 3) (nomark _)) (wss_cons (ws_set (i := 4) sc_many_shared.nd rfl (Or.inl rfl) (we_op op_fdivB (we_op op_plus (we_op op_plus (wv 2) (wv 3)) we_int) we_int))
      (wss_one (ws_if (wt_cmpR (op_eqU hu) (we_slice sl_U (wv 0) (wo_some (wv 2)) (wo_some (wv 4))) (we_slice sl_U (wv 1) (wo_some (wv 2)) (wo_some (wv 4))) (nomark _)) (wss_one (ws_set (i := 2) sc_many_shared.nd rfl (Or.inl rfl) (wv 4))) (wss_one (ws_set (i := 3) sc_many_shared.nd rfl (Or.inl rfl) (we_op op_sub (wv 4) we_int)))))))
      (wss_one (ws_ret (wv 2)))))), ?_⟩
  refine ⟨_, rfl, .inl ⟨a, _, rfl, .inr (SqT.of ha), _, rfl, .inl ⟨b, _, rfl, .inr (SqT.of hb), _, _, rfl, ?_⟩⟩⟩
  have e0 : (if ((([] : List V).length : Nat) : Int) < ((xs.length : Nat) : Int) then ((([] : List V).length : Nat) : Int) else ((xs.length : Nat) : Int)) = 0 := by
    split
    · rfl
    · simp only [List.length_nil] at *; omega
  rw [e0]
  refine ⟨fun _ σ' H' => σ' = [some (.ref a), some (.ref b), some (.int 0), some (.int 0), none] ∧ H' = H, ⟨0, rfl, rfl⟩, ?_⟩
  rintro m σ H' ⟨rfl, rfl⟩
  refine ⟨_, rfl, _, rfl, .inl ⟨_, _, rfl, rfl, _, rfl, iteN (by decide) ?_⟩⟩
  exact ⟨_, rfl, q⟩
theorem sc_Place_go : FnScope ["self", "path", "shared", "step"] ["self", "path"] (defScope (mtop 7 2)) := ⟨rfl, rfl, rfl, by decide +kernel, rfl, by decide +kernel, by decide +kernel⟩
def spGo (C : Addr) : Sp := fun vs H Q _ => ∃ (x dx l tp an ar pt : Addr) (d : Nat) (t : Tr) (is : List Int), vs = [.ref x, .ref pt] ∧ Pl C H x dx l tp an ar 0 t ∧ TH d t ∧ H pt = some (.tup (is.map V.int)) ∧ is.length ≤ 900 ∧
  (walkT t is = none → ∀ H', ExP x l an H H' → Q (.bl false) H') ∧ (∀ (t' : Tr) (tp' : Addr) (k : Nat) (H' : Hp), walkT t is = some t' → ExP x l an H H' → Pl C H' x dx l tp' an ar k t' → Q (.bl true) H')
theorem Pl.ne {H : Hp} {x dx l tp an ar : Addr} {k : Nat} {t : Tr} (h : Pl C H x dx l tp an ar k t) {b : Addr} {xs : List V} (e : H b = some (.tup xs)) : b ≠ x ∧ b ≠ l ∧ b ≠ an := by
  obtain ⟨hx, ⟨ln, u, hl, _⟩, _, ⟨bs, hb, _⟩, _⟩ := h
  exact ⟨ne_of e hx (by intro z; cases z), ne_of e hl (by intro z; cases z), ne_of e hb (by intro z; cases z)⟩
theorem ok_go (T : Tx mg) (C_Place : Cls K C) (N : NA K C) (D : Mf K C "go" "Place.go" (mtop 7 2) f fd ["self", "path"]) (D_many_shared : Df K mg "many_shared" (top 8) f_ms fd_ms ["one", "other"]) (G_many_shared : FnOk P w K mg base CX0 1 f_ms fd_ms ["one", "other"] spMs)
    (D_Place_down : Mf K C "down" "Place.down" (mtop 7 3) f_down fd_down ["self", "step"]) (G_Place_down : FnOk P w K mg base CX0 2 f_down fd_down ["self", "step"] (spDown C)) :
    FnOk P w K mg base CX0 3 f fd ["self", "path"] (spGo C) := by
  refine D.fn.okH sc_Place_go (fun vs H Q E h => ?_) (fun cdv A outer s H vs Q E hr h => ?_)
  · obtain ⟨x, dx, l, tp, an, ar, pt, d, t, is, rfl, _⟩ := h; rfl
  obtain ⟨x, dx, l, tp, an, ar, pt, d, t, is, rfl, pl, th, hpt, l900, fout, fin⟩ := h
  have hu := u110 hr
  have hu0 := u0 hr
  have hu1 := hu_of hr
  refine ⟨_, (wss_cons (ws_set (i := 2) sc_Place_go.nd rfl (Or.inl rfl) (we_call G_many_shared (hr.mono (by omega)) rfl D_many_shared.mg D_many_shared.kp D_many_shared.b .nil pass0 (wa_cons (wv 1) (wa_cons (we_fld (wv 0)) wa_nil))))
      (wss_cons (ws_while PassesOwn.never (wt_cmpR op_gt (we_callB call_lenU rfl T.z_len bt_len (wa_cons (we_fld (wv 0)) wa_nil)) (wv 2) (nomark _)) (wss_one ws_dead))
      (wss_cons (ws_for PassesOwn.never rfl (wi_U (we_slice sl_U (wv 1) (wo_some (wv 2)) wo_none)) (wg_name (i := 3) sc_Place_go.nd rfl (Or.inl rfl)) (wss_one (ws_if (wt_not (wt_val (we_meth (wv 0) C_Place D_Place_down.mt G_Place_down (hr.mono (by omega)) D_Place_down.b .nil pass0 (wa_cons (wv 3) wa_nil)))) (wss_one (ws_ret we_bl)) wss_nil)))
      (wss_one (ws_ret we_bl))))), ?_⟩
  have hx := pl.1
  obtain ⟨js, hj, lj⟩ := pl.2.2.1
  have ej : js = [] := List.length_eq_zero_iff.mp (by omega)
  subst ej
  have npt := pl.ne hpt
  refine ⟨_, rfl, _, rfl, x, C, dx, _, _, rfl, hx, C_Place, N.path, lk2 _ _ _ _, pt, tp, _, rfl, hpt, hj, ?_⟩
  refine ⟨fun _ σ' H' => σ' = [some (.ref x), some (.ref pt), some (.int 0), none] ∧ H' = H, ⟨0, rfl, rfl⟩, ?_⟩
  rintro m σ H' ⟨rfl, rfl⟩
  refine ⟨_, rfl, x, C, dx, _, _, rfl, hx, C_Place, N.path, lk2 _ _ _ _, .inl ⟨tp, _, rfl, .inr (SqT.of hj), _, rfl, _, _, rfl, rfl, _, rfl, iteN (by decide) ?_⟩⟩
  have z0 : HT.sIx (is.map V.int).length 0 (some 0) = 0 := by
    have h := HT.sIx_nat (is.map V.int).length 0 0
    rw [show ((0 : Nat) : Int) = 0 from rfl] at h
    rw [h]; omega
  refine .inr ⟨_, rfl, _, rfl, _, rfl, .inr (.inr (.inl ⟨pt, _, rfl, SqT.of hpt, z0, rfl, pt, rfl, ⟨_, SqT.of hpt⟩, ?_⟩))⟩
  refine for_tup (K := K) (a := pt) (xs := is.map V.int) (fun i σ H1 => ∃ (tp' : Addr) (t' : Tr) (e : Nat) (o3 : Option V), σ = [some (.ref x), some (.ref pt), some (.int 0), o3] ∧ ExP x l an H' H1 ∧ Pl C H1 x dx l tp' an ar i t' ∧ TH e t' ∧ walkT t is = walkT t' (is.drop i))
    ⟨tp, t, d, none, rfl, fun _ _ _ _ _ e => e, pl, th, rfl⟩ (fun i σ H1 _ ⟨_, _, _, _, _, ex, _⟩ => SqT.of (ex pt _ npt.1 npt.2.1 npt.2.2 hpt)) ?turn ?done
  case turn =>
    rintro i y σ H1 hy ⟨tp', t', e, o3, rfl, ex, pl', th', ew⟩
    have hi : i < is.length := by have := (List.getElem?_eq_some_iff.mp hy).1; simpa using this
    have ey : y = .int is[i] := by rw [List.getElem?_map, List.getElem?_eq_getElem hi] at hy; injection hy with hy; exact hy.symm
    subst ey
    have ed : is.drop i = is[i] :: is.drop (i + 1) := List.drop_eq_getElem_cons hi
    rw [ed] at ew
    refine ⟨_, rfl, x, dx, _, rfl, pl'.1, lkd _ _ _ _, _, rfl, x, dx, l, tp', an, ar, i, e, t', is[i], rfl, pl', th', by omega, fun hout H2 s2 => ⟨_, rfl, iteP rfl ?_⟩, fun hin tp2 H2 ex2 pl2 => ⟨_, rfl, iteN (by decide) ?_⟩⟩
    · rw [walkT_out hout] at ew
      exact fout ew H2 (ex.trans fun b o _ _ _ h => s2 b o h)
    · rw [walkT_in hin] at ew
      obtain ⟨e2, he2, th2⟩ := th'.sub _ (List.getElem_mem (show (is[i]).toNat < (kids t').length by omega))
      exact ⟨tp2, _, e2, _, rfl, ex.trans ex2, pl2, th2, ew⟩
  case done =>
    rintro σ H1 ⟨tp', t', e, o3, rfl, ex, pl', th', ew⟩
    rw [List.length_map, List.drop_length, walkT] at ew
    exact fin t' tp' _ H1 ew ex (by simpa using pl')
theorem sc_at_path : FnScope ["question", "path", "place"] ["question", "path"] (defScope (top 12)) := ⟨rfl, rfl, rfl, by decide +kernel, rfl, by decide +kernel, by decide +kernel⟩
def spAt : Sp := fun vs H Q _ => ∃ (v : V) (pt : Addr) (d : Nat) (t : Tr) (is : List Int), vs = [v, .ref pt] ∧ IsDt H (tdat t) v ∧ TH d t ∧ H pt = some (.tup (is.map V.int)) ∧ is.length ≤ 900 ∧
  (walkT t is = none → ∀ H', Same H H' → Q .non H') ∧ (∀ (t' : Tr) (r : V) (H' : Hp), walkT t is = some t' → Same H H' → IsDt H' (tdat t') r → Q r H')
theorem ok_at (T : Tx mg) (C_Place : Cls K C) (N : NA K C) (M_Place : Mk K C f_init) (D_Place : mg "Place" = some (.ref C)) (D : Df K mg "at_path" (top 12) f fd ["question", "path"])
    (D_Place___init__ : Mf K C "__init__" "Place.__init__" (mtop 7 0) f_init fd_init ["self", "question"]) (G_Place___init__ : FnOk P w K mg base CX0 1 f_init fd_init ["self", "question"] (spInit C))
    (D_Place_knot : Mf K C "knot" "Place.knot" (mtop 7 1) f_knot fd_knot ["self"]) (G_Place_knot : FnOk P w K mg base CX0 1 f_knot fd_knot ["self"] (spKnot C))
    (D_Place_go : Mf K C "go" "Place.go" (mtop 7 2) f_go fd_go ["self", "path"]) (G_Place_go : FnOk P w K mg base CX0 3 f_go fd_go ["self", "path"] (spGo C)) :
    FnOk P w K mg base CX0 4 f fd ["question", "path"] spAt := by
  refine D.fn.okH sc_at_path (fun vs H Q E h => ?_) (fun cdv A outer s H vs Q E hr h => ?_)
  · obtain ⟨v, pt, d, t, is, rfl, _⟩ := h; rfl
  obtain ⟨v, pt, d, t, is, rfl, iv, th, hpt, l900, fout, fin⟩ := h
  have hu := u110 hr
  have hu0 := u0 hr
  have hu1 := hu_of hr
  refine ⟨_, (wss_cons (ws_set (i := 2) sc_at_path.nd rfl (Or.inl rfl) (we_make M_Place G_Place___init__ (hr.mono (by omega)) rfl D_Place D_Place___init__.b .nil pass0 (wa_cons (wv 0) wa_nil)))
      (wss_one (ws_ret (we_ifExp (wt_val (we_meth (wv 2) C_Place D_Place_go.mt G_Place_go (hr.mono (by omega)) D_Place_go.b .nil pass0 (wa_cons (wv 1) wa_nil))) (we_meth0 (wv 2) C_Place D_Place_knot.mt G_Place_knot (hr.mono (by omega)) D_Place_knot.b .nil pass0) we_non)))), ?_⟩
  refine ⟨_, rfl, fun x dx hx hdx ne => ?_⟩
  have s0 : Same H (upd (upd H dx (.own x)) x (.ins C dx [])) := (same_new hdx _).trans (same_new (by rw [upd_ne ne.symm]; exact hx) _)
  have x0 : (upd (upd H dx (.own x)) x (.ins C dx [])) x = some (.ins C dx []) := upd_same
  generalize upd (upd H dx (.own x)) x (.ins C dx []) = H0 at s0 x0 ⊢
  refine ⟨x, dx, v, t, rfl, x0, IsDt.mono s0.tups iv, fun l tp an ar H1 k1 pl hl han => ⟨rfl, ?_⟩⟩
  have s1 : Same H H1 := fun b o e => k1 b o (ne_of_none e hx) (s0 _ _ e)
  have hlH := same_back s0 hl
  have hanH := same_back s0 han
  have back : ∀ {H2 : Hp}, ExP x l an H1 H2 → Same H H2 := fun {H2} ex b o e => ex b o (ne_of_none e hx) (ne_of_none e hlH) (ne_of_none e hanH) (s1 _ _ e)
  refine ⟨_, rfl, x, dx, _, rfl, pl.1, lkg _ _ _ _, _, rfl, x, dx, l, tp, an, ar, pt, d, t, is, rfl, pl, th, s1 _ _ hpt, l900, fun ew H2 ex => ⟨_, rfl, iteF ?_⟩, fun t' tp' k H2 ew ex pl2 => ⟨_, rfl, iteT ?_⟩⟩
  · exact fout ew H2 (back ex)
  · exact ⟨_, rfl, x, dx, _, rfl, pl2.1, lkk _ _ _ _, x, dx, l, tp', an, ar, k, t', rfl, pl2, fun r ir => fin t' r H2 ew (back ex) ir⟩
end
end K46
end
section
set_option Elab.async false
set_option linter.all false
set_option maxRecDepth 100000
set_option maxHeartbeats 4000000
namespace K46
open PySem L2 Kn
def DkE (H : Hp) (p c : Addr) : Prop := ∃ m, Dk H p c m
theorem DkE.keep {H H' : Hp} {p c : Addr} (h : DkE H p c) (s : Same H H') : DkE H' p c := let ⟨m, d⟩ := h; ⟨m, d.keep s⟩
theorem DkE.new {H : Hp} {p c q : Addr} {o : HO} (h : DkE H p c) (hq : H q = none) : DkE (upd H q o) p c := let ⟨m, d⟩ := h; ⟨m, d.new hq⟩
theorem DkE.ne {H : Hp} {p c q : Addr} (h : DkE H p c) (hq : H q = none) : q ≠ p ∧ q ≠ c := let ⟨_, d⟩ := h; d.ne hq
theorem DkE.tups {H H' : Hp} {p c : Addr} (h : DkE H p c) (x : ExD p c H H') : Tups H H' := let ⟨_, d⟩ := h; d.tups x
theorem DkE.dk {H H' : Hp} {p c : Addr} (h : DkE H p c) (x : ExD p c H H') {b : Addr} {kvs : List (Key × V)} (e : H b = some (.dK kvs)) : H' b = some (.dK kvs) := let ⟨_, d⟩ := h; d.dk x e
def kNum : Tr := .node (Str.ofString "num") [] []
def kWord : Tr := .node (Str.ofString "word") [] []
def kBagN : Tr := .node (Str.ofString "bag") [] [kNum]
def kPair : Tr := .row [(Str.ofString "a", kNum), (Str.ofString "w", kWord)]
def kWide : Tr := .row [(Str.ofString "a", kNum), (Str.ofString "c", kBagN), (Str.ofString "f", kWord), (Str.ofString "k", kNum)]
def kX : Tr := .row [(Str.ofString "b", kBagN), (Str.ofString "p", kPair)]
def kK : Tr := .row [(Str.ofString "k", kNum)]
theorem kg_rows {d : Nat} {ps : List (Str × Tr)} (hl : ps.length ≤ 14) (h : ∀ p ∈ ps, p.1.length ≤ 10 ∧ KG d p.2) : KG (d + 1) (.row ps) := .row hl (fun p hp => (h p hp).1) fun p hp => (h p hp).2
theorem kg_pair : KG 1 kPair := kg_rows (by decide) (two_mem ⟨by decide +kernel, .num⟩ ⟨by decide +kernel, .word⟩)
theorem kg_k : KG 1 kK := kg_rows (by decide) (one_mem ⟨by decide +kernel, .num⟩)
theorem kg_x : KG 2 kX := kg_rows (by decide) (two_mem ⟨by decide +kernel, .bag (d := 0) .num⟩ ⟨by decide +kernel, kg_pair⟩)
theorem kg_wide : KG 2 kWide := kg_rows (by decide) fun p hp => by
  simp only [List.mem_cons, List.not_mem_nil, or_false] at hp
  rcases hp with rfl | rfl | rfl | rfl
  · exact ⟨by decide +kernel, .num⟩
  · exact ⟨by decide +kernel, .bag (d := 0) .num⟩
  · exact ⟨by decide +kernel, .word⟩
  · exact ⟨by decide +kernel, .num⟩
theorem isDt_s {H : Hp} (s : Str) : IsDt H (.str s) (.str s) := by rw [IsDt]
section
variable {P : Program} {w : World} {K : PySem.W.Frag} {mg : Str → Option Value} {base : Heap} {f f_take f_stock : Addr} {fd fd_take fd_stock : FuncData}
theorem sc__law_deck : FnScope ["script", "most", "cells", "k", "mixed"] ["script", "most"] (defScope (top 14)) := ⟨rfl, rfl, rfl, by decide +kernel, rfl, by decide +kernel, by decide +kernel⟩
def spDeck (K : PySem.W.Frag) : Sp := fun vs H Q _ => ∃ (a : Addr) (ns : List Int) (m : Int), vs = [.ref a, .int m] ∧ SqL K H a (ns.map V.int) ∧ ns.length ≤ 63 ∧
  ∀ (p c : Addr) (H' : Hp), Same H H' → H p = none → H c = none → Dk H' p c m → Q (.ref p) H'
theorem cut63 {xs : List V} (h : xs.length ≤ 63) : cutV xs none (some 63) = xs := by
  have e0 : HT.sIx xs.length 0 none = 0 := rfl
  have e1 : HT.sIx xs.length xs.length (some 63) = xs.length := by
    unfold HT.sIx
    simp only []
    split <;> (try split) <;> omega
  unfold cutV
  rw [e0, e1, List.drop_zero, Nat.sub_zero, List.take_length]
theorem ok_deck (T : Tx mg) (D : Df K mg "_law_deck" (top 14) f fd ["script", "most"]) : FnOk P w K mg base CX0 1 f fd ["script", "most"] (spDeck K) := by
  refine D.fn.okH sc__law_deck (fun vs H Q E h => ?_) (fun cdv A outer s H vs Q E hr h => ?_)
  · obtain ⟨a, ns, m, rfl, _⟩ := h; rfl
  obtain ⟨a, ns, m, rfl, hS, h63, fin⟩ := h
  have hu := u110 hr
  have hu0 := u0 hr
  have hu1 := hu_of hr
  have hl' : (ns.map V.int).length ≤ 63 := by rw [List.length_map]; exact h63
  refine ⟨_, (wss_cons (ws_set (i := 2) sc__law_deck.nd rfl (Or.inl rfl) (we_op op_plus (we_slice sl_U (wv 0) wo_none (wo_some we_int)) (we_lst (wa_cons (we_callB call_lenU rfl T.z_len bt_len (wa_cons (wv 0) wa_nil)) wa_nil))))
      (wss_cons (ws_if (wt_cmpR (op_eqU hu) (we_op op_mod (we_callB (call_sumL rfl) rfl T.z_sum bt_sum (wa_cons (we_slice sl_U (wv 0) wo_none (wo_some we_int)) wa_nil)) we_int) we_int (nomark _)) (wss_one (ws_for PassesOwn.never rfl (wi_range1 rfl T.z_range (wa_cons (we_callB call_lenU rfl T.z_len bt_len (wa_cons (wv 2) wa_nil)) wa_nil)) (wg_name (i := 3) sc__law_deck.nd rfl (Or.inl rfl)) (wss_cons (ws_set (i := 4) sc__law_deck.nd rfl (Or.inl rfl) (we_op op_mod (we_op op_mul (we_op op_plus (we_op op_plus (we_op op_mod (we_ix (ix_U hu1) (wv 2) (wv 3) (fun _ _ => rfl)) we_int) (we_op op_mul we_int (wv 3))) we_int) we_int) we_int))
      (wss_cons (ws_set (i := 4) sc__law_deck.nd rfl (Or.inl rfl) (we_op op_mod (we_op op_mul (we_op op_mod (we_op op_plus (we_op op_mul (wv 4) (wv 4)) (we_op op_mul we_int (wv 3))) we_int) we_int) we_int))
      (wss_one (ws_asg (we_op op_plus (we_op op_mul (we_op op_mul (wv 4) (wv 4)) we_int) (we_op op_mod (we_op op_mul (wv 4) we_int) we_int)) (wg_sub (wv 2) (wv 3) (set_U hu1)))))))) wss_nil)
      (wss_one (ws_ret (we_lst (wa_cons (wv 2) (wa_cons we_int (wa_cons (wv 1) wa_nil)))))))), ?_⟩
  refine ⟨_, rfl, _, rfl, .inl ⟨a, _, rfl, hS, fun q hq => ?_⟩⟩
  rw [cut63 hl']
  refine ⟨_, rfl, .inl ⟨a, _, rfl, .inl ((same_new hq _).seq hS), (by show 1 ≤ sizeLine; decide), fun q2 hq2 => ?_⟩⟩
  have hq' : (upd (upd H q (.lst (ns.map V.int))) q2 (.lst [.int ((ns.map V.int).length : Nat)])) q = some (.lst (ns.map V.int)) := by rw [upd_ne (ne_of_none upd_same hq2)]; exact upd_same
  refine .inr (.inr (.inl ⟨q, q2, ns.map V.int, [.int ((ns.map V.int).length : Nat)], rfl, rfl, hq', upd_same, Nat.le_of_lt (line1 (by simp; omega)), fun c hc => ?_⟩))
  have s1 : Same H (upd (upd (upd H q (.lst (ns.map V.int))) q2 (.lst [.int ((ns.map V.int).length : Nat)])) c (.lst (ns.map V.int ++ [.int ((ns.map V.int).length : Nat)]))) := ((same_new hq _).trans (same_new hq2 _)).trans (same_new hc _)
  have hcH : H c = none := same_back ((same_new hq (.lst (ns.map V.int))).trans (same_new hq2 (.lst [.int ((ns.map V.int).length : Nat)]))) hc
  have hC : (upd (upd (upd H q (.lst (ns.map V.int))) q2 (.lst [.int ((ns.map V.int).length : Nat)])) c (.lst (ns.map V.int ++ [.int ((ns.map V.int).length : Nat)]))) c = some (.lst ((ns ++ [(ns.length : Int)]).map V.int)) := by rw [upd_same, List.map_append, List.length_map]; rfl
  generalize upd (upd (upd H q (.lst (ns.map V.int))) q2 (.lst [.int ((ns.map V.int).length : Nat)])) c (.lst (ns.map V.int ++ [.int ((ns.map V.int).length : Nat)])) = H1 at s1 hC ⊢
  have hS1 := s1.seq hS
  refine ⟨_, rfl, _, rfl, .inl ⟨a, _, rfl, hS1, fun q3 hq3 => ?_⟩⟩
  rw [cut63 hl']
  refine ⟨q3, ns, rfl, SqL.of upd_same, _, _, rfl, rfl, (by show (0 : Int) < 2; decide), .inl ⟨rfl, _, rfl, ?_⟩⟩
  have s2 : Same H1 (upd H1 q3 (.lst (ns.map V.int))) := same_new hq3 _
  have hC2 := s2 _ _ hC
  have s12 := s1.trans s2
  generalize upd H1 q3 (.lst (ns.map V.int)) = H2 at s2 hC2 s12 ⊢
  have ending : ∀ (H3 : Hp) (cs : List Int), (∀ b o, b ≠ c → H2 b = some o → H3 b = some o) → H3 c = some (.lst (cs.map V.int)) → 1 ≤ cs.length → cs.length ≤ 64 → ∀ p, H3 p = none → Q (.ref p) (upd H3 p (.lst [.ref c, .int 0, .int m])) := fun H3 cs k3 h3 l1 l64 p hp => by
    have npc : c ≠ p := ne_of_none h3 hp
    have sH3 : Same H H3 := fun b o e => k3 b o (ne_of_none e hcH) (s12 _ _ e)
    exact fin p c _ (sH3.trans (same_new hp _)) (same_back sH3 hp) hcH ⟨0, cs, upd_same, by rw [upd_ne npc]; exact h3, l1, l64, by decide, npc⟩
  refine ite2 (fun e => ?_) (fun e => ?_)
  · have hlen : ((ns ++ [(ns.length : Int)]).map V.int).length = ns.length + 1 := by simp
    refine ⟨_, rfl, .inl ⟨c, _, rfl, .inl (SqL.of hC2), _, rfl, by omega, by omega, ?_⟩⟩
    refine for_range (n := ((((ns ++ [(ns.length : Int)]).map V.int).length : Nat) : Int).toNat) (fun i σ H3 => ∃ (cs : List Int) (o3 o4 : Option V), σ = [some (.ref a), some (.int m), some (.ref c), o3, o4] ∧ (∀ b o, b ≠ c → H2 b = some o → H3 b = some o) ∧ H3 c = some (.lst (cs.map V.int)) ∧ cs.length = ns.length + 1)
      ⟨_, none, none, rfl, fun _ _ _ h => h, hC2, by simp⟩ ?turn ?done
    case done =>
      rintro σ H3 ⟨cs, o3, o4, rfl, k3, h3, lc⟩
      exact ⟨_, rfl, _, rfl, (by show 3 ≤ sizeLine; decide), fun p hp => ending H3 cs k3 h3 (by omega) (by omega) p hp⟩
    case turn =>
      rintro i σ H3 hi ⟨cs, o3, o4, rfl, k3, h3, lc⟩
      have hi' : i < ns.length + 1 := by omega
      have lcm : (cs.map V.int).length = ns.length + 1 := by rw [List.length_map]; exact lc
      obtain ⟨v, hv, hvm⟩ := atI_mem (xs := cs.map V.int) (r := 0 + (i : Int)) (by omega) (by omega)
      obtain ⟨cell, _, rfl⟩ := List.mem_map.mp hvm
      refine ⟨_, rfl, _, rfl, .inl ⟨c, _, _, _, rfl, rfl, SqL.of h3, hv, _, _, rfl, rfl, (by show (0 : Int) < 2147483587; decide), _, rfl, _, _, rfl, rfl, .inl ⟨by decide, by decide⟩, .inl ⟨_, _, rfl, rfl, .inl ⟨_, _, rfl, rfl, _, _, rfl, rfl, .inr ⟨by decide, by decide⟩, _, _, rfl, rfl, (by show (0 : Int) < 2147483629; decide), ?_⟩⟩⟩⟩
      refine ⟨_, rfl, _, rfl, _, _, rfl, rfl, .inl (bm _ _ (by decide) (by decide)), _, rfl, _, _, rfl, rfl, .inl ⟨by decide, by decide⟩, .inl ⟨_, _, rfl, rfl, _, _, rfl, rfl, (by show (0 : Int) < 2147483563; decide), _, _, rfl, rfl, .inr ⟨by decide, by decide⟩, _, _, rfl, rfl, (by show (0 : Int) < 2147483549; decide), ?_⟩⟩
      refine ⟨_, rfl, _, rfl, _, _, rfl, rfl, .inl (bm _ _ (by decide) (by decide)), _, _, rfl, rfl, .inr ⟨by decide, by decide⟩, _, rfl, _, _, rfl, rfl, .inr ⟨by decide, by decide⟩, _, _, rfl, rfl, (by show (0 : Int) < 2147483579; decide), .inl ⟨_, _, rfl, rfl, ?_⟩⟩
      refine ⟨_, rfl, _, rfl, .inl ⟨c, _, _, _, rfl, rfl, h3, ixN_lt (by omega) (by omega), ?_⟩⟩
      refine ⟨cs.set (0 + (i : Int)).toNat _, _, _, rfl, fun b o n e => by rw [upd_ne n]; exact k3 b o n e, by rw [upd_same, List.map_set], by rw [List.length_set]; exact lc⟩
  · exact ⟨_, rfl, _, rfl, (by show 3 ≤ sizeLine; decide), fun p hp => ending H2 _ (fun _ _ _ h => h) hC2 (by simp) (by simp; omega) p hp⟩
theorem sc__law_stock : FnScope ["pair", "wide"] [] (defScope (top 16)) := ⟨rfl, rfl, rfl, by decide +kernel, rfl, by decide +kernel, by decide +kernel⟩
/-- the four kinds, in a dict -/
def Stock (H : Hp) (q : Addr) : Prop := ∃ d b e x : V, H q = some (.dK [(Sum.inr (Str.ofString "d"), d), (Sum.inr (Str.ofString "b"), b), (Sum.inr (Str.ofString "e"), e), (Sum.inr (Str.ofString "x"), x)]) ∧ IsDt H (tdat kPair) d ∧ IsDt H (tdat kNum) b ∧ IsDt H (tdat kWide) e ∧ IsDt H (tdat kX) x
def spStock : Sp := fun vs H Q _ => vs = [] ∧ ∀ (q : Addr) (H' : Hp), Same H H' → H q = none → Stock H' q → Q (.ref q) H'
theorem ok_stock (T : Tx mg) (D : Df K mg "_law_stock" (top 16) f fd []) : FnOk P w K mg base CX0 1 f fd [] spStock := by
  refine D.fn.okH sc__law_stock (fun vs H Q E h => ?_) (fun cdv A outer s H vs Q E hr h => ?_)
  · obtain ⟨rfl, _⟩ := h; rfl
  obtain ⟨rfl, fin⟩ := h
  have hu := u110 hr
  have hu1 := hu_of hr
  refine ⟨_, (wss_cons (ws_set (i := 0) sc__law_stock.nd rfl (Or.inl rfl) (we_dt rfl))
      (wss_cons (ws_set (i := 1) sc__law_stock.nd rfl (Or.inl rfl) (we_dt rfl))
      (wss_one (ws_ret (we_disp (wps_cons we_str (wv 0) (wps_cons we_str (we_dt rfl) (wps_cons we_str (wv 1) (wps_cons we_str (we_tup (wa_cons we_str (wa_cons (we_tup (wa_cons (we_dt rfl) (wa_cons (we_tup (wa_cons we_str (wa_cons (wv 0) wa_nil))) wa_nil))) wa_nil))) wps_nil)))) rfl rfl (by simp) (by decide)))))), ?_⟩
  intro pr H1 s1 ip
  intro wd H2 s2 iw
  intro q hq
  have s3 : Same H2 (upd H2 q (.dK [])) := same_new hq _
  have q3 : (upd H2 q (.dK [])) q = some (.dK []) := upd_same
  generalize upd H2 q (.dK []) = H3 at s3 q3 ⊢
  refine ⟨_, rfl, fun nm H4 s4 inm => ⟨_, rfl, fun bb H5 s5 ibb => ⟨_, rfl, (by show 2 ≤ sizeLine; decide), fun t1 ht1 => ⟨(by show 2 ≤ sizeLine; decide), fun t2 ht2 => ⟨(by show 2 ≤ sizeLine; decide), fun t3 ht3 => ?_⟩⟩⟩⟩⟩
  have sT := (same_new ht1 (.tup [.str "p", pr])).trans ((same_new ht2 (.tup [bb, .ref t1])).trans (same_new ht3 (.tup [.str "row", .ref t2])))
  have c1 := isDt_new ht1 (.cons (isDt_s (Str.ofString "p")) (.one (IsDt.mono (s2.trans (s3.trans (s4.trans s5))).tups ip)))
  have c2 := isDt_new ht2 (.cons (IsDt.mono (same_new ht1 _).tups ibb) (.one c1))
  have c3 := isDt_new ht3 (.cons (isDt_s (Str.ofString "row")) (.one c2))
  have s35 := s3.trans (s4.trans (s5.trans sT))
  have s15 := s1.trans (s2.trans s35)
  have qT := sT _ _ (s5 _ _ (s4 _ _ q3))
  refine ⟨qT, [(Sum.inr (Str.ofString "d"), pr), (Sum.inr (Str.ofString "b"), nm), (Sum.inr (Str.ofString "e"), wd), (Sum.inr (Str.ofString "x"), .ref t3)], rfl, by simp, ?_⟩
  have hqH : H q = none := same_back (s1.trans s2) hq
  have sZ : Same H (upd (upd (upd (upd H5 t1 (.tup [.str "p", pr])) t2 (.tup [bb, .ref t1])) t3 (.tup [.str "row", .ref t2])) q (.dK (mergeK [] [(Sum.inr (Str.ofString "d"), pr), (Sum.inr (Str.ofString "b"), nm), (Sum.inr (Str.ofString "e"), wd), (Sum.inr (Str.ofString "x"), .ref t3)]))) := fun b o e => by rw [upd_ne (ne_of_none e hqH)]; exact s15 _ _ e
  have tZ : ∀ o, Tups (upd (upd (upd H5 t1 (.tup [.str "p", pr])) t2 (.tup [bb, .ref t1])) t3 (.tup [.str "row", .ref t2])) (upd (upd (upd (upd H5 t1 (.tup [.str "p", pr])) t2 (.tup [bb, .ref t1])) t3 (.tup [.str "row", .ref t2])) q o) := fun o b xs e => by rw [upd_ne (ne_of e qT (by intro z; cases z))]; exact e
  refine fin q _ sZ hqH ⟨pr, nm, wd, .ref t3, upd_same, IsDt.mono (tZ _) (IsDt.mono (s2.trans s35).tups ip), IsDt.mono (tZ _) (IsDt.mono (s5.trans sT).tups inm), IsDt.mono (tZ _) (IsDt.mono s35.tups iw), IsDt.mono (tZ _) c3⟩
end
end K46
end
section
set_option Elab.async false
set_option linter.all false
set_option maxRecDepth 100000
set_option maxHeartbeats 4000000
namespace K46
open PySem L2 Kn
theorem dep_tup (ds : List Dt) : (Dt.tup ds).dep = depL ds + 1 := by rw [Dt.dep]
theorem dep_at (a : At) : (atD a).dep ≤ 1 := by cases a <;> (rw [atD, Dt.dep]; try omega)
theorem dep_node {w : Str} {as : List At} {ps : List Tr} {m : Nat} (h1 : 1 ≤ m) (h : ∀ p ∈ ps, (tdat p).dep ≤ m) : (tdat (.node w as ps)).dep ≤ m + 1 := by
  rw [tdat, dep_tup]
  have : depL (.str w :: (as.map atD ++ tdatL ps)) ≤ m := by
    refine depL_le fun e he => ?_
    rcases List.mem_cons.mp he with rfl | he
    · rw [Dt.dep]; omega
    · rcases List.mem_append.mp he with he | he
      · obtain ⟨a, _, rfl⟩ := List.mem_map.mp he
        have := dep_at a; omega
      · rw [tdatL_map] at he
        obtain ⟨p, hp, rfl⟩ := List.mem_map.mp he
        exact h p hp
  omega
theorem dep_rowT {ps : List (Str × Tr)} {m : Nat} (h1 : 1 ≤ m) (h : ∀ p ∈ ps, (tdat p.2).dep ≤ m) : (tdat (.row ps)).dep ≤ m + 3 := by
  rw [tdat, dep_tup]
  have : depL [.str (Str.ofString "row"), .tup (tdatR ps)] ≤ m + 2 := by
    refine depL_le fun e he => ?_
    rcases List.mem_cons.mp he with rfl | he
    · rw [Dt.dep]; omega
    · rw [List.mem_singleton.mp he, dep_tup]
      have : depL (tdatR ps) ≤ m + 1 := by
        refine depL_le fun e he => ?_
        rw [tdatR_map] at he
        obtain ⟨p, hp, rfl⟩ := List.mem_map.mp he
        rw [dep_tup]
        have : depL [.str p.1, tdat p.2] ≤ m := by
          refine depL_le fun e he => ?_
          rcases List.mem_cons.mp he with rfl | he
          · rw [Dt.dep]; omega
          · rw [List.mem_singleton.mp he]; exact h p hp
        omega
      omega
  omega
theorem KG.dep {d : Nat} {t : Tr} (h : KG d t) : (tdat t).dep ≤ 3 * d + 3 := by
  induction h with
  | num => exact Nat.le_trans (dep_node (m := 1) (by decide) nil_mem) (by omega)
  | word => exact Nat.le_trans (dep_node (m := 1) (by decide) nil_mem) (by omega)
  | bag _ ih => exact Nat.le_trans (dep_node (by omega) (one_mem ih)) (by omega)
  | row hl hn _ ih => exact Nat.le_trans (dep_rowT (by omega) ih) (by omega)
theorem TH.dep {d : Nat} {t : Tr} (h : TH d t) : (tdat t).dep ≤ 3 * d + 14 := by
  induction h with
  | atom hw => exact Nat.le_trans (dep_node (m := 1) (by decide) nil_mem) (by omega)
  | none h => exact Nat.le_trans (dep_node (m := 12) (by decide) (one_mem (KG.dep h))) (by omega)
  | row hl _ ih => exact Nat.le_trans (dep_rowT (by omega) ih) (by omega)
  | more hw hl _ ih => exact Nat.le_trans (dep_node (by omega) ih) (by omega)
  | plain hw hr hl _ ih => exact Nat.le_trans (dep_node (by omega) ih) (by omega)
theorem tdat_tup (t : Tr) : ∃ ds, tdat t = .tup ds := by cases t <;> (rw [tdat]; exact ⟨_, rfl⟩)
/-- two kinds compared -/
theorem eqK {H : Hp} {k k2 : Tr} {n : Nat} {u v : V} {Q : VK} (h1 : IsDt H (tdat k) u) (h2 : IsDt H (tdat k2) v) (kg : KG n k) (hn : n ≤ 20) (q : ∀ b, Q (.bl b) H) : rEqD u v H Q := by
  exact ⟨tdat k, tdat k2, h1, h2, by have := KG.dep kg; unfold depMax; omega, q _⟩
/-- kinds of names, n at most -/
def EnvOk (H : Hp) (e : Addr) (n : Nat) : Prop := ∃ kvs : List (Key × V), H e = some (.dK kvs) ∧ kvs.length ≤ n ∧ ∀ kv ∈ kvs, ∃ (s : Str) (k : Tr), kv.1 = Sum.inr s ∧ s.length ≤ 10 ∧ KG 3 k ∧ IsDt H (tdat k) kv.2
theorem EnvOk.keep {H H' : Hp} {e : Addr} {n : Nat} (h : EnvOk H e n) (s : Same H H') : EnvOk H' e n := by
  obtain ⟨kvs, h1, h2, h3⟩ := h
  exact ⟨kvs, s _ _ h1, h2, fun kv hkv => let ⟨z, k, a, b, c, d⟩ := h3 kv hkv; ⟨z, k, a, b, c, IsDt.mono s.tups d⟩⟩
theorem EnvOk.ex {H H' : Hp} {e p c : Addr} {n : Nat} (h : EnvOk H e n) (d : DkE H p c) (x : ExD p c H H') : EnvOk H' e n := by
  obtain ⟨kvs, h1, h2, h3⟩ := h
  exact ⟨kvs, d.dk x h1, h2, fun kv hkv => let ⟨z, k, a, b, c, i⟩ := h3 kv hkv; ⟨z, k, a, b, c, IsDt.mono (d.tups x) i⟩⟩
theorem EnvOk.le {H : Hp} {e : Addr} {n m : Nat} (h : EnvOk H e n) (l : n ≤ m) : EnvOk H e m := by
  obtain ⟨kvs, h1, h2, h3⟩ := h; exact ⟨kvs, h1, by omega, h3⟩
theorem put_mem {kvs : List (Key × V)} {k : Key} {v : V} {kv : Key × V} (h : kv ∈ putK kvs k v) : kv ∈ kvs ∨ kv = (k, v) := by
  unfold putK at h
  split at h
  · obtain ⟨q, hq, e⟩ := List.mem_map.mp h
    by_cases z : q.1 = k
    · rw [if_pos z] at e; right; rw [← e, z]
    · rw [if_neg z] at e; left; rw [← e]; exact hq
  · rcases List.mem_append.mp h with h | h
    · exact .inl h
    · exact .inr (List.mem_singleton.mp h)
theorem valV_mem {kvs : List (Key × V)} {k : Key} (h : k ∈ kvs.map (·.1)) : ∃ kv ∈ kvs, kv.1 = k ∧ valV kvs k = some kv.2 := by
  induction kvs with
  | nil => cases h
  | cons p r ih =>
    by_cases e : p.1 = k
    · exact ⟨p, List.mem_cons_self, e, valV_pos e⟩
    · rw [List.map_cons] at h
      rcases List.mem_cons.mp h with h | h
      · exact absurd h.symm e
      · obtain ⟨kv, h1, h2, h3⟩ := ih h
        exact ⟨kv, List.mem_cons_of_mem _ h1, h2, by rw [valV_neg e]; exact h3⟩
section
variable {P : Program} {w : World} {K : PySem.W.Frag} {mg : Str → Option Value} {base : Heap} {f f_take f_stock : Addr} {fd fd_take fd_stock : FuncData}
theorem sc__law_with : FnScope ["env", "name", "kind", "found"] ["env", "name", "kind"] (defScope (top 18)) := ⟨rfl, rfl, rfl, by decide +kernel, rfl, by decide +kernel, by decide +kernel⟩
def spWith : Sp := fun vs H Q _ => ∃ (e : Addr) (s : Str) (v : V) (k : Tr) (n : Nat), vs = [.ref e, .str s, v] ∧ EnvOk H e n ∧ n ≤ 50 ∧ s.length ≤ 10 ∧ KG 3 k ∧ IsDt H (tdat k) v ∧
  ∀ (e' : Addr) (H' : Hp), Same H H' → H e' = none → EnvOk H' e' (n + 1) → Q (.ref e') H'
theorem ok_with (T : Tx mg) (D : Df K mg "_law_with" (top 18) f fd ["env", "name", "kind"]) : FnOk P w K mg base CX0 1 f fd ["env", "name", "kind"] spWith := by
  refine D.fn.okH sc__law_with (fun vs H Q E h => ?_) (fun cdv A outer s H vs Q E hr h => ?_)
  · obtain ⟨e, z, v, k, n, rfl, _⟩ := h; rfl
  obtain ⟨e, z, v, k, n, rfl, ⟨kvs, he, lk, hkv⟩, n50, lz, kg, iv, fin⟩ := h
  have hu := u110 hr
  have hu1 := hu_of hr
  refine ⟨_, (wss_cons (ws_set (i := 3) sc__law_with.nd rfl (Or.inl rfl) (we_callTy call_dictOf rfl T.z_dict bt_dict (wa_cons (wv 0) wa_nil)))
      (wss_cons (ws_asg (wv 2) (wg_sub (wv 3) (wv 1) (set_U hu1)))
      (wss_one (ws_ret (wv 3))))), ?_⟩
  refine ⟨_, rfl, e, kvs, rfl, he, fun p hp => ?_⟩
  refine ⟨_, rfl, _, rfl, _, rfl, .inr ⟨p, _, rfl, DPut.k (k := Sum.inr z) upd_same (line1 (by omega)), ?_⟩⟩
  have s1 : Same H (upd (upd H p (.dK kvs)) p (.dK (putK kvs (Sum.inr z) v))) := fun b o q => by rw [upd_ne (ne_of_none q hp), upd_ne (ne_of_none q hp)]; exact q
  refine ⟨_, rfl, fin p _ s1 hp ⟨_, upd_same, Nat.le_trans (length_putK _ _ _) (by omega), fun kv hm => ?_⟩⟩
  rcases put_mem hm with hm | rfl
  · obtain ⟨y, k', a, b, c, d⟩ := hkv kv hm
    exact ⟨y, k', a, b, c, IsDt.mono s1.tups d⟩
  · exact ⟨z, k, rfl, lz, kg, IsDt.mono s1.tups iv⟩
theorem sc__law_name : FnScope ["deck", "some"] ["deck"] (defScope (top 19)) := ⟨rfl, rfl, rfl, by decide +kernel, rfl, by decide +kernel, by decide +kernel⟩
def spName : Sp := fun vs H Q _ => ∃ (p c : Addr), vs = [.ref p] ∧ DkE H p c ∧ ∀ (x : Str) (H' : Hp), x.length ≤ 10 → ExD p c H H' → DkE H' p c → Q (.str x) H'
theorem ok_name (T : Tx mg) (D : Df K mg "_law_name" (top 19) f fd ["deck"]) (D__law_take : Df K mg "_law_take" (top 15) f_take fd_take ["deck", "many"]) (G__law_take : FnOk P w K mg base CX0 1 f_take fd_take ["deck", "many"] spTake) :
    FnOk P w K mg base CX0 2 f fd ["deck"] spName := by
  refine D.fn.okH sc__law_name (fun vs H Q E h => ?_) (fun cdv A outer s H vs Q E hr h => ?_)
  · obtain ⟨p, c, rfl, _⟩ := h; rfl
  obtain ⟨p, c, rfl, ⟨m, dk⟩, fin⟩ := h
  have hu := u110 hr
  have hu1 := hu_of hr
  refine ⟨_, (wss_cons (ws_set (i := 1) sc__law_name.nd rfl (Or.inl rfl) (we_lst (wa_consts rfl)))
      (wss_one (ws_ret (we_ix (ix_U hu1) (wv 1) (we_call G__law_take (hr.mono (by omega)) rfl D__law_take.mg D__law_take.kp D__law_take.b .nil pass0 (wa_cons (wv 0) (wa_cons we_int wa_nil))) (fun _ _ => rfl))))), ?_⟩
  refine ⟨(by show 12 ≤ sizeLine; decide), fun l hl => ⟨_, rfl, _, rfl, p, c, m, _, rfl, dk.new hl, by decide, by decide, fun x H1 x0 x1 ex1 dk1 => ?_⟩⟩
  have nl := dk.ne hl
  obtain ⟨v, hv, hvm⟩ := atI_mem (xs := [V.str "x", .str "y", .str "a", .str "d", .str "b", .str "z", .str "c", .str "aa", .str "abc", .str "xx", .str "longname", .str "e"]) x0 x1
  refine .inl ⟨l, _, x, v, rfl, rfl, SqL.of (ex1 l _ nl.1 nl.2 upd_same), hv, ?_⟩
  obtain ⟨z, rfl, hz⟩ : ∃ z : Str, v = .str z ∧ z.length ≤ 10 := by
    simp only [List.mem_cons, List.not_mem_nil, or_false] at hvm
    rcases hvm with rfl | rfl | rfl | rfl | rfl | rfl | rfl | rfl | rfl | rfl | rfl | rfl <;> exact ⟨_, rfl, by decide +kernel⟩
  exact fin z H1 hz ((exd_new hl).trans ex1) ⟨m, dk1⟩
theorem sc__law_kind : FnScope ["deck", "stock", "some"] ["deck"] (defScope (top 20)) := ⟨rfl, rfl, rfl, by decide +kernel, rfl, by decide +kernel, by decide +kernel⟩
def spKind : Sp := fun vs H Q _ => ∃ (p c : Addr), vs = [.ref p] ∧ DkE H p c ∧ ∀ (k : Tr) (v : V) (H' : Hp), KG 2 k → IsDt H' (tdat k) v → ExD p c H H' → DkE H' p c → Q v H'
theorem Stock.d {H : Hp} {q : Addr} (h : Stock H q) : ∃ v, DGet H q (.str "d") (some v) ∧ IsDt H (tdat kPair) v := by
  obtain ⟨d, b, e, x, h1, h2, h3, h4, h5⟩ := h
  exact ⟨d, DGet.k (k := Sum.inr (Str.ofString "d")) h1, h2⟩
theorem Stock.e {H : Hp} {q : Addr} (h : Stock H q) : ∃ v, DGet H q (.str "e") (some v) ∧ IsDt H (tdat kWide) v := by
  obtain ⟨d, b, e, x, h1, h2, h3, h4, h5⟩ := h
  exact ⟨e, DGet.k (k := Sum.inr (Str.ofString "e")) h1, h4⟩
theorem Stock.x {H : Hp} {q : Addr} (h : Stock H q) : ∃ v, DGet H q (.str "x") (some v) ∧ IsDt H (tdat kX) v := by
  obtain ⟨d, b, e, x, h1, h2, h3, h4, h5⟩ := h
  exact ⟨x, DGet.k (k := Sum.inr (Str.ofString "x")) h1, h5⟩
theorem Stock.b {H : Hp} {q : Addr} (h : Stock H q) : ∃ v, DGet H q (.str "b") (some v) ∧ IsDt H (tdat kNum) v := by
  obtain ⟨d, b, e, x, h1, h2, h3, h4, h5⟩ := h
  exact ⟨b, DGet.k (k := Sum.inr (Str.ofString "b")) h1, h3⟩
theorem Stock.keep {H H' : Hp} {q : Addr} (h : Stock H q) (s : Same H H') : Stock H' q := by
  obtain ⟨d, b, e, x, h1, h2, h3, h4, h5⟩ := h
  exact ⟨d, b, e, x, s _ _ h1, IsDt.mono s.tups h2, IsDt.mono s.tups h3, IsDt.mono s.tups h4, IsDt.mono s.tups h5⟩
theorem ok_kind (T : Tx mg) (D : Df K mg "_law_kind" (top 20) f fd ["deck"]) (D__law_take : Df K mg "_law_take" (top 15) f_take fd_take ["deck", "many"]) (G__law_take : FnOk P w K mg base CX0 1 f_take fd_take ["deck", "many"] spTake)
    (D__law_stock : Df K mg "_law_stock" (top 16) f_stock fd_stock []) (G__law_stock : FnOk P w K mg base CX0 1 f_stock fd_stock [] spStock) :
    FnOk P w K mg base CX0 2 f fd ["deck"] spKind := by
  refine D.fn.okH sc__law_kind (fun vs H Q E h => ?_) (fun cdv A outer s H vs Q E hr h => ?_)
  · obtain ⟨p, c, rfl, _⟩ := h; rfl
  obtain ⟨p, c, rfl, ⟨m, dk⟩, fin⟩ := h
  have hu := u110 hr
  have hu1 := hu_of hr
  refine ⟨_, (wss_cons (ws_set (i := 1) sc__law_kind.nd rfl (Or.inl rfl) (we_call0 G__law_stock (hr.mono (by omega)) rfl D__law_stock.mg D__law_stock.kp D__law_stock.b .nil pass0))
      (wss_cons (ws_set (i := 2) sc__law_kind.nd rfl (Or.inl rfl) (we_lst (wa_cons (we_dt rfl) (wa_cons (we_ix (ix_U hu1) (wv 1) we_str (fun _ _ => rfl)) (wa_cons (we_dt rfl) (wa_cons (we_ix (ix_U hu1) (wv 1) we_str (fun _ _ => rfl)) (wa_cons (we_dt rfl) (wa_cons (we_ix (ix_U hu1) (wv 1) we_str (fun _ _ => rfl)) (wa_cons (we_dt rfl) wa_nil)))))))))
      (wss_one (ws_ret (we_ix (ix_U hu1) (we_op op_plus (wv 2) (we_lst (wa_cons (we_dt rfl) wa_nil))) (we_call G__law_take (hr.mono (by omega)) rfl D__law_take.mg D__law_take.kp D__law_take.b .nil pass0 (wa_cons (wv 0) (wa_cons we_int wa_nil))) (fun _ _ => rfl)))))), ?_⟩
  refine ⟨rfl, fun q H1 s1 hq st => ?_⟩
  intro v1 H2 s2 i1
  obtain ⟨v2, g2, i2⟩ := (st.keep s2).d
  refine ⟨_, rfl, .inr (.inr (.inr ⟨q, v2, rfl, g2, ?_⟩))⟩
  intro v3 H3 s3 i3
  obtain ⟨v4, g4, i4⟩ := ((st.keep s2).keep s3).x
  refine ⟨_, rfl, .inr (.inr (.inr ⟨q, v4, rfl, g4, ?_⟩))⟩
  intro v5 H4 s4 i5
  obtain ⟨v6, g6, i6⟩ := (((st.keep s2).keep s3).keep s4).e
  refine ⟨_, rfl, .inr (.inr (.inr ⟨q, v6, rfl, g6, ?_⟩))⟩
  intro v7 H5 s5 i7
  refine ⟨(by show 7 ≤ sizeLine; decide), fun l hl => ?_⟩
  have hl6 : (upd H5 l (.lst [v1, v2, v3, v4, v5, v6, v7])) l = some (.lst [v1, v2, v3, v4, v5, v6, v7]) := upd_same
  have s6 : Same H5 (upd H5 l (.lst [v1, v2, v3, v4, v5, v6, v7])) := same_new hl _
  generalize upd H5 l (.lst [v1, v2, v3, v4, v5, v6, v7]) = H6 at hl6 s6 ⊢
  refine ⟨_, rfl, ?_⟩
  intro v8 H7 s7 i8
  refine ⟨(by show 1 ≤ sizeLine; decide), fun l2 hl2 => .inr (.inr (.inl ⟨l, l2, [v1, v2, v3, v4, v5, v6, v7], [v8], rfl, rfl, same_new hl2 _ _ _ (s7 _ _ hl6), upd_same, (by show 7 + 1 ≤ sizeLine; decide), fun l3 hl3 => ?_⟩))⟩
  have s8 : Same H7 (upd (upd H7 l2 (.lst [v8])) l3 (.lst ([v1, v2, v3, v4, v5, v6, v7] ++ [v8]))) := (same_new hl2 _).trans (same_new hl3 _)
  have hl8 : (upd (upd H7 l2 (.lst [v8])) l3 (.lst ([v1, v2, v3, v4, v5, v6, v7] ++ [v8]))) l3 = some (.lst [v1, v2, v3, v4, v5, v6, v7, v8]) := upd_same
  generalize upd (upd H7 l2 (.lst [v8])) l3 (.lst ([v1, v2, v3, v4, v5, v6, v7] ++ [v8])) = H8 at s8 hl8 ⊢
  have e78 := s7.trans s8
  have e58 := s5.trans (s6.trans e78)
  have e48 := s4.trans e58
  have e38 := s3.trans e48
  have e18 := s2.trans e38
  have eA := s1.trans e18
  have dk7 : Dk H7 p c m := dk.keep (s1.trans (s2.trans (s3.trans (s4.trans (s5.trans (s6.trans s7))))))
  have n3 := (dk7.new (o := .lst [v8]) hl2).ne hl3
  refine ⟨_, rfl, p, c, m, _, rfl, dk.keep eA, by decide, by decide, fun x H9 x0 x1 ex9 dk9 => ?_⟩
  obtain ⟨v, hv, hvm⟩ := atI_mem (xs := [v1, v2, v3, v4, v5, v6, v7, v8]) x0 x1
  refine .inl ⟨l3, _, x, v, rfl, rfl, SqL.of (ex9 l3 _ n3.1 n3.2 hl8), hv, ?_⟩
  have t9 := (dk.keep eA).tups ex9
  have exF : ExD p c H H9 := ExD.trans (fun b o _ _ h => eA b o h) ex9
  simp only [List.mem_cons, List.not_mem_nil, or_false] at hvm
  rcases hvm with rfl | rfl | rfl | rfl | rfl | rfl | rfl | rfl
  · exact fin kNum _ H9 .num (IsDt.mono t9 (IsDt.mono e38.tups i1)) exF ⟨m, dk9⟩
  · exact fin kPair _ H9 (kg_pair.mono (by decide)) (IsDt.mono t9 (IsDt.mono e38.tups i2)) exF ⟨m, dk9⟩
  · exact fin kWord _ H9 .word (IsDt.mono t9 (IsDt.mono e48.tups i3)) exF ⟨m, dk9⟩
  · exact fin kX _ H9 kg_x (IsDt.mono t9 (IsDt.mono e48.tups i4)) exF ⟨m, dk9⟩
  · exact fin kBagN _ H9 (.bag .num) (IsDt.mono t9 (IsDt.mono e58.tups i5)) exF ⟨m, dk9⟩
  · exact fin kWide _ H9 kg_wide (IsDt.mono t9 (IsDt.mono e58.tups i6)) exF ⟨m, dk9⟩
  · exact fin (.row []) _ H9 (.row (by decide) nil_mem nil_mem) (IsDt.mono t9 (IsDt.mono (s6.trans e78).tups i7)) exF ⟨m, dk9⟩
  · exact fin kK _ H9 (kg_k.mono (by decide)) (IsDt.mono t9 (IsDt.mono s8.tups i8)) exF ⟨m, dk9⟩
end
end K46
end
section
set_option Elab.async false
set_option linter.all false
set_option maxRecDepth 100000
set_option maxHeartbeats 4000000
namespace K46
open PySem L2 Kn
theorem via {α : Type} {F G : α → Prop} {B : Prop} (f : (∀ x, F x → G x) → B) (t : ∀ x, F x → G x) : B := f t
theorem same_at {H H' : Hp} {l : Addr} {o : HO} (s : Same H H') (hl : H l = none) : Same H (upd H' l o) := fun b u e => by rw [upd_ne (ne_of_none e hl)]; exact s _ _ e
theorem tups_at {H : Hp} {l : Addr} {us us' : List V} (h : H l = some (.lst us)) : Tups H (upd H l (.lst us')) := fun b xs e => by rw [upd_ne (ne_of e h (by intro z; cases z))]; exact e
/-- a kind's word is row just where it is a row -/
theorem kg_word {H : Hp} {n : Nat} {k : Tr} {v : V} (kg : KG n k) (i : IsDt H (tdat k) v) : ∃ (a : Addr) (w : Str) (xs : List V), v = .ref a ∧ H a = some (.tup (.str w :: xs)) ∧ ((w = Str.ofString "num" ∧ k = kNum) ∨ (w = Str.ofString "word" ∧ k = kWord) ∨ (w = Str.ofString "bag" ∧ ∃ (q : Tr) (u : V), k = .node (Str.ofString "bag") [] [q] ∧ (∃ m, n = m + 1 ∧ KG m q) ∧ xs = [u] ∧ IsDt H (tdat q) u) ∨
    (w = Str.ofString "row" ∧ ∃ (ps : List (Str × Tr)) (b : Addr) (ys : List V), k = .row ps ∧ ps.length ≤ 14 ∧ (∀ p ∈ ps, p.1.length ≤ 10) ∧ (∃ m, n = m + 1 ∧ ∀ p ∈ ps, KG m p.2) ∧ xs = [.ref b] ∧ H b = some (.tup ys) ∧ IsDts H (tdatR ps) ys)) := by
  cases kg with
  | num => obtain ⟨a, zs, rfl, h, _⟩ := tr_node i; exact ⟨a, _, _, rfl, h, .inl ⟨rfl, rfl⟩⟩
  | word => obtain ⟨a, zs, rfl, h, _⟩ := tr_node i; exact ⟨a, _, _, rfl, h, .inr (.inl ⟨rfl, rfl⟩)⟩
  | bag kg' =>
    obtain ⟨a, zs, rfl, h, hz⟩ := tr_node i
    obtain ⟨u, rfl, hu⟩ := isDts_one hz
    exact ⟨a, _, _, rfl, h, .inr (.inr (.inl ⟨rfl, _, u, rfl, ⟨_, rfl, kg'⟩, rfl, hu⟩))⟩
  | row hl hn hk =>
    obtain ⟨a, b, ys, rfl, h1, h2, h3⟩ := tr_row i
    exact ⟨a, _, _, rfl, h1, .inr (.inr (.inr ⟨rfl, _, b, ys, rfl, hl, hn, ⟨_, rfl, hk⟩, rfl, h2, h3⟩))⟩
theorem th_var {d : Nat} (s : Str) : TH d (.node (Str.ofString "var") [.txt s] []) := .atom (by decide +kernel)
theorem isDt_var {H : Hp} {s : Str} {a : Addr} (h : H a = none) : IsDt (upd H a (.tup [.str "var", .str s])) (tdat (.node (Str.ofString "var") [.txt s] [])) (.ref a) := by
  have := isDt_new h (.cons (isDt_s (Str.ofString "var")) (.one (isDt_s s)))
  rw [tdat, tdatL]; exact this
theorem isDt_at1 {H : Hp} {s : Str} {a : Addr} {t : Tr} {u : V} (h : H a = none) (i : IsDt H (tdat t) u) : IsDt (upd H a (.tup [.str "at", .str s, u])) (tdat (.node (Str.ofString "at") [.txt s] [t])) (.ref a) := by
  have := isDt_new h (.cons (isDt_s (Str.ofString "at")) (.cons (isDt_s s) (.one i)))
  rw [tdat, tdatL, tdatL]; exact this
section
variable {P : Program} {w : World} {K : PySem.W.Frag} {mg : Str → Option Value} {base : Heap} {f f_take f_stock : Addr} {fd fd_take fd_stock : FuncData}
theorem sc__law_ways : FnScope ["env", "kind", "found", "name"] ["env", "kind"] (defScope (top 17)) := ⟨rfl, rfl, rfl, by decide +kernel, rfl, by decide +kernel, by decide +kernel⟩
/-- ways told so far -/
def Ways (H : Hp) (us : List V) : Prop := ∀ u ∈ us, ∃ t, TH 1 t ∧ IsDt H (tdat t) u
theorem Ways.mono {H H' : Hp} {us : List V} (h : Ways H us) (t : Tups H H') : Ways H' us := fun u hu => let ⟨x, a, b⟩ := h u hu; ⟨x, a, IsDt.mono t b⟩
theorem Ways.app {H : Hp} {us vs : List V} (h : Ways H us) (g : Ways H vs) : Ways H (us ++ vs) := fun u hu => (List.mem_append.mp hu).elim (h u) (g u)
theorem Ways.one {H : Hp} {u : V} {t : Tr} (th : TH 1 t) (i : IsDt H (tdat t) u) : Ways H [u] := fun v hv => by rw [List.mem_singleton.mp hv]; exact ⟨t, th, i⟩
def spWays : Sp := fun vs H Q _ => ∃ (e : Addr) (v : V) (k : Tr), vs = [.ref e, v] ∧ EnvOk H e 20 ∧ KG 3 k ∧ IsDt H (tdat k) v ∧
  ∀ (l : Addr) (us : List V) (H' : Hp), Same H H' → H l = none → H' l = some (.lst us) → us.length ≤ 400 → Ways H' us → Q (.ref l) H'
theorem ok_ways (T : Tx mg) (D : Df K mg "_law_ways" (top 17) f fd ["env", "kind"]) : FnOk P w K mg base CX0 1 f fd ["env", "kind"] spWays := by
  refine D.fn.okH sc__law_ways (fun vs H Q E h => ?_) (fun cdv A outer s H vs Q E hr h => ?_)
  · obtain ⟨e, v, k, rfl, _⟩ := h; rfl
  obtain ⟨e, v, k, rfl, ⟨kvs, he, lk, hkv⟩, kg, iv, fin⟩ := h
  have hu := u110 hr
  have hu1 := hu_of hr
  refine ⟨_, (wss_cons (ws_set (i := 2) sc__law_ways.nd rfl (Or.inl rfl) (we_lst wa_nil))
      (wss_cons (ws_for PassesOwn.never rfl (wi_U (we_callB (call_sortD rfl) rfl T.z_sorted bt_sorted (wa_cons (wv 0) wa_nil))) (wg_name (i := 3) sc__law_ways.nd rfl (Or.inr rfl)) (wss_cons (ws_if (wt_cmpR (op_eqU hu) (we_ix (ix_U hu1) (wv 0) (wv 3) (fun _ _ => rfl)) (wv 1) (nomark _)) (wss_one (ws_expr (we_bm PySem.F.plainAttrs_list PySem.F.slot_list_append PySem.F.type_list_append mt_append (wv 2) (wa_cons (we_tup (wa_cons we_str (wa_cons (wv 3) wa_nil))) wa_nil)))) wss_nil)
      (wss_one (ws_if (wt_cmpR (op_eqU hu) (we_ix (ix_U hu1) (we_ix (ix_U hu1) (wv 0) (wv 3) (fun _ _ => rfl)) we_int (fun _ _ => rfl)) we_str (nomark _)) (wss_one (ws_set (i := 2) sc__law_ways.nd rfl (Or.inl rfl) (we_op op_plus (wv 2) (we_lc (Nt := ["field", "own"]) (fr := [("name", 3), ("kind", 1)]) (LcOk.of (sc := defScope (top 17)) (N := ["env", "kind", "found", "name"]) rfl rfl (by decide +kernel)) rfl (wi_U (we_ix (ix_U hu1) (we_ix (ix_U hu1) (wv 0) (wv 3) (fun _ _ => rfl)) we_int (fun _ _ => rfl))) (fun z => wg_tup rfl (wgs_cons (wg_name (i := 0) (by show (["field", "own", "name", "kind"] : List Str).Nodup; decide +kernel) rfl (Or.inl rfl) (.inr rfl)) (wgs_cons (wg_name (i := 1) (by show (["field", "own", "name", "kind"] : List Str).Nodup; decide +kernel) rfl (Or.inl rfl) (.inr rfl)) wgs_nil))) (fun z => tgt_two (by decide) (by decide)) (fun z => wif_one (wt_cmpR (op_eqU hu) (wv 1) (wv 3) (nomark _))) (fun z => (we_tup (wa_cons we_str (wa_cons (wv 0) (wa_cons (we_tup (wa_cons we_str (wa_cons (wv 2) wa_nil))) wa_nil))))))))) wss_nil))))
      (wss_one (ws_ret (wv 2))))), ?_⟩
  refine ⟨(by show 0 ≤ sizeLine; decide), fun l hl => ?_⟩
  refine .inl ⟨_, rfl, e, kvs, rfl, same_new hl _ _ _ he, fun kv hm => let ⟨s, _, h, _⟩ := hkv kv hm; ⟨s, h⟩, by omega, fun p ys hp perm _ => ⟨p, rfl, ⟨_, SqL.of upd_same⟩, ?_⟩⟩
  have npl : p ≠ l := fun z => by rw [z, upd_same] at hp; cases hp
  have lys : ys.length = kvs.length := by have := perm.length_eq; rw [List.length_map, List.length_map] at this; exact this
  have s1 : Same H (upd (upd H l (.lst [])) p (.lst (ys.map V.str))) := (same_new hl _).trans (same_new hp _)
  have hl1 : (upd (upd H l (.lst [])) p (.lst (ys.map V.str))) l = some (.lst []) := by rw [upd_ne npl.symm]; exact upd_same
  have hp1 : (upd (upd H l (.lst [])) p (.lst (ys.map V.str))) p = some (.lst (ys.map V.str)) := upd_same
  have hpH : H p = none := same_back (same_new hl _) hp
  generalize upd (upd H l (.lst [])) p (.lst (ys.map V.str)) = H1 at s1 hl1 hp1 ⊢
  clear hp
  refine for_list (a := p) (xs := ys.map V.str) (fun i σ H2 => ∃ (lf : Addr) (us : List V) (o : Option V), σ = [some (.ref e), some v, some (.ref lf), o] ∧ Same H H2 ∧ H lf = none ∧ H2 lf = some (.lst us) ∧ H2 p = some (.lst (ys.map V.str)) ∧ p ≠ lf ∧ us.length ≤ 20 * i ∧ Ways H2 us)
    ⟨l, [], none, rfl, s1, hl, hl1, hp1, npl, by simp, fun u hu => nomatch hu⟩ (fun i σ H2 _ h => by obtain ⟨lf, us, o, _, _, _, _, h, _⟩ := h; exact SqL.of h) ?turn ?done
  case done =>
    rintro σ H2 ⟨lf, us, o, rfl, s2, hlf, hus, hp2, npf, lus, wus⟩
    rw [List.length_map] at lus
    exact ⟨_, rfl, fin lf us H2 s2 hlf hus (by omega) wus⟩
  case turn =>
  rintro i x σ H2 hx ⟨lf, us, o, rfl, s2, hlf, hus, hp2, npf, lus, wus⟩
  have hi : i < ys.length := by have := (List.getElem?_eq_some_iff.mp hx).1; rw [List.length_map] at this; exact this
  obtain ⟨z, hz, rfl⟩ : ∃ z ∈ ys, V.str z = x := List.mem_map.mp (List.mem_of_getElem? hx)
  have hzk : (Sum.inr z : Key) ∈ kvs.map (·.1) := perm.subset (List.mem_map.mpr ⟨z, hz, rfl⟩)
  obtain ⟨kv, hkvm, ekv, gkv⟩ := valV_mem hzk
  obtain ⟨z', kk, ez, lz, kgk, ik⟩ := hkv kv hkvm
  have dg : ∀ {H3}, Same H H3 → DGet H3 e (.str z) (some kv.2) := fun s => by
    have := DGet.k (k := Sum.inr z) (s _ _ he); rw [gkv] at this; exact this
  refine via (F := fun H3 => ∃ us3, Same H H3 ∧ H3 lf = some (.lst us3) ∧ H3 p = some (.lst (ys.map V.str)) ∧ us3.length ≤ 20 * i + 1 ∧ Ways H3 us3) (fun key => ⟨_, rfl, _, rfl, .inr (.inr (.inr ⟨e, kv.2, rfl, dg s2, _, rfl, .inr (eqK (IsDt.mono s2.tups ik) (IsDt.mono s2.tups iv) kgk (by decide) fun b => ⟨_, rfl, ite2 (fun _ => by
      refine ⟨_, rfl, .inl ⟨rfl, _, SqL.of hus⟩, _, rfl, (by show 2 ≤ sizeLine; decide), fun t1 ht1 => ⟨lf, us, .ref t1, rfl, rfl, same_new ht1 _ _ _ hus, line1 (by omega), ?_⟩⟩
      have n1 : lf ≠ t1 := ne_of_none hus ht1
      have s3 : Same H (upd (upd H2 t1 (.tup [.str "var", .str z])) lf (.lst (us ++ [.ref t1]))) := same_at (s2.trans (same_new ht1 _)) hlf
      have hus3 : (upd (upd H2 t1 (.tup [.str "var", .str z])) lf (.lst (us ++ [.ref t1]))) lf = some (.lst (us ++ [.ref t1])) := upd_same
      have hp3 : (upd (upd H2 t1 (.tup [.str "var", .str z])) lf (.lst (us ++ [.ref t1]))) p = some (.lst (ys.map V.str)) := by rw [upd_ne npf]; exact same_new ht1 _ _ _ hp2
      have lus3 : (us ++ [V.ref t1]).length ≤ 20 * i + 1 := by simp; omega
      have tz := tups_at (us' := us ++ [.ref t1]) (same_new ht1 (.tup [.str "var", .str z]) _ _ hus)
      have wus3 : Ways (upd (upd H2 t1 (.tup [.str "var", .str z])) lf (.lst (us ++ [.ref t1]))) (us ++ [.ref t1]) := ((wus.mono (same_new ht1 _).tups).mono tz).app (Ways.one (th_var z) (IsDt.mono tz (isDt_var ht1)))
      generalize upd (upd H2 t1 (.tup [.str "var", .str z])) lf (.lst (us ++ [.ref t1])) = H3 at s3 hus3 hp3 wus3 ⊢
      generalize us ++ [V.ref t1] = us3 at hus3 lus3 wus3
      exact key H3 ⟨us3, s3, hus3, hp3, lus3, wus3⟩) (fun _ => by exact key H2 ⟨us, s2, hus, hp2, by omega, wus⟩)⟩)⟩))⟩) ?restOf
  rintro H3 ⟨us3, s3, hus3, hp3, lus3, wus3⟩
  obtain ⟨a, wd, xs, ea, ha, cases4⟩ := kg_word kgk (IsDt.mono s3.tups ik)
  refine ⟨_, rfl, _, rfl, .inr (.inr (.inr ⟨e, kv.2, rfl, dg s3, .inr (.inl ⟨a, _, 0, .str wd, ea, rfl, SqT.of ha, (show atI (V.str wd :: xs) ((0 : Nat) : Int) = _ from atI_nat rfl), .inl ⟨rfl, _, rfl, ?_⟩⟩)⟩))⟩
  refine ite2 (fun ew => ?_) (fun ew => ?_)
  · rcases cases4 with ⟨rfl, _⟩ | ⟨rfl, _⟩ | ⟨rfl, _⟩ | ⟨rfl, ps, b, zs, ek, lp, ln, _, rfl, hb, hzs⟩
    · exact absurd (vs_eq ew) (by decide +kernel)
    · exact absurd (vs_eq ew) (by decide +kernel)
    · exact absurd (vs_eq ew) (by decide +kernel)
    subst ek
    have lzs : zs.length = ps.length := by rw [hzs.length, tdatR_map, List.length_map]
    refine ⟨_, rfl, .inr ⟨_, rfl, _, rfl, .inr (.inr (.inr ⟨e, kv.2, rfl, dg s3, .inr (.inl ⟨a, _, 1, .ref b, ea, rfl, SqT.of ha, rfl, b, rfl, ⟨zs, SqT.of hb⟩, ?_⟩)⟩))⟩⟩
    refine ⟨fun i2 m2 qs H4 => Same H3 H4 ∧ m2 + i2 = ps.length ∧ qs.length ≤ i2 ∧ Ways H4 qs, ⟨ps.length, .refl _, rfl, by simp, fun u hu => nomatch hu⟩, ?_⟩
    rintro i2 m2 qs H4 ⟨s4, hm2, lqs, wqs⟩
    refine ⟨line1 (by omega), ?_⟩
    have hb4 := s4 _ _ hb
    by_cases hi2 : i2 < ps.length
    · have hyi : zs[i2]? = some zs[i2] := List.getElem?_eq_getElem (by omega)
      refine .inr ⟨⟨_, _, SqT.of hb4, hyi⟩, fun zz x H5 hy2 => ?_⟩
      obtain ⟨rfl, hx5⟩ := hy2
      obtain rfl : zs[i2] = x := by have := hx5 _ (SqT.of hb4); rw [hyi] at this; injection this
      obtain ⟨pp, c, u, hpp, ey, hc, hu'⟩ := tr_item hzs hyi
      have kgp : KG 3 pp.2 := by
        cases kgk with
        | row _ _ h => exact (h pp (List.mem_of_getElem? hpp)).up
      rw [ey]
      refine ⟨c, _, rfl, SqT.of (s4 _ _ hc), rfl, _, _, rfl, _, _, rfl, rfl, ?_⟩
      refine ⟨_, rfl, _, rfl, .inr (eqK (IsDt.mono s4.tups hu') (IsDt.mono (s3.trans s4).tups iv) kgp (by decide) fun b => ⟨_, rfl, ite2 (fun _ => ?_) (fun _ => ?_)⟩)⟩
      · refine ⟨_, rfl, _, rfl, (by show 2 ≤ sizeLine; decide), fun t1 ht1 => ⟨(by show 3 ≤ sizeLine; decide), fun t2 ht2 => ?_⟩⟩
        refine ⟨m2 - 1, by omega, (s4.trans (same_new ht1 _)).trans (same_new ht2 _), by omega, by simp; omega, ?_⟩
        exact ((wqs.mono (same_new ht1 _).tups).mono (same_new ht2 _).tups).app (Ways.one (.more (by decide +kernel) (by simp) (one_mem (th_var z))) (isDt_at1 ht2 (isDt_var ht1)))
      · exact ⟨m2 - 1, by omega, s4, by omega, by omega, wqs⟩
    · refine .inl ⟨⟨_, SqT.of hb4, by omega⟩, fun l2 hl2 => ?_⟩
      refine .inr (.inr (.inl ⟨lf, l2, _, qs, rfl, rfl, same_new hl2 _ _ _ (s4 _ _ hus3), upd_same, Nat.le_of_lt (line1 (by omega)), fun p2 hp2 => ?_⟩))
      have s5 := s4.trans ((same_new hl2 (.lst qs)).trans (same_new hp2 (.lst (us3 ++ qs))))
      have np2 : H p2 = none := same_back (s3.trans (s4.trans (same_new hl2 (.lst qs)))) hp2
      refine ⟨p2, us3 ++ qs, _, rfl, s3.trans s5, np2, upd_same, s5 _ _ hp3, ?_, by simp; omega, (wus3.mono s5.tups).app ((wqs.mono (same_new hl2 _).tups).mono (same_new hp2 _).tups)⟩
      exact ne_of_none (same_new hl2 (.lst qs) _ _ (s4 _ _ hp3)) hp2
  · exact ⟨lf, us3, _, rfl, s3, hlf, hus3, hp3, npf, by omega, wus3⟩
end
end K46
end
section
set_option Elab.async false
set_option linter.all false
set_option maxRecDepth 100000
set_option maxHeartbeats 4000000
namespace K46
open PySem L2 Kn
theorem fnOk_lt {P : Program} {w : World} {K : PySem.W.Frag} {mg : Str → Option Value} {base : Heap} {k : Nat} {f : Addr} {fd : FuncData} {ps : List Str} {sp : Nat → Sp} {d : Nat} (F : ∀ e, e < d → FnOk P w K mg base CX0 k f fd ps (sp e)) :
    FnOk P w K mg base CX0 k f fd ps (fun vs H Q E => ∃ e, e < d ∧ sp e vs H Q E) :=
  ⟨fun vs H Q E ⟨e, he, h⟩ => (F e he).len vs H Q E h, fun A outer s H args us vs Q E hr h0 hb hv ⟨e, he, h⟩ => (F e he).run A outer s H args us vs Q E hr h0 hb hv h⟩
/-- what is asked of an answer -/
def Out (p c : Addr) (d : Nat) (H : Hp) (Q : VK) : Prop := ∀ (t : Tr) (u : V) (H' : Hp), TH d t → IsDt H' (tdat t) u → ExD p c H H' → DkE H' p c → Q u H'
theorem Out.at {p c : Addr} {d : Nat} {H H1 : Hp} {Q : VK} (h : Out p c d H Q) (x : ExD p c H H1) : Out p c d H1 Q := fun t u H' a b e k => h t u H' a b (x.trans e) k
theorem Out.le {p c : Addr} {d m : Nat} {H : Hp} {Q : VK} (h : Out p c d H Q) (l : m ≤ d) : Out p c m H Q := fun t u H' a b e k => h t u H' (a.mono l) b e k
/-- an answer made anew -/
theorem Out.new {p c q : Addr} {d : Nat} {H : Hp} {Q : VK} {o : HO} {t : Tr} (h : Out p c d H Q) (dk : DkE H p c) (hq : H q = none) (th : TH d t) (i : IsDt (upd H q o) (tdat t) (.ref q)) : Q (.ref q) (upd H q o) := h t _ _ th i (exd_new hq) (dk.new hq)
theorem isDt_av {H : Hp} (a : At) : IsDt H (atD a) (atV a) := by cases a <;> (rw [atD, IsDt]; rfl)
theorem isDt_n {H : Hp} {w : Str} {as : List At} {ps : List Tr} {us : List V} {q : Addr} (hq : H q = none) (i : IsDts H (ps.map tdat) us) : IsDt (upd H q (.tup (.str w :: (as.map atV ++ us)))) (tdat (.node w as ps)) (.ref q) := by
  rw [tdat, tdatL_map]
  refine isDt_new hq (.cons (isDt_s w) ?_)
  induction as with
  | nil => exact i
  | cons a as ih => exact .cons (isDt_av a) ih
theorem isDt_r {H : Hp} {ps : List (Str × Tr)} {ys : List V} {b q : Addr} (hb : H b = some (.tup ys)) (i : IsDts H (tdatR ps) ys) (hq : H q = none) : IsDt (upd H q (.tup [.str "row", .ref b])) (tdat (.row ps)) (.ref q) := by
  rw [tdat]
  refine isDt_new hq (.cons (isDt_s (Str.ofString "row")) (.one ?_))
  rw [IsDt]; exact ⟨b, ys, rfl, hb, i⟩
theorem isDts_1 {H : Hp} {t : Tr} {u : V} (i : IsDt H (tdat t) u) : IsDts H ([t].map tdat) [u] := .one i
theorem isDts_2 {H : Hp} {t t2 : Tr} {u u2 : V} (i : IsDt H (tdat t) u) (j : IsDt H (tdat t2) u2) : IsDts H ([t, t2].map tdat) [u, u2] := .cons i (.one j)
theorem sel2 {a b : V} (k : Bool) : ∃ v, atI [a, b] (if k = true then 1 else 0) = some v ∧ (v = a ∨ v = b) := by
  cases k
  · exact ⟨a, rfl, .inl rfl⟩
  · exact ⟨b, rfl, .inr rfl⟩
theorem Stock.any {H : Hp} {q : Addr} (h : Stock H q) {s : Str} (hs : s ∈ [Str.ofString "b", Str.ofString "d", Str.ofString "e", Str.ofString "x"]) : ∃ (v : V) (k : Tr), DGet H q (.str s) (some v) ∧ IsDt H (tdat k) v ∧ KG 3 k := by
  simp only [List.mem_cons, List.not_mem_nil, or_false] at hs
  rcases hs with rfl | rfl | rfl | rfl
  · obtain ⟨v, g, i⟩ := h.b; exact ⟨v, _, g, i, .num⟩
  · obtain ⟨v, g, i⟩ := h.d; exact ⟨v, _, g, i, kg_pair.mono (by decide)⟩
  · obtain ⟨v, g, i⟩ := h.e; exact ⟨v, _, g, i, kg_wide.mono (by decide)⟩
  · obtain ⟨v, g, i⟩ := h.x; exact ⟨v, _, g, i, kg_x.mono (by decide)⟩
section
variable {P : Program} {w : World} {K : PySem.W.Frag} {mg : Str → Option Value} {base : Heap} {f f_take f_stock f_ways : Addr} {fd fd_take fd_stock fd_ways : FuncData}
theorem sc__law_leaf : FnScope ["deck", "env", "kind", "some", "names"] ["deck", "env", "kind"] (defScope (top 21)) := ⟨rfl, rfl, rfl, by decide +kernel, rfl, by decide +kernel, by decide +kernel⟩
def spLeaf (n : Nat) : Sp := fun vs H Q _ => ∃ (p c e : Addr) (v : V) (k : Tr), vs = [.ref p, .ref e, v] ∧ DkE H p c ∧ EnvOk H e 20 ∧ KG n k ∧ IsDt H (tdat k) v ∧ Out p c (n + 2) H Q
theorem ok_leaf {j n : Nat} (hj : 1 ≤ j) (n3 : n ≤ 3) (T : Tx mg) (D__law_leaf : Df K mg "_law_leaf" (top 21) f fd ["deck", "env", "kind"]) (G__law_leaf : FnOk P w K mg base CX0 j f fd ["deck", "env", "kind"] (fun vs H Q E => ∃ m, m < n ∧ spLeaf m vs H Q E))
    (D__law_take : Df K mg "_law_take" (top 15) f_take fd_take ["deck", "many"]) (G__law_take : FnOk P w K mg base CX0 1 f_take fd_take ["deck", "many"] spTake)
    (D__law_stock : Df K mg "_law_stock" (top 16) f_stock fd_stock []) (G__law_stock : FnOk P w K mg base CX0 1 f_stock fd_stock [] spStock)
    (D__law_ways : Df K mg "_law_ways" (top 17) f_ways fd_ways ["env", "kind"]) (G__law_ways : FnOk P w K mg base CX0 1 f_ways fd_ways ["env", "kind"] spWays) :
    FnOk P w K mg base CX0 (j + 1) f fd ["deck", "env", "kind"] (spLeaf n) := by
  refine D__law_leaf.fn.okH sc__law_leaf (fun vs H Q E h => ?_) (fun cdv A outer s H vs Q E hr h => ?_)
  · obtain ⟨p, c, e, v, k, rfl, _⟩ := h; rfl
  obtain ⟨p, c, e, v, k, rfl, dk, en, kg, iv, fin⟩ := h
  have hu := u110 hr
  have hu0 := u0 hr
  have hu1 := hu_of hr
  refine ⟨_, (wss_cons (ws_set (i := 3) sc__law_leaf.nd rfl (Or.inl rfl) (we_call G__law_ways (hr.mono (by omega)) rfl D__law_ways.mg D__law_ways.kp D__law_ways.b .nil pass0 (wa_cons (wv 1) (wa_cons (wv 2) wa_nil))))
      (wss_cons (ws_if (wt_pw (ww_and (wt_cmpR (op_neU hu) (wv 3) (we_lst wa_nil) (nomark _)) (ww_and1 (wt_cmpR (op_ltU hu0) (we_call G__law_take (hr.mono (by omega)) rfl D__law_take.mg D__law_take.kp D__law_take.b .nil pass0 (wa_cons (wv 0) (wa_cons we_int wa_nil))) we_int (nomark _))))) (wss_one (ws_ret (we_ix (ix_U hu1) (wv 3) (we_call G__law_take (hr.mono (by omega)) rfl D__law_take.mg D__law_take.kp D__law_take.b .nil pass0 (wa_cons (wv 0) (wa_cons (we_callB call_lenU rfl T.z_len bt_len (wa_cons (wv 3) wa_nil)) wa_nil))) (fun _ _ => rfl)))) wss_nil)
      (wss_cons (ws_if (wt_cmpR (op_eqU hu) (we_ix (ix_U hu1) (wv 2) we_int (fun _ _ => rfl)) we_str (nomark _)) (wss_one (ws_ret (we_tup (wa_cons we_str (wa_cons (we_ix (ix_U hu1) (we_lst (wa_cons (we_op op_sub (we_call G__law_take (hr.mono (by omega)) rfl D__law_take.mg D__law_take.kp D__law_take.b .nil pass0 (wa_cons (wv 0) (wa_cons we_int wa_nil))) we_int) (wa_cons (we_op op_pow we_int we_int) wa_nil))) (we_callTy call_int1 rfl T.z_int bt_int (wa_cons (we_cmpR (op_eqU hu) (we_call G__law_take (hr.mono (by omega)) rfl D__law_take.mg D__law_take.kp D__law_take.b .nil pass0 (wa_cons (wv 0) (wa_cons we_int wa_nil))) we_int (nomark _)) wa_nil)) (fun _ _ => rfl)) wa_nil))))) wss_nil)
      (wss_cons (ws_if (wt_cmpR (op_eqU hu) (we_ix (ix_U hu1) (wv 2) we_int (fun _ _ => rfl)) we_str (nomark _)) (wss_one (ws_ret (we_tup (wa_cons we_str (wa_cons (we_ix (ix_U hu1) (we_lst (wa_consts rfl)) (we_call G__law_take (hr.mono (by omega)) rfl D__law_take.mg D__law_take.kp D__law_take.b .nil pass0 (wa_cons (wv 0) (wa_cons we_int wa_nil))) (fun _ _ => rfl)) wa_nil))))) wss_nil)
      (wss_cons (ws_if (wt_cmpR (op_eqU hu) (we_ix (ix_U hu1) (wv 2) we_int (fun _ _ => rfl)) we_str (nomark _)) (wss_one (ws_ret (we_tup (wa_cons we_str (wa_cons (we_callTy call_tuple_of rfl T.z_tuple bt_tuple (wa_cons (we_lc (Nt := ["field", "own"]) (fr := [("deck", 0), ("env", 1)]) (LcOk.of (sc := defScope (top 21)) (N := ["deck", "env", "kind", "some", "names"]) rfl rfl (by decide +kernel)) rfl (wi_U (we_ix (ix_U hu1) (wv 2) we_int (fun _ _ => rfl))) (fun z => wg_tup rfl (wgs_cons (wg_name (i := 0) (by show (["field", "own", "deck", "env"] : List Str).Nodup; decide +kernel) rfl (Or.inl rfl) (.inr rfl)) (wgs_cons (wg_name (i := 1) (by show (["field", "own", "deck", "env"] : List Str).Nodup; decide +kernel) rfl (Or.inl rfl) (.inr rfl)) wgs_nil))) (fun z => tgt_two (by decide) (by decide)) (fun z => wif_nil) (fun z => (we_tup (wa_cons (wv 0) (wa_cons (we_call G__law_leaf (hr.mono (by omega)) rfl D__law_leaf.mg D__law_leaf.kp D__law_leaf.b .nil pass0 (wa_cons (wv 2) (wa_cons (wv 3) (wa_cons (wv 1) wa_nil)))) wa_nil))))) wa_nil)) wa_nil))))) wss_nil)
      (wss_cons (ws_lc (j := 4) (hN := sc__law_leaf.nd) (hj := rfl) (hy := (Or.inl rfl)) (Nt := ["name"]) (fr := [("kind", 2)]) (LcOk.of (sc := defScope (top 21)) (N := ["deck", "env", "kind", "some", "names"]) rfl rfl (by decide +kernel)) rfl (wi_U (we_lst (wa_consts rfl))) (fun z => wg_name (i := 0) (by show (["name", "kind"] : List Str).Nodup; decide +kernel) rfl (Or.inl rfl) (.inr rfl)) (fun z => tgt_name (by decide)) (fun z => wif_one (wt_cmpR (op_eqU hu) (we_ix (ix_U hu1) (we_call0 G__law_stock (hr.mono (by omega)) rfl D__law_stock.mg D__law_stock.kp D__law_stock.b .nil pass0) (wv 0) (fun _ _ => rfl)) (we_ix (ix_U hu1) (wv 1) we_int (fun _ _ => rfl)) (nomark _))) (fun z => (wv 0)))
      (wss_cons (ws_if (wt_pw (ww_and (wt_cmpR (op_neU hu) (wv 4) (we_lst wa_nil) (nomark _)) (ww_and1 (wt_cmpR (op_ltU hu0) (we_call G__law_take (hr.mono (by omega)) rfl D__law_take.mg D__law_take.kp D__law_take.b .nil pass0 (wa_cons (wv 0) (wa_cons we_int wa_nil))) we_int (nomark _))))) (wss_one (ws_ret (we_tup (wa_cons we_str (wa_cons (we_ix (ix_U hu1) (wv 4) we_int (fun _ _ => rfl)) wa_nil))))) wss_nil)
      (wss_cons (ws_if (wt_cmpR (op_eqU hu) (we_call G__law_take (hr.mono (by omega)) rfl D__law_take.mg D__law_take.kp D__law_take.b .nil pass0 (wa_cons (wv 0) (wa_cons we_int wa_nil))) we_int (nomark _)) (wss_one (ws_ret (we_tup (wa_cons we_str (wa_cons (we_call G__law_leaf (hr.mono (by omega)) rfl D__law_leaf.mg D__law_leaf.kp D__law_leaf.b .nil pass0 (wa_cons (wv 0) (wa_cons (wv 1) (wa_cons (we_ix (ix_U hu1) (wv 2) we_int (fun _ _ => rfl)) wa_nil)))) wa_nil))))) wss_nil)
      (wss_one (ws_ret (we_tup (wa_cons we_str (wa_cons (we_ix (ix_U hu1) (wv 2) we_int (fun _ _ => rfl)) wa_nil))))))))))))), ?_⟩
  refine ⟨_, rfl, _, rfl, e, v, k, rfl, en, kg.mono n3, iv, fun l us H1 s1 hl hus lus wus => ?_⟩
  refine ⟨_, rfl, (by show 0 ≤ sizeLine; decide), fun l2 hl2 => .inr (.inr ⟨l, l2, us, rfl, rfl, same_new hl2 _ _ _ hus, upd_same, _, rfl, ?_⟩)⟩
  have s2 := s1.trans (same_new hl2 (.lst []))
  have hus2 := same_new hl2 (.lst []) _ _ hus
  have wus2 := wus.mono (same_new hl2 (.lst [])).tups
  have dk2 := dk.keep s2
  have en2 := en.keep s2
  have iv2 := IsDt.mono s2.tups iv
  have fin2 := fin.at (Same.exd s2)
  have nl : l ≠ p ∧ l ≠ c := dk.ne hl
  generalize upd H1 l2 (.lst []) = H2 at *
  clear fin dk en iv s1 hus wus
  obtain ⟨m, dm⟩ := dk2
  refine via (F := fun H3 => EnvOk H3 e 20 ∧ IsDt H3 (tdat k) v ∧ Out p c (n + 2) H3 Q ∧ Dk H3 p c m) (fun key => ite2 (fun ne0 => ⟨_, rfl, p, c, m, _, rfl, dm, by decide, by decide, fun x H3 x0 x1 ex3 dk3 => .inl ⟨_, _, rfl, rfl, _, rfl, ite2 (fun _ => ?ret) (fun _ => key H3 ⟨en2.ex ⟨m, dm⟩ ex3, IsDt.mono (dm.tups ex3) iv2, fin2.at ex3, dk3⟩)⟩⟩) (fun _ => iteN (by decide) ?no)) ?tail
  case no => exact key H2 ⟨en2, iv2, fin2, dm⟩
  case ret =>
    have hus3 := ex3 l _ nl.1 nl.2 hus2
    have lpos : 0 < us.length := by
      cases us with
      | nil => exact absurd rfl (of_decide_eq_true ne0)
      | cons _ _ => simp
    refine ⟨_, rfl, _, rfl, _, rfl, .inl ⟨l, us, rfl, .inl (SqL.of hus3), p, c, m, _, rfl, dk3, by omega, Int.lt_of_le_of_lt (show _ ≤ (400 : Int) by omega) (by decide), fun y H4 y0 y1 ex4 dk4 => ?_⟩⟩
    obtain ⟨u, hu4, hum⟩ := atI_mem (xs := us) y0 y1
    obtain ⟨t, th, it⟩ := wus2 u hum
    refine .inl ⟨l, us, y, u, rfl, rfl, SqL.of (ex4 l _ nl.1 nl.2 hus3), hu4, ?_⟩
    exact fin2 t u H4 (th.mono (by omega)) (IsDt.mono (dm.tups (ex3.trans ex4)) it) (ex3.trans ex4) ⟨m, dk4⟩
  rintro H3 ⟨en3, iv3, fin3, dm3⟩
  obtain ⟨a, wd, xs, rfl, ha, cases4⟩ := kg_word kg iv3
  have w0 : atI (V.str wd :: xs) 0 = some (.str wd) := (show atI (V.str wd :: xs) ((0 : Nat) : Int) = _ from atI_nat rfl)
  refine ⟨_, rfl, .inr (.inl ⟨a, _, 0, .str wd, rfl, rfl, SqT.of ha, w0, .inl ⟨rfl, _, rfl, ?_⟩⟩)⟩
  rcases cases4 with ⟨rfl, ek⟩ | ⟨rfl, ek⟩ | ⟨rfl, q, u, ek, ⟨n', en', kq⟩, rfl, iq⟩ | ⟨rfl, ps, b, zs, ek, lp, ln, ⟨n', en', kq⟩, rfl, hb, hzs⟩
  · refine iteP veq ?_
    refine ⟨_, rfl, p, c, m, _, rfl, dm3, by decide, by decide, fun x H4 x0 x1 ex4 dk4 => ⟨_, _, rfl, rfl, _, _, rfl, rfl, ⟨by decide, by decide, by decide⟩, (by show 2 ≤ sizeLine; decide), fun l4 hl4 => ?_⟩⟩
    have nl4 := dk4.ne hl4
    refine ⟨_, rfl, p, c, m, _, rfl, dk4.new hl4, by decide, by decide, fun y H5 y0 y1 ex5 dk5 => .inl ⟨rfl, .inr ⟨_, rfl, ?_⟩⟩⟩
    have hl5 := ex5 l4 _ nl4.1 nl4.2 upd_same
    obtain ⟨v, hv, hv2⟩ := sel2 (a := .int (x - 1)) (b := .int (10 ^ (20 : Int).toNat)) (decide (V.int y = V.int 15))
    refine .inl ⟨l4, _, _, v, rfl, rfl, SqL.of hl5, hv, (by show 2 ≤ sizeLine; decide), fun q hq => ?_⟩
    have fin5 := fin3.at (ex4.trans ((exd_new hl4).trans ex5))
    rcases hv2 with rfl | rfl
    · exact fin5.new ⟨m, dk5⟩ hq (.atom (a := .int _) (by decide +kernel)) (isDt_n (as := [.int _]) (ps := []) hq .nil)
    · exact fin5.new ⟨m, dk5⟩ hq (.atom (a := .int _) (by decide +kernel)) (isDt_n (as := [.int _]) (ps := []) hq .nil)
  · refine iteN (vne (by decide +kernel)) ⟨_, rfl, .inr (.inl ⟨a, _, 0, _, rfl, rfl, SqT.of ha, w0, .inl ⟨rfl, _, rfl, iteP veq ?_⟩⟩)⟩
    refine ⟨(by show 4 ≤ sizeLine; decide), fun l4 hl4 => ?_⟩
    have nl4 := dm3.ne hl4
    refine ⟨_, rfl, p, c, m, _, rfl, dm3.new hl4, by decide, by decide, fun y H5 y0 y1 ex5 dk5 => ?_⟩
    obtain ⟨v, hv, hvm⟩ := atI_mem (xs := [V.str "a", .str "x", .str "red", .str "c"]) y0 y1
    refine .inl ⟨l4, _, y, v, rfl, rfl, SqL.of (ex5 l4 _ nl4.1 nl4.2 upd_same), hv, (by show 2 ≤ sizeLine; decide), fun q hq => ?_⟩
    have fin5 := fin3.at ((exd_new hl4).trans ex5)
    obtain ⟨s, rfl⟩ : ∃ s, v = .str s := by
      simp only [List.mem_cons, List.not_mem_nil, or_false] at hvm
      rcases hvm with rfl | rfl | rfl | rfl <;> exact ⟨_, rfl⟩
    exact fin5.new ⟨m, dk5⟩ hq (.atom (a := .txt s) (by decide +kernel)) (isDt_n (as := [.txt s]) (ps := []) hq .nil)
  · refine iteN (vne (by decide +kernel)) ⟨_, rfl, .inr (.inl ⟨a, _, 0, _, rfl, rfl, SqT.of ha, w0, .inl ⟨rfl, _, rfl, iteN (vne (by decide +kernel)) ?_⟩⟩)⟩
    refine ⟨_, rfl, .inr (.inl ⟨a, _, 0, _, rfl, rfl, SqT.of ha, w0, .inl ⟨rfl, _, rfl, iteN (vne (by decide +kernel)) ?_⟩⟩)⟩
    refine .inl ⟨(by show 4 ≤ sizeLine; decide), fun l4 hl4 => ⟨l4, rfl, ⟨_, SqL.of upd_same⟩, ?_⟩⟩
    have s4 : Same H3 (upd H3 l4 (.lst ([Str.ofString "b", Str.ofString "d", Str.ofString "e", Str.ofString "x"].map V.str))) := same_new hl4 _
    have hL4 : (upd H3 l4 (.lst ([Str.ofString "b", Str.ofString "d", Str.ofString "e", Str.ofString "x"].map V.str))) l4 = some (.lst ([Str.ofString "b", Str.ofString "d", Str.ofString "e", Str.ofString "x"].map V.str)) := upd_same
    show ∃ W : Nat → Nat → List V → Hp → Prop, (∃ m, W 0 m [] (upd H3 l4 (.lst ([Str.ofString "b", Str.ofString "d", Str.ofString "e", Str.ofString "x"].map V.str)))) ∧ _
    generalize upd H3 l4 (.lst ([Str.ofString "b", Str.ofString "d", Str.ofString "e", Str.ofString "x"].map V.str)) = H4 at *
    refine ⟨fun i2 m2 qs H5 => Same H4 H5 ∧ m2 + i2 = 4 ∧ qs.length ≤ i2 ∧ ∀ q ∈ qs, ∃ s, q = V.str s, ⟨4, .refl _, rfl, by simp, nil_mem⟩, ?_⟩
    rintro i2 m2 qs H5 ⟨s5, hm2, lqs, hqs⟩
    refine ⟨line1 (by omega), ?_⟩
    have hL5 := s5 _ _ hL4
    have s35 := s4.trans s5
    by_cases hi2 : i2 < 4
    · obtain ⟨nm, hnm, hmem⟩ : ∃ nm, ([Str.ofString "b", Str.ofString "d", Str.ofString "e", Str.ofString "x"].map V.str)[i2]? = some (.str nm) ∧ nm ∈ [Str.ofString "b", Str.ofString "d", Str.ofString "e", Str.ofString "x"] := by
        have h4 : i2 < [Str.ofString "b", Str.ofString "d", Str.ofString "e", Str.ofString "x"].length := hi2
        exact ⟨_, by rw [List.getElem?_map, List.getElem?_eq_getElem h4]; rfl, List.getElem_mem h4⟩
      refine .inr ⟨⟨_, _, SqL.of hL5, hnm⟩, fun zz x H6 hy2 => ?_⟩
      obtain ⟨rfl, hx6⟩ := hy2
      obtain rfl : V.str nm = x := by have := hx6 _ (SqL.of hL5); rw [hnm] at this; injection this
      refine ⟨rfl, fun qq H7 s7 hqq st => ?_⟩
      obtain ⟨v9, k9, g9, i9, kg9⟩ := st.any hmem
      refine ⟨_, rfl, .inr (.inr (.inr ⟨qq, v9, rfl, g9, _, rfl, .inr (.inl ⟨a, _, 1, u, rfl, rfl, SqT.of (s7 _ _ (s35 _ _ ha)), rfl, .inr (eqK i9 (IsDt.mono (s35.trans s7).tups iq) kg9 (by decide) fun bb => ⟨_, rfl, ite2 (fun _ => ?_) (fun _ => ?_)⟩)⟩)⟩))⟩
      · refine ⟨_, rfl, m2 - 1, by omega, s5.trans s7, by omega, by simp; omega, fun q hq => ?_⟩
        rcases List.mem_append.mp hq with h | h
        · exact hqs q h
        · rw [List.mem_singleton.mp h]; exact ⟨_, rfl⟩
      · exact ⟨m2 - 1, by omega, s5.trans s7, by omega, by omega, hqs⟩
    · refine .inl ⟨⟨_, SqL.of hL5, (by show 4 ≤ i2; omega)⟩, fun l6 hl6 => ?_⟩
      refine ⟨_, rfl, (by show 0 ≤ sizeLine; decide), fun l7 hl7 => .inr (.inr ⟨l6, l7, qs, rfl, rfl, by rw [upd_ne (ne_of_none upd_same hl7)]; exact upd_same, upd_same, _, rfl, ?_⟩)⟩
      have s7 := (same_new hl6 (.lst qs)).trans (same_new hl7 (.lst []))
      have hq7 : (upd (upd H5 l6 (.lst qs)) l7 (.lst [])) l6 = some (.lst qs) := by rw [upd_ne (ne_of_none upd_same hl7)]; exact upd_same
      have s37 := s35.trans s7
      have nl6 := (dm3.keep s35).ne hl6
      generalize upd (upd H5 l6 (.lst qs)) l7 (.lst []) = H7 at *
      have dm7 := dm3.keep s37
      have ha7 := s37 _ _ ha
      have en7 := en3.keep s37
      have iq7 := IsDt.mono s37.tups iq
      have fin7 := fin3.at (Same.exd s37)
      refine ite2 (fun ne0 => ⟨_, rfl, p, c, m, _, rfl, dm7, by decide, by decide, fun x H8 x0 x1 ex8 dk8 => .inl ⟨_, _, rfl, rfl, _, rfl, ite2 (fun _ => ?_) (fun _ => ?_)⟩⟩) (fun _ => iteN (by decide) ?_)
      · cases qs with
        | nil => exact absurd rfl (of_decide_eq_true ne0)
        | cons q0 qr =>
        obtain ⟨s0, rfl⟩ := hqs q0 List.mem_cons_self
        refine ⟨_, rfl, .inl ⟨l6, _, 0, .str s0, rfl, rfl, SqL.of (ex8 l6 _ nl6.1 nl6.2 hq7), (show atI (V.str s0 :: qr) ((0 : Nat) : Int) = _ from atI_nat rfl), (by show 2 ≤ sizeLine; decide), fun qa hqa => ?_⟩⟩
        exact (fin7.at ex8).new ⟨m, dk8⟩ hqa (.atom (a := .txt s0) (by decide +kernel)) (isDt_n (as := [.txt s0]) (ps := []) hqa .nil)
      · have en8 := en7.ex ⟨m, dm7⟩ ex8
        have t8 := dm7.tups ex8
        refine ⟨_, rfl, p, c, m, _, rfl, dk8, by decide, by decide, fun y H9 y0 y1 ex9 dk9 => .inl ⟨rfl, _, rfl, ite2 (fun _ => ?_) (fun _ => ?_)⟩⟩
        · have t9 := dk8.tups ex9
          refine ⟨_, rfl, _, rfl, _, rfl, .inr (.inl ⟨a, _, 1, u, rfl, rfl, SqT.of (t9 _ _ (t8 _ _ ha7)), rfl, n', by omega, p, c, e, u, q, rfl, ⟨m, dk9⟩, en8.ex ⟨m, dk8⟩ ex9, kq, IsDt.mono t9 (IsDt.mono t8 iq7), fun t u2 HA th it exA dkA => ⟨(by show 2 ≤ sizeLine; decide), fun qa hqa => ?_⟩⟩)⟩
          subst en'
          exact (fin7.at (ex8.trans (ex9.trans exA))).new dkA hqa (.plain (w := Str.ofString "one") (by decide +kernel) (by decide +kernel) (by simp) (one_mem th)) (isDt_n (as := []) hqa (isDts_1 it))
        · have t9 := dk8.tups ex9
          refine ⟨_, rfl, .inr (.inl ⟨a, _, 1, u, rfl, rfl, SqT.of (t9 _ _ (t8 _ _ ha7)), rfl, (by show 2 ≤ sizeLine; decide), fun qa hqa => ?_⟩)⟩
          exact (fin7.at (ex8.trans ex9)).new ⟨m, dk9⟩ hqa (.none (kq.mono (by omega))) (isDt_n (as := []) hqa (isDts_1 (IsDt.mono t9 (IsDt.mono t8 iq7))))
      · refine ⟨_, rfl, p, c, m, _, rfl, dm7, by decide, by decide, fun y H9 y0 y1 ex9 dk9 => .inl ⟨rfl, _, rfl, ite2 (fun _ => ?_) (fun _ => ?_)⟩⟩
        · have t9 := dm7.tups ex9
          refine ⟨_, rfl, _, rfl, _, rfl, .inr (.inl ⟨a, _, 1, u, rfl, rfl, SqT.of (t9 _ _ ha7), rfl, n', by omega, p, c, e, u, q, rfl, ⟨m, dk9⟩, en7.ex ⟨m, dm7⟩ ex9, kq, IsDt.mono t9 iq7, fun t u2 HA th it exA dkA => ⟨(by show 2 ≤ sizeLine; decide), fun qa hqa => ?_⟩⟩)⟩
          subst en'
          exact (fin7.at (ex9.trans exA)).new dkA hqa (.plain (w := Str.ofString "one") (by decide +kernel) (by decide +kernel) (by simp) (one_mem th)) (isDt_n (as := []) hqa (isDts_1 it))
        · have t9 := dm7.tups ex9
          refine ⟨_, rfl, .inr (.inl ⟨a, _, 1, u, rfl, rfl, SqT.of (t9 _ _ ha7), rfl, (by show 2 ≤ sizeLine; decide), fun qa hqa => ?_⟩)⟩
          exact (fin7.at ex9).new ⟨m, dk9⟩ hqa (.none (kq.mono (by omega))) (isDt_n (as := []) hqa (isDts_1 (IsDt.mono t9 iq7)))
  · refine iteN (vne (by decide +kernel)) ⟨_, rfl, .inr (.inl ⟨a, _, 0, _, rfl, rfl, SqT.of ha, w0, .inl ⟨rfl, _, rfl, iteN (vne (by decide +kernel)) ?_⟩⟩)⟩
    refine ⟨_, rfl, .inr (.inl ⟨a, _, 0, _, rfl, rfl, SqT.of ha, w0, .inl ⟨rfl, _, rfl, iteP veq ?_⟩⟩)⟩
    refine .inr ⟨_, rfl, .inr (.inl ⟨a, _, 1, .ref b, rfl, rfl, SqT.of ha, rfl, b, rfl, ⟨zs, SqT.of hb⟩, ?_⟩)⟩
    have lzs : zs.length = ps.length := by rw [hzs.length, tdatR_map, List.length_map]
    refine ⟨fun i2 m2 qs H4 => ExD p c H3 H4 ∧ DkE H4 p c ∧ m2 + i2 = ps.length ∧ ∃ rs : List (Str × Tr), rs.length ≤ i2 ∧ IsDts H4 (tdatR rs) qs ∧ ∀ r ∈ rs, TH (n' + 2) r.2, ⟨ps.length, .refl _ _ _, ⟨m, dm3⟩, rfl, [], by simp, by rw [tdatR]; exact .nil, nil_mem⟩, ?_⟩
    rintro i2 m2 qs H4 ⟨ex4, dk4, hm2, rs, lrs, irs, hrs⟩
    have lqs : qs.length = rs.length := by rw [irs.length, tdatR_map, List.length_map]
    refine ⟨line1 (by omega), ?_⟩
    have t34 := dm3.tups ex4
    have hb4 := t34 _ _ hb
    by_cases hi2 : i2 < ps.length
    · have hyi : zs[i2]? = some zs[i2] := List.getElem?_eq_getElem (by omega)
      refine .inr ⟨⟨_, _, SqT.of hb4, hyi⟩, fun zz x H5 hy2 => ?_⟩
      obtain ⟨rfl, hx5⟩ := hy2
      obtain rfl : zs[i2] = x := by have := hx5 _ (SqT.of hb4); rw [hyi] at this; injection this
      obtain ⟨pp, cc, u, hpp, ey, hc, hu'⟩ := tr_item hzs hyi
      rw [ey]
      refine ⟨cc, _, rfl, SqT.of (t34 _ _ hc), rfl, _, _, rfl, _, _, rfl, rfl, ?_⟩
      refine tall ?_
      refine ⟨_, rfl, _, rfl, _, rfl, _, rfl, n', by omega, p, c, e, u, pp.2, rfl, dk4, en3.ex ⟨m, dm3⟩ ex4, kq pp (List.mem_of_getElem? hpp), IsDt.mono t34 hu', fun t u2 H6 th it ex6 dk6 => ⟨(by show 2 ≤ sizeLine; decide), fun q hq => ?_⟩⟩
      refine ⟨m2 - 1, by omega, ex4.trans (ex6.trans (exd_new hq)), dk6.new hq, by omega, rs ++ [(pp.1, t)], by simp; omega, ?_, fun r hr' => ?_⟩
      · rw [tdatR_map, List.map_append, ← tdatR_map]
        exact (IsDts.mono ((dk4.tups ex6).trans (same_new hq _).tups) irs).append (.one (isDt_new hq (.cons (isDt_s pp.1) (.one it))))
      · rcases List.mem_append.mp hr' with h | h
        · exact hrs r h
        · rw [List.mem_singleton.mp h]; exact th
    · refine .inl ⟨⟨_, SqT.of hb4, by omega⟩, fun l2 hl2 => ⟨l2, _, rfl, .inl ⟨SqL.of upd_same, fun t1 ht1 => ⟨(by show 2 ≤ sizeLine; decide), fun q hq => ?_⟩⟩⟩⟩
      have s5 := (same_new hl2 (.lst qs)).trans (same_new ht1 (.tup qs))
      subst en'
      exact (fin3.at (ex4.trans (Same.exd s5))).new ((dk4.new hl2).new ht1) hq (.row (by omega) hrs) (isDt_r upd_same (IsDts.mono s5.tups irs) hq)
theorem leaf_all (T : Tx mg) (D__law_leaf : Df K mg "_law_leaf" (top 21) f fd ["deck", "env", "kind"])
    (D__law_take : Df K mg "_law_take" (top 15) f_take fd_take ["deck", "many"]) (G__law_take : FnOk P w K mg base CX0 1 f_take fd_take ["deck", "many"] spTake)
    (D__law_stock : Df K mg "_law_stock" (top 16) f_stock fd_stock []) (G__law_stock : FnOk P w K mg base CX0 1 f_stock fd_stock [] spStock)
    (D__law_ways : Df K mg "_law_ways" (top 17) f_ways fd_ways ["env", "kind"]) (G__law_ways : FnOk P w K mg base CX0 1 f_ways fd_ways ["env", "kind"] spWays) :
    ∀ n : Nat, n ≤ 3 → FnOk P w K mg base CX0 (n + 2) f fd ["deck", "env", "kind"] (spLeaf n) := fun n => by
  induction n using Nat.strongRecOn with
  | _ n ih => exact fun n3 => ok_leaf (j := n + 1) (by omega) n3 T D__law_leaf (fnOk_lt fun e he => (ih e he (by omega)).mono (by omega)) D__law_take G__law_take D__law_stock G__law_stock D__law_ways G__law_ways
end
end K46
end
section
set_option Elab.async false
set_option linter.all false
set_option maxRecDepth 100000
set_option maxHeartbeats 4000000
namespace K46
open PySem L2 Kn
theorem cutT {xs : List V} {r : Int} (h : 0 ≤ r) : cutV xs none (some r) = xs.take r.toNat := by
  obtain ⟨k, rfl⟩ := Int.eq_ofNat_of_zero_le h
  unfold cutV
  rw [HT.sIx_nat, show HT.sIx xs.length 0 none = 0 from rfl, List.drop_zero, Nat.sub_zero, Int.toNat_natCast]
  by_cases h2 : k ≤ xs.length
  · rw [Nat.min_eq_left h2]
  · rw [Nat.min_eq_right (by omega), List.take_of_length_le (by omega), List.take_of_length_le (by omega)]
theorem sub_at {d : Nat} (h : 1 ≤ d) (bb : Bool) : ∃ dd : Nat, dd < d ∧ ((d : Int) - 1) * (if bb = true then 1 else 0) = dd := by
  cases bb
  · exact ⟨0, by omega, by simp⟩
  · exact ⟨d - 1, by omega, by simp; omega⟩
/-- ask, at depth d, of kinds of a sort, told up to s levels -/
def spAsk (ok : Tr → Prop) (d s : Nat) : Sp := fun vs H Q _ => ∃ (p c e : Addr) (v : V) (k : Tr) (i : Int), vs = [.ref p, .ref e, v, .int i] ∧ i = (d : Int) ∧ DkE H p c ∧ EnvOk H e (20 - d) ∧ KG 3 k ∧ ok k ∧ IsDt H (tdat k) v ∧ Out p c s H Q
def AskLt (d s : Nat) : Sp := fun vs H Q E => ∃ dd, dd < d ∧ spAsk (fun _ => True) dd s vs H Q E
def W6 : List Str := [Str.ofString "a", Str.ofString "b", Str.ofString "c", Str.ofString "d", Str.ofString "w", Str.ofString "z"]
section
variable {P : Program} {w : World} {K : PySem.W.Frag} {mg : Str → Option Value} {base : Heap} {f f_take f_ask : Addr} {fd fd_take fd_ask : FuncData}
theorem sc__law_at_row : FnScope ["deck", "env", "kind", "deep", "names", "at", "fields", "k", "name", "own"] ["deck", "env", "kind", "deep"] (defScope (top 25)) := ⟨rfl, rfl, rfl, by decide +kernel, rfl, by decide +kernel, by decide +kernel⟩
theorem ok_at_row {j d s0 : Nat} (hj : 1 ≤ j) (d1 : 1 ≤ d) (d4 : d ≤ 4) (T : Tx mg) (D : Df K mg "_law_at_row" (top 25) f fd ["deck", "env", "kind", "deep"])
    (D__law_ask : Df K mg "_law_ask" (top 26) f_ask fd_ask ["deck", "env", "kind", "deep"]) (G__law_ask : FnOk P w K mg base CX0 j f_ask fd_ask ["deck", "env", "kind", "deep"] (AskLt d s0))
    (D__law_take : Df K mg "_law_take" (top 15) f_take fd_take ["deck", "many"]) (G__law_take : FnOk P w K mg base CX0 1 f_take fd_take ["deck", "many"] spTake) :
    FnOk P w K mg base CX0 (j + 1) f fd ["deck", "env", "kind", "deep"] (spAsk (fun _ => True) d (s0 + 2)) := by
  refine D.fn.okH sc__law_at_row (fun vs H Q E h => ?_) (fun cdv A outer s H vs Q E hr h => ?_)
  · obtain ⟨p, c, e, v, k, i, rfl, _⟩ := h; rfl
  obtain ⟨p, c, e, v, k, i, rfl, rfl, ⟨m, dm⟩, en, kg, -, iv, fin⟩ := h
  have hu := u110 hr
  have hu0 := u0 hr
  have hu1 := hu_of hr
  refine ⟨_, (wss_cons (ws_set (i := 4) sc__law_at_row.nd rfl (Or.inl rfl) (we_slice sl_U (we_lst (wa_consts rfl)) wo_none (wo_some (we_op op_plus we_int (we_call G__law_take (hr.mono (by omega)) rfl D__law_take.mg D__law_take.kp D__law_take.b .nil pass0 (wa_cons (wv 0) (wa_cons we_int wa_nil)))))))
      (wss_cons (ws_set (i := 5) sc__law_at_row.nd rfl (Or.inl rfl) (we_call G__law_take (hr.mono (by omega)) rfl D__law_take.mg D__law_take.kp D__law_take.b .nil pass0 (wa_cons (wv 0) (wa_cons (we_callB call_lenU rfl T.z_len bt_len (wa_cons (wv 4) wa_nil)) wa_nil))))
      (wss_cons (ws_set (i := 6) sc__law_at_row.nd rfl (Or.inl rfl) (we_lst wa_nil))
      (wss_cons (ws_for PassesOwn.never rfl (wi_enum rfl T.z_enumerate (wa_cons (wv 4) wa_nil)) (wg_tup rfl (wgs_cons (wg_name (i := 7) sc__law_at_row.nd rfl (Or.inl rfl)) (wgs_cons (wg_name (i := 8) sc__law_at_row.nd rfl (Or.inl rfl)) wgs_nil))) (wss_cons (ws_set (i := 9) sc__law_at_row.nd rfl (Or.inl rfl) (we_ix (ix_U hu1) (we_lst (wa_cons (we_dt rfl) (wa_cons (wv 2) wa_nil))) (we_callTy call_int1 rfl T.z_int bt_int (wa_cons (we_cmpR (op_eqU hu) (wv 7) (wv 5) (nomark _)) wa_nil)) (fun _ _ => rfl)))
      (wss_one (ws_expr (we_bm PySem.F.plainAttrs_list PySem.F.slot_list_append PySem.F.type_list_append mt_append (wv 6) (wa_cons (we_tup (wa_cons (wv 8) (wa_cons (we_call G__law_ask (hr.mono (by omega)) rfl D__law_ask.mg D__law_ask.kp D__law_ask.b .nil pass0 (wa_cons (wv 0) (wa_cons (wv 1) (wa_cons (wv 9) (wa_cons (we_op op_mul (we_op op_sub (wv 3) we_int) (we_callTy call_int1 rfl T.z_int bt_int (wa_cons (we_cmpR (op_eqU hu) (wv 7) (wv 5) (nomark _)) wa_nil))) wa_nil))))) wa_nil))) wa_nil))))))
      (wss_one (ws_ret (we_tup (wa_cons we_str (wa_cons (we_ix (ix_U hu1) (wv 4) (wv 5) (fun _ _ => rfl)) (wa_cons (we_tup (wa_cons we_str (wa_cons (we_callTy call_tuple_of rfl T.z_tuple bt_tuple (wa_cons (wv 6) wa_nil)) wa_nil))) wa_nil)))))))))), ?_⟩
  refine ⟨(by show 6 ≤ sizeLine; decide), fun l hl => ?_⟩
  have nl := dm.ne hl
  refine ⟨_, rfl, p, c, m, _, rfl, dm.new hl, by decide, by decide, fun x H1 x0 x1 ex1 dk1 => .inl ⟨_, _, rfl, rfl, _, rfl, .inl ⟨l, W6.map V.str, rfl, SqL.of (ex1 l _ nl.1 nl.2 upd_same), fun q hq => ?_⟩⟩⟩
  rw [cutT (by omega), ← List.map_take]
  have lns : (W6.take (1 + x).toNat).length = (1 + x).toNat := by rw [List.length_take]; show min _ 6 = _; omega
  generalize W6.take (1 + x).toNat = ns at lns ⊢
  have ex2 : ExD p c H (upd H1 q (.lst (ns.map V.str))) := (exd_new hl).trans (ex1.trans (exd_new hq))
  have nq := dk1.ne hq
  have dk2 := dk1.new (o := .lst (ns.map V.str)) hq
  have hq2 : (upd H1 q (.lst (ns.map V.str))) q = some (.lst (ns.map V.str)) := upd_same
  generalize upd H1 q (.lst (ns.map V.str)) = H2 at *
  refine ⟨_, rfl, _, rfl, .inl ⟨q, _, rfl, .inl (SqL.of hq2), p, c, m, _, rfl, dk2, (by rw [List.length_map]; omega), Int.lt_of_le_of_lt (show _ ≤ (6 : Int) by rw [List.length_map]; omega) (by decide), fun y H3 y0 y1 ex3 dk3 => ?_⟩⟩
  have hq3 := ex3 q _ nq.1 nq.2 hq2
  have exd3 := ex2.trans ex3
  refine ⟨(by show 0 ≤ sizeLine; decide), fun lf hlf => ?_⟩
  have nlf := dk3.ne hlf
  have nfq : lf ≠ q := fun z => by rw [z, hq3] at hlf; cases hlf
  have hlf0 : ∀ b o, b ≠ p → b ≠ c → H b = some o → b ≠ lf := fun b o n1 n2 e z => by
    have := exd3 b o n1 n2 e; rw [z, hlf] at this; cases this
  refine ⟨_, rfl, q, _, rfl, SqL.of (by rw [upd_ne nfq.symm]; exact hq3), for_enum (a := q) (xs := ns.map V.str) (fun i σ H4 => ∃ o7 o8 o9 : Option V, σ = [some (.ref p), some (.ref e), some v, some (.int d), some (.ref q), some (.int y), some (.ref lf), o7, o8, o9] ∧ ExD p c H H4 ∧ DkE H4 p c ∧ H4 q = some (.lst (ns.map V.str)) ∧ ∃ (rs : List (Str × Tr)) (zs : List V), H4 lf = some (.lst zs) ∧ rs.length ≤ i ∧ IsDts H4 (tdatR rs) zs ∧ ∀ r ∈ rs, TH s0 r.2)
    ⟨none, none, none, rfl, exd3.trans (exd_new hlf), ⟨m, dk3.new hlf⟩, by rw [upd_ne nfq.symm]; exact hq3, [], [], upd_same, by simp, by rw [tdatR]; exact .nil, nil_mem⟩ (fun i σ H4 _ ⟨_, _, _, _, _, _, h, _⟩ => SqL.of h) ?turn ?done⟩
  case done =>
    rintro σ H4 ⟨o7, o8, o9, rfl, ex4, dk4, hq4, rs, zs, hz4, lrs, irs, hrs⟩
    obtain ⟨u, hu4, hum⟩ := atI_mem (xs := ns.map V.str) y0 y1
    obtain ⟨nm, _, rfl⟩ := List.mem_map.mp hum
    refine ⟨_, rfl, _, rfl, .inl ⟨q, _, y, _, rfl, rfl, SqL.of hq4, hu4, _, rfl, lf, zs, rfl, .inl ⟨SqL.of hz4, fun t1 ht1 => ⟨(by show 2 ≤ sizeLine; decide), fun t2 ht2 => ⟨(by show 3 ≤ sizeLine; decide), fun t3 ht3 => ?_⟩⟩⟩⟩⟩
    rw [List.length_map] at lrs
    have row := isDt_r upd_same (IsDts.mono (same_new ht1 (.tup zs)).tups irs) ht2
    exact (fin.at (ex4.trans ((exd_new ht1).trans (exd_new ht2)))).new ((dk4.new ht1).new ht2) ht3 (.more (a := .txt nm) (w := Str.ofString "at") (by decide +kernel) (by simp) (one_mem (.row (by omega) hrs))) (isDt_n (as := [.txt nm]) ht3 (isDts_1 row))
  case turn =>
    rintro i x' t σ H4 hx ⟨o7, o8, o9, rfl, ex4, dk4, hq4, rs, zs, hz4, lrs, irs, hrs⟩ ht
    obtain ⟨nm, _, rfl⟩ := List.mem_map.mp (List.mem_of_getElem? hx)
    refine ⟨t, _, rfl, SqT.of upd_same, rfl, _, _, rfl, _, _, rfl, rfl, ?_⟩
    intro v1 H6 s6 i1
    have s46 := (same_new ht (.tup [.int i, .str nm])).trans s6
    refine ⟨_, rfl, (by show 2 ≤ sizeLine; decide), fun l7 hl7 => ⟨_, rfl, _, rfl, .inl ⟨rfl, .inr ⟨_, rfl, ?_⟩⟩⟩⟩
    generalize decide (V.int (i : Int) = V.int y) = bb
    obtain ⟨own, hown, own2⟩ := sel2 (a := v1) (b := v) bb
    refine .inl ⟨l7, _, _, own, rfl, rfl, SqL.of upd_same, hown, ?_⟩
    have s47 := s46.trans (same_new hl7 (.lst [v1, v]))
    have s67 := same_new hl7 (.lst [v1, v])
    obtain ⟨ko, kgo, io⟩ : ∃ ko, KG 3 ko ∧ IsDt (upd H6 l7 (.lst [v1, v])) (tdat ko) own := by
      rcases own2 with rfl | rfl
      · exact ⟨kNum, .num, IsDt.mono s67.tups i1⟩
      · exact ⟨k, kg, IsDt.mono s47.tups (IsDt.mono (dm.tups ex4) iv)⟩
    have dk7 := dk4.keep s47
    have ex7 := ex4.trans (Same.exd s47)
    have hq7 := s47 _ _ hq4
    have hz7 := s47 _ _ hz4
    have irs7 := IsDts.mono s47.tups irs
    generalize upd H6 l7 (.lst [v1, v]) = H7 at *
    obtain ⟨dd, hdd, edd⟩ := sub_at d1 (decide (V.int (i : Int) = V.int y))
    refine ⟨_, rfl, .inl ⟨rfl, _, SqL.of hz7⟩, _, rfl, _, rfl, _, rfl, _, rfl, _, rfl, _, _, rfl, rfl, _, rfl, _, rfl, .inl ⟨rfl, .inr ⟨_, rfl, _, _, rfl, rfl, .inl ⟨by omega, by omega⟩, ?_⟩⟩⟩
    refine ⟨dd, hdd, p, c, e, own, ko, _, rfl, edd, dk7, (en.ex ⟨m, dm⟩ ex7).le (by omega), kgo, trivial, io, fun t8 u H8 th it ex8 dk8 => ⟨(by show 2 ≤ sizeLine; decide), fun t9 ht9 => ?_⟩⟩
    have hz8 := ex8 lf _ nlf.1 nlf.2 hz7
    have hq8 := ex8 q _ nq.1 nq.2 hq7
    have lz : zs.length = rs.length := by rw [irs.length, tdatR_map, List.length_map]
    rw [List.getElem?_map] at hx
    have hi : i < ns.length := by
      cases hni : ns[i]? with
      | none => rw [hni] at hx; cases hx
      | some _ => exact (List.getElem?_eq_some_iff.mp hni).1
    refine ⟨lf, zs, .ref t9, rfl, rfl, same_new ht9 _ _ _ hz8, line1 (by omega), ?_⟩
    have tz := tups_at (us' := zs ++ [.ref t9]) (same_new ht9 (.tup [.str nm, u]) _ _ hz8)
    have kz : ∀ b o, b ≠ lf → (upd H8 t9 (.tup [.str nm, u])) b = some o → (upd (upd H8 t9 (.tup [.str nm, u])) lf (.lst (zs ++ [.ref t9]))) b = some o := fun b o n e => by rw [upd_ne n]; exact e
    refine ⟨_, _, _, rfl, fun b o n1 n2 eb => kz b o (hlf0 b o n1 n2 eb) (exd_new ht9 b o n1 n2 (ex8 b o n1 n2 (ex7 b o n1 n2 eb))), ?_, kz q _ nfq.symm (same_new ht9 _ _ _ hq8), rs ++ [(nm, t8)], zs ++ [.ref t9], upd_same, by simp; omega, ?_, fun r hr' => ?_⟩
    · obtain ⟨m8, n8, cs8, h1, h2, r8⟩ := dk8.new (o := .tup [.str nm, u]) ht9
      exact ⟨m8, n8, cs8, kz p _ nlf.1.symm h1, kz c _ nlf.2.symm h2, r8⟩
    · rw [tdatR_map, List.map_append, ← tdatR_map]
      exact IsDts.mono tz ((IsDts.mono ((dk7.tups ex8).trans (same_new ht9 _).tups) irs7).append (.one (isDt_new ht9 (.cons (isDt_s nm) (.one it)))))
    · rcases List.mem_append.mp hr' with h | h
      · exact hrs r h
      · rw [List.mem_singleton.mp h]; exact th
end
end K46
end
section
set_option Elab.async false
set_option linter.all false
set_option maxRecDepth 100000
set_option maxHeartbeats 4000000
namespace K46
open PySem L2 Kn
section
variable {P : Program} {w : World} {K : PySem.W.Frag} {mg : Str → Option Value} {base : Heap} {f f_take f_ask f_name f_kind f_with f_claim f_bound : Addr} {fd fd_take fd_ask fd_name fd_kind fd_with fd_claim fd_bound : FuncData}
theorem at3 {a b c : V} {x : Int} {bb : Bool} (h0 : 0 ≤ x) (h1 : x < 3) : ∃ v, atI [a, b, c] (x * (if bb = true then 1 else 0)) = some v ∧ v ∈ [a, b, c] := by
  cases bb
  · exact ⟨a, by rw [if_neg (by decide), Int.mul_zero]; rfl, List.mem_cons_self⟩
  · rw [if_pos rfl, Int.mul_one]; exact atI_mem h0 h1
theorem sc__law_bound : FnScope ["deck", "env", "kind", "deep", "name", "own", "word", "first"] ["deck", "env", "kind", "deep"] (defScope (top 23)) := ⟨rfl, rfl, rfl, by decide +kernel, rfl, by decide +kernel, by decide +kernel⟩
theorem ok_bound {j d s0 : Nat} (hj : 2 ≤ j) (d1 : 1 ≤ d) (d4 : d ≤ 4) (T : Tx mg) (D : Df K mg "_law_bound" (top 23) f fd ["deck", "env", "kind", "deep"])
    (D__law_ask : Df K mg "_law_ask" (top 26) f_ask fd_ask ["deck", "env", "kind", "deep"]) (G__law_ask : FnOk P w K mg base CX0 j f_ask fd_ask ["deck", "env", "kind", "deep"] (AskLt d s0))
    (D__law_take : Df K mg "_law_take" (top 15) f_take fd_take ["deck", "many"]) (G__law_take : FnOk P w K mg base CX0 1 f_take fd_take ["deck", "many"] spTake)
    (D__law_name : Df K mg "_law_name" (top 19) f_name fd_name ["deck"]) (G__law_name : FnOk P w K mg base CX0 2 f_name fd_name ["deck"] spName)
    (D__law_kind : Df K mg "_law_kind" (top 20) f_kind fd_kind ["deck"]) (G__law_kind : FnOk P w K mg base CX0 2 f_kind fd_kind ["deck"] spKind)
    (D__law_with : Df K mg "_law_with" (top 18) f_with fd_with ["env", "name", "kind"]) (G__law_with : FnOk P w K mg base CX0 1 f_with fd_with ["env", "name", "kind"] spWith) :
    FnOk P w K mg base CX0 (j + 1) f fd ["deck", "env", "kind", "deep"] (spAsk (fun _ => True) d (s0 + 2)) := by
  refine D.fn.okH sc__law_bound (fun vs H Q E h => ?_) (fun cdv A outer s H vs Q E hr h => ?_)
  · obtain ⟨p, c, e, v, k, i, rfl, _⟩ := h; rfl
  obtain ⟨p, c, e, v, k, i, rfl, rfl, dk, en, kg, -, iv, fin⟩ := h
  have hu := u110 hr
  have hu0 := u0 hr
  have hu1 := hu_of hr
  refine ⟨_, (wss_cons (ws_set (i := 4) sc__law_bound.nd rfl (Or.inl rfl) (we_call G__law_name (hr.mono (by omega)) rfl D__law_name.mg D__law_name.kp D__law_name.b .nil pass0 (wa_cons (wv 0) wa_nil)))
      (wss_cons (ws_set (i := 5) sc__law_bound.nd rfl (Or.inl rfl) (we_call G__law_kind (hr.mono (by omega)) rfl D__law_kind.mg D__law_kind.kp D__law_kind.b .nil pass0 (wa_cons (wv 0) wa_nil)))
      (wss_cons (ws_set (i := 6) sc__law_bound.nd rfl (Or.inl rfl) (we_ix (ix_U hu1) (we_lst (wa_consts rfl)) (we_op op_mul (we_call G__law_take (hr.mono (by omega)) rfl D__law_take.mg D__law_take.kp D__law_take.b .nil pass0 (wa_cons (wv 0) (wa_cons we_int wa_nil))) (we_callTy call_int1 rfl T.z_int bt_int (wa_cons (we_cmpR (op_eqU hu) (we_ix (ix_U hu1) (wv 2) we_int (fun _ _ => rfl)) we_str (nomark _)) wa_nil))) (fun _ _ => rfl)))
      (wss_cons (ws_set (i := 7) sc__law_bound.nd rfl (Or.inl rfl) (we_call G__law_ask (hr.mono (by omega)) rfl D__law_ask.mg D__law_ask.kp D__law_ask.b .nil pass0 (wa_cons (wv 0) (wa_cons (wv 1) (wa_cons (we_ix (ix_U hu1) (we_lst (wa_cons (wv 5) (wa_cons (we_tup (wa_cons we_str (wa_cons (wv 5) wa_nil))) wa_nil))) (we_callTy call_int1 rfl T.z_int bt_int (wa_cons (we_cmpR (op_eqU hu) (wv 6) we_str (nomark _)) wa_nil)) (fun _ _ => rfl)) (wa_cons (we_op op_sub (wv 3) we_int) wa_nil))))))
      (wss_one (ws_ret (we_tup (wa_cons (wv 6) (wa_cons (wv 4) (wa_cons (wv 7) (wa_cons (we_call G__law_ask (hr.mono (by omega)) rfl D__law_ask.mg D__law_ask.kp D__law_ask.b .nil pass0 (wa_cons (wv 0) (wa_cons (we_call G__law_with (hr.mono (by omega)) rfl D__law_with.mg D__law_with.kp D__law_with.b .nil pass0 (wa_cons (wv 1) (wa_cons (wv 4) (wa_cons (wv 5) wa_nil)))) (wa_cons (wv 2) (wa_cons (we_op op_sub (wv 3) we_int) wa_nil))))) wa_nil))))))))))), ?_⟩
  refine ⟨_, rfl, p, c, rfl, dk, fun nm H1 lnm ex1 dk1 => ⟨_, rfl, p, c, rfl, dk1, fun ko vo H2 kgo io ex2 dk2 => ⟨(by show 3 ≤ sizeLine; decide), fun l hl => ?_⟩⟩⟩
  have nl := dk2.ne hl
  obtain ⟨m, dm2⟩ := dk2
  refine ⟨_, rfl, p, c, m, _, rfl, dm2.new hl, by decide, by decide, fun x H3 x0 x1 ex3 dk3 => ?_⟩
  have ex03 := ex1.trans (ex2.trans ((exd_new hl).trans ex3))
  have t23 := (same_new hl (.lst [.str "let", .str "for", .str "for"])).tups.trans ((dm2.new hl).tups ex3)
  have iv3 := IsDt.mono (dk.tups ex03) iv
  have io3 := IsDt.mono t23 io
  have en3 := en.ex dk ex03
  obtain ⟨a, wd, xs, rfl, ha, cases4⟩ := kg_word kg iv3
  refine ⟨_, rfl, .inr (.inl ⟨a, _, 0, .str wd, rfl, rfl, SqT.of ha, (show atI (V.str wd :: xs) ((0 : Nat) : Int) = _ from atI_nat rfl), .inl ⟨rfl, .inr ⟨_, rfl, _, _, rfl, rfl, .inr ⟨by split <;> decide, by split <;> decide⟩, ?_⟩⟩⟩)⟩
  obtain ⟨wv, hwv, hwm⟩ := at3 (a := .str "let") (b := .str "for") (c := .str "for") (bb := decide (V.str wd = V.str (Str.ofString "bag"))) x0 x1
  refine .inl ⟨l, _, _, wv, rfl, rfl, SqL.of (ex3 l _ nl.1 nl.2 upd_same), hwv, ?_⟩
  obtain ⟨word, rfl, hword⟩ : ∃ word : Str, wv = .str word ∧ word ∈ [Str.ofString "at", Str.ofString "times", Str.ofString "for", Str.ofString "let"] := by
    simp only [List.mem_cons, List.not_mem_nil, or_false] at hwm
    rcases hwm with rfl | rfl | rfl <;> exact ⟨_, rfl, by decide +kernel⟩
  refine ⟨_, rfl, _, rfl, _, rfl, _, rfl, (by show 2 ≤ sizeLine; decide), fun t1 ht1 => ⟨(by show 2 ≤ sizeLine; decide), fun l2 hl2 => ⟨_, rfl, .inl ⟨rfl, .inr ⟨_, rfl, ?_⟩⟩⟩⟩⟩
  obtain ⟨sv, hsv, hsv2⟩ := sel2 (a := vo) (b := .ref t1) (decide (V.str word = V.str (Str.ofString "for")))
  have s34 := (same_new ht1 (.tup [.str "bag", vo])).trans (same_new hl2 (.lst [vo, .ref t1]))
  refine .inl ⟨l2, _, _, sv, rfl, rfl, SqL.of upd_same, hsv, _, rfl, _, _, rfl, rfl, ?_⟩
  obtain ⟨ks, kgs, is⟩ : ∃ ks, KG 3 ks ∧ IsDt (upd (upd H3 t1 (.tup [.str "bag", vo])) l2 (.lst [vo, .ref t1])) (tdat ks) sv := by
    rcases hsv2 with rfl | rfl
    · exact ⟨ko, kgo.up, IsDt.mono s34.tups io3⟩
    · exact ⟨.node (Str.ofString "bag") [] [ko], .bag kgo, IsDt.mono (same_new hl2 _).tups (isDt_n (as := []) ht1 (isDts_1 io3))⟩
  have dk4 := dk3.keep s34
  have en4 := en3.keep s34
  have iv4 := IsDt.mono s34.tups iv3
  have io4 := IsDt.mono s34.tups io3
  have fin4 := fin.at (ex03.trans (Same.exd s34))
  generalize upd (upd H3 t1 (.tup [.str "bag", vo])) l2 (.lst [vo, .ref t1]) = H4 at *
  refine ⟨d - 1, by omega, p, c, e, sv, ks, _, rfl, by omega, ⟨m, dk4⟩, en4.le (by omega), kgs, trivial, is, fun t5 u5 H5 th5 it5 ex5 dk5 => ?_⟩
  have t45 := dk4.tups ex5
  refine ⟨_, rfl, _, rfl, _, rfl, _, rfl, _, rfl, _, rfl, _, rfl, e, nm, vo, ko, 20 - d, rfl, en4.ex ⟨m, dk4⟩ ex5, by omega, lnm, kgo.up, IsDt.mono t45 io4, fun e' H6 s6 he' en6 => ?_⟩
  refine ⟨_, rfl, _, rfl, _, _, rfl, rfl, d - 1, by omega, p, c, e', _, k, _, rfl, by omega, dk5.keep s6, en6.le (by omega), kg, trivial, IsDt.mono s6.tups (IsDt.mono t45 iv4), fun t7 u7 H7 th7 it7 ex7 dk7 => ⟨(by show 4 ≤ sizeLine; decide), fun q hq => ?_⟩⟩
  have it57 := IsDt.mono (dk5.keep s6 |>.tups ex7) (IsDt.mono s6.tups it5)
  exact (fin4.at (ex5.trans ((Same.exd s6).trans ex7))).new dk7 hq ((TH.more (a := .txt nm) hword (by simp) (two_mem th5 th7)).up) (isDt_n (as := [.txt nm]) hq (isDts_2 it57 it7))
theorem viaP {A B : Prop} (f : A → B) (a : A) : B := f a
def flatK (k : Tr) : Prop := k = kNum ∨ k = kWord
theorem sc__law_claim : FnScope ["deck", "env", "deep", "way", "kind", "one"] ["deck", "env", "deep"] (defScope (top 22)) := ⟨rfl, rfl, rfl, by decide +kernel, rfl, by decide +kernel, by decide +kernel⟩
def spClaim (d : Nat) : Sp := fun vs H Q _ => ∃ (p c e : Addr) (i : Int), vs = [.ref p, .ref e, .int i] ∧ i = (d : Int) ∧ DkE H p c ∧ EnvOk H e 19 ∧ Out p c (8 + d) H Q
theorem ok_claim {j d : Nat} (hj : 1 ≤ j) (d1 : d ≤ 1) (T : Tx mg) (D__law_claim : Df K mg "_law_claim" (top 22) f fd ["deck", "env", "deep"]) (G__law_claim : FnOk P w K mg base CX0 j f fd ["deck", "env", "deep"] (fun vs H Q E => ∃ e, e < d ∧ spClaim e vs H Q E))
    (D__law_ask : Df K mg "_law_ask" (top 26) f_ask fd_ask ["deck", "env", "kind", "deep"]) (G__law_ask : FnOk P w K mg base CX0 j f_ask fd_ask ["deck", "env", "kind", "deep"] (spAsk flatK 1 7))
    (D__law_take : Df K mg "_law_take" (top 15) f_take fd_take ["deck", "many"]) (G__law_take : FnOk P w K mg base CX0 1 f_take fd_take ["deck", "many"] spTake) :
    FnOk P w K mg base CX0 (j + 1) f fd ["deck", "env", "deep"] (spClaim d) := by
  refine D__law_claim.fn.okH sc__law_claim (fun vs H Q E h => ?_) (fun cdv A outer s H vs Q E hr h => ?_)
  · obtain ⟨p, c, e, i, rfl, _⟩ := h; rfl
  obtain ⟨p, c, e, i, rfl, rfl, ⟨m, dm⟩, en, fin⟩ := h
  have hu := u110 hr
  have hu0 := u0 hr
  have hu1 := hu_of hr
  refine ⟨_, (wss_cons (ws_set (i := 3) sc__law_claim.nd rfl (Or.inl rfl) (we_call G__law_take (hr.mono (by omega)) rfl D__law_take.mg D__law_take.kp D__law_take.b .nil pass0 (wa_cons (wv 0) (wa_cons we_int wa_nil))))
      (wss_cons (ws_if (wt_pw (ww_or (wt_cmpR (op_ltU hu0) (wv 3) we_int (nomark _)) (ww_or1 (wt_cmpR (op_eqU hu) (wv 2) we_int (nomark _))))) (wss_cons (ws_set (i := 4) sc__law_claim.nd rfl (Or.inl rfl) (we_ix (ix_U hu1) (we_lst (wa_cons (we_dt rfl) (wa_cons (we_dt rfl) wa_nil))) (we_callTy call_int1 rfl T.z_int bt_int (wa_cons (we_cmpR (op_eqU hu) (wv 3) we_int (nomark _)) wa_nil)) (fun _ _ => rfl)))
      (wss_cons (ws_set (i := 5) sc__law_claim.nd rfl (Or.inl rfl) (we_call G__law_ask (hr.mono (by omega)) rfl D__law_ask.mg D__law_ask.kp D__law_ask.b .nil pass0 (wa_cons (wv 0) (wa_cons (wv 1) (wa_cons (wv 4) (wa_cons we_int wa_nil))))))
      (wss_one (ws_ret (we_tup (wa_cons (we_ix (ix_U hu1) (we_lst (wa_consts rfl)) (we_op op_mod (wv 3) we_int) (fun _ _ => rfl)) (wa_cons (wv 5) (wa_cons (we_call G__law_ask (hr.mono (by omega)) rfl D__law_ask.mg D__law_ask.kp D__law_ask.b .nil pass0 (wa_cons (wv 0) (wa_cons (wv 1) (wa_cons (wv 4) (wa_cons we_int wa_nil))))) wa_nil)))))))) wss_nil)
      (wss_cons (ws_set (i := 5) sc__law_claim.nd rfl (Or.inl rfl) (we_call G__law_claim (hr.mono (by omega)) rfl D__law_claim.mg D__law_claim.kp D__law_claim.b .nil pass0 (wa_cons (wv 0) (wa_cons (wv 1) (wa_cons (we_op op_sub (wv 2) we_int) wa_nil)))))
      (wss_cons (ws_if (wt_cmpR (op_eqU hu) (wv 3) we_int (nomark _)) (wss_one (ws_ret (we_tup (wa_cons we_str (wa_cons (wv 5) wa_nil))))) wss_nil)
      (wss_one (ws_ret (we_tup (wa_cons (we_ix (ix_U hu1) (we_lst (wa_consts rfl)) (we_op op_sub (wv 3) we_int) (fun _ _ => rfl)) (wa_cons (wv 5) (wa_cons (we_call G__law_claim (hr.mono (by omega)) rfl D__law_claim.mg D__law_claim.kp D__law_claim.b .nil pass0 (wa_cons (wv 0) (wa_cons (wv 1) (wa_cons (we_op op_sub (wv 2) we_int) wa_nil)))) wa_nil)))))))))), ?_⟩
  refine ⟨_, rfl, p, c, m, _, rfl, dm, by decide, by decide, fun x H1 x0 x1 ex1 dk1 => ?_⟩
  have en1 := en.ex ⟨m, dm⟩ ex1
  have fin1 := fin.at ex1
  refine viaP (fun key => ⟨_, rfl, .inl ⟨_, _, rfl, rfl, _, rfl, ite2 (fun e3 => iteP rfl key) (fun e3 => ⟨_, rfl, .inl ⟨rfl, _, rfl, ite2 (fun e0 => key) (fun e0 => ?no)⟩⟩)⟩⟩) ?restOf
  case restOf =>
    intro v2 H2 s2 i2 v3 H3 s3 i3
    refine ⟨(by show 2 ≤ sizeLine; decide), fun l hl => ⟨_, rfl, .inl ⟨rfl, .inr ⟨_, rfl, ?_⟩⟩⟩⟩
    obtain ⟨kv, hkv, hkv2⟩ := sel2 (a := v2) (b := v3) (decide (V.int x = V.int 2))
    refine .inl ⟨l, _, _, kv, rfl, rfl, SqL.of upd_same, hkv, ?_⟩
    have s34 := same_new hl (.lst [v2, v3])
    obtain ⟨ks, kgs, fls, is⟩ : ∃ ks, KG 3 ks ∧ flatK ks ∧ IsDt (upd H3 l (.lst [v2, v3])) (tdat ks) kv := by
      rcases hkv2 with rfl | rfl
      · exact ⟨kNum, .num, .inl rfl, IsDt.mono s34.tups (IsDt.mono s3.tups i2)⟩
      · exact ⟨kWord, .word, .inr rfl, IsDt.mono s34.tups i3⟩
    have s14 := s2.trans (s3.trans s34)
    have dk4 := dk1.keep s14
    have en4 := en1.keep s14
    have fin4 := fin1.at (Same.exd s14)
    generalize upd H3 l (.lst [v2, v3]) = H4 at *
    refine ⟨_, rfl, _, rfl, _, rfl, p, c, e, kv, ks, 1, rfl, rfl, ⟨m, dk4⟩, en4, kgs, fls, is, fun t5 u5 H5 th5 it5 ex5 dk5 => ⟨(by show 3 ≤ sizeLine; decide), fun l6 hl6 => ⟨_, rfl, _, _, rfl, rfl, (by show (0 : Int) < 3; decide), ?_⟩⟩⟩
    obtain ⟨wv, hwv, hwm⟩ := atI_mem (xs := [V.str "under", .str "same", .str "same"]) (Int.emod_nonneg x (by decide : (3 : Int) ≠ 0)) (Int.emod_lt_of_pos x (by decide : (0 : Int) < 3))
    obtain ⟨word, rfl, hw1, hw2⟩ : ∃ word : Str, wv = .str word ∧ word ∉ HM ∧ word ≠ Str.ofString "row" := by
      simp only [List.mem_cons, List.not_mem_nil, or_false] at hwm
      rcases hwm with rfl | rfl | rfl <;> exact ⟨_, rfl, by decide +kernel, by decide +kernel⟩
    have s56 := same_new hl6 (.lst [.str "under", .str "same", .str "same"])
    refine .inl ⟨l6, _, _, _, rfl, rfl, SqL.of upd_same, hwv, _, rfl, _, rfl, _, rfl, _, rfl, p, c, e, kv, ks, 1, rfl, rfl, dk5.keep s56, (en4.ex ⟨m, dk4⟩ ex5).keep s56, kgs, fls, IsDt.mono s56.tups (IsDt.mono (dk4.tups ex5) is), fun t7 u7 H7 th7 it7 ex7 dk7 => ⟨(by show 3 ≤ sizeLine; decide), fun q hq => ?_⟩⟩
    have it57 := IsDt.mono ((dk5.keep s56).tups ex7) (IsDt.mono s56.tups it5)
    exact (fin4.at (ex5.trans ((Same.exd s56).trans ex7))).new dk7 hq ((TH.plain hw1 hw2 (by simp) (two_mem th5 th7)).mono (by omega)) (isDt_n (as := []) hq (isDts_2 it57 it7))
  case no =>
    have hd1 : d = 1 := by
      have : ¬ (V.int (d : Int) = V.int 0) := fun z => e0 (decide_eq_true z)
      have : d ≠ 0 := fun z => this (by rw [z]; rfl)
      omega
    subst hd1
    have hx3 : ¬ x < 3 := fun z => e3 (decide_eq_true z)
    refine ⟨_, rfl, _, rfl, _, rfl, _, _, rfl, rfl, 0, by decide, p, c, e, _, rfl, rfl, ⟨m, dk1⟩, en1, fun t5 u5 H5 th5 it5 ex5 dk5 => ?_⟩
    refine ⟨_, rfl, .inl ⟨rfl, _, rfl, ite2 (fun e4 => ?_) (fun e4 => ?_)⟩⟩
    · refine ⟨_, rfl, (by show 2 ≤ sizeLine; decide), fun q hq => ?_⟩
      exact (fin1.at ex5).new dk5 hq (TH.plain (w := Str.ofString "not") (by decide +kernel) (by decide +kernel) (by simp) (one_mem th5)) (isDt_n (as := []) hq (isDts_1 it5))
    · have hx4 : x ≠ 3 := fun z => e4 (decide_eq_true (by rw [z]))
      refine ⟨(by show 2 ≤ sizeLine; decide), fun l6 hl6 => ⟨_, rfl, _, _, rfl, rfl, ?_⟩⟩
      obtain ⟨wv, hwv, hwm⟩ := atI_mem (xs := [V.str "and", .str "or"]) (r := x - 4) (by omega) (by show x - 4 < 2; omega)
      obtain ⟨word, rfl, hw1, hw2⟩ : ∃ word : Str, wv = .str word ∧ word ∉ HM ∧ word ≠ Str.ofString "row" := by
        simp only [List.mem_cons, List.not_mem_nil, or_false] at hwm
        rcases hwm with rfl | rfl <;> exact ⟨_, rfl, by decide +kernel, by decide +kernel⟩
      have s56 := same_new hl6 (.lst [.str "and", .str "or"])
      refine .inl ⟨l6, _, _, _, rfl, rfl, SqL.of upd_same, hwv, _, rfl, _, rfl, _, rfl, _, rfl, _, _, rfl, rfl, 0, by decide, p, c, e, _, rfl, rfl, dk5.keep s56, (en1.ex ⟨m, dk1⟩ ex5).keep s56, fun t7 u7 H7 th7 it7 ex7 dk7 => ⟨(by show 3 ≤ sizeLine; decide), fun q hq => ?_⟩⟩
      have it57 := IsDt.mono ((dk5.keep s56).tups ex7) (IsDt.mono s56.tups it5)
      exact (fin1.at (ex5.trans ((Same.exd s56).trans ex7))).new dk7 hq (TH.plain hw1 hw2 (by simp) (two_mem th5 th7)) (isDt_n (as := []) hq (isDts_2 it57 it7))
end
end K46
end
section
set_option Elab.async false
set_option linter.all false
set_option maxRecDepth 100000
set_option maxHeartbeats 4000000
namespace K46
open PySem L2 Kn
def isBag (k : Tr) : Prop := ∃ q, k = .node (Str.ofString "bag") [] [q]
section
variable {P : Program} {w : World} {K : PySem.W.Frag} {mg : Str → Option Value} {base : Heap} {f f_take f_ask f_claim f_bound f_leaf f_at_row f_bag : Addr} {fd fd_take fd_ask fd_claim fd_bound fd_leaf fd_at_row fd_bag : FuncData}
theorem sc__law_bag : FnScope ["deck", "env", "kind", "deep", "way", "one"] ["deck", "env", "kind", "deep"] (defScope (top 24)) := ⟨rfl, rfl, rfl, by decide +kernel, rfl, by decide +kernel, by decide +kernel⟩
theorem ok_bag {j d s0 : Nat} (hj : 1 ≤ j) (d1 : 1 ≤ d) (d4 : d ≤ 4) (s9 : 9 ≤ s0) (T : Tx mg) (D : Df K mg "_law_bag" (top 24) f fd ["deck", "env", "kind", "deep"])
    (D__law_ask : Df K mg "_law_ask" (top 26) f_ask fd_ask ["deck", "env", "kind", "deep"]) (G__law_ask : FnOk P w K mg base CX0 j f_ask fd_ask ["deck", "env", "kind", "deep"] (AskLt d s0))
    (D__law_claim : Df K mg "_law_claim" (top 22) f_claim fd_claim ["deck", "env", "deep"]) (G__law_claim : FnOk P w K mg base CX0 j f_claim fd_claim ["deck", "env", "deep"] (spClaim 1))
    (D__law_bound : Df K mg "_law_bound" (top 23) f_bound fd_bound ["deck", "env", "kind", "deep"]) (G__law_bound : FnOk P w K mg base CX0 j f_bound fd_bound ["deck", "env", "kind", "deep"] (spAsk (fun _ => True) d (s0 + 2)))
    (D__law_take : Df K mg "_law_take" (top 15) f_take fd_take ["deck", "many"]) (G__law_take : FnOk P w K mg base CX0 1 f_take fd_take ["deck", "many"] spTake) :
    FnOk P w K mg base CX0 (j + 1) f fd ["deck", "env", "kind", "deep"] (spAsk isBag d (s0 + 2)) := by
  refine D.fn.okH sc__law_bag (fun vs H Q E h => ?_) (fun cdv A outer s H vs Q E hr h => ?_)
  · obtain ⟨p, c, e, v, k, i, rfl, _⟩ := h; rfl
  obtain ⟨p, c, e, v, k, i, rfl, rfl, ⟨m, dm⟩, en, kg, ⟨q, rfl⟩, iv, fin⟩ := h
  have hu := u110 hr
  have hu0 := u0 hr
  have hu1 := hu_of hr
  refine ⟨_, (wss_cons (ws_set (i := 4) sc__law_bag.nd rfl (Or.inl rfl) (we_call G__law_take (hr.mono (by omega)) rfl D__law_take.mg D__law_take.kp D__law_take.b .nil pass0 (wa_cons (wv 0) (wa_cons we_int wa_nil))))
      (wss_cons (ws_if (wt_cmpR (op_eqU hu) (wv 4) we_int (nomark _)) (wss_one (ws_ret (we_tup (wa_cons we_str (wa_cons (we_call G__law_ask (hr.mono (by omega)) rfl D__law_ask.mg D__law_ask.kp D__law_ask.b .nil pass0 (wa_cons (wv 0) (wa_cons (wv 1) (wa_cons (we_ix (ix_U hu1) (wv 2) we_int (fun _ _ => rfl)) (wa_cons (we_op op_sub (wv 3) we_int) wa_nil))))) wa_nil))))) wss_nil)
      (wss_cons (ws_if (wt_cmpR (op_eqU hu) (wv 4) we_int (nomark _)) (wss_cons (ws_set (i := 5) sc__law_bag.nd rfl (Or.inl rfl) (we_call G__law_ask (hr.mono (by omega)) rfl D__law_ask.mg D__law_ask.kp D__law_ask.b .nil pass0 (wa_cons (wv 0) (wa_cons (wv 1) (wa_cons (wv 2) (wa_cons (we_op op_sub (wv 3) we_int) wa_nil))))))
      (wss_one (ws_ret (we_tup (wa_cons we_str (wa_cons (wv 5) (wa_cons (we_call G__law_ask (hr.mono (by omega)) rfl D__law_ask.mg D__law_ask.kp D__law_ask.b .nil pass0 (wa_cons (wv 0) (wa_cons (wv 1) (wa_cons (wv 2) (wa_cons (we_op op_sub (wv 3) we_int) wa_nil))))) wa_nil))))))) wss_nil)
      (wss_cons (ws_if (wt_cmpR (op_eqU hu) (wv 4) we_int (nomark _)) (wss_one (ws_ret (we_tup (wa_cons we_str (wa_cons (we_ix (ix_U hu1) (we_lst (wa_cons we_int (wa_cons (we_un un_neg we_int) (wa_cons we_int (wa_cons we_int (wa_cons we_int (wa_cons (we_op op_pow we_int we_int) wa_nil))))))) (we_call G__law_take (hr.mono (by omega)) rfl D__law_take.mg D__law_take.kp D__law_take.b .nil pass0 (wa_cons (wv 0) (wa_cons we_int wa_nil))) (fun _ _ => rfl)) (wa_cons (we_call G__law_ask (hr.mono (by omega)) rfl D__law_ask.mg D__law_ask.kp D__law_ask.b .nil pass0 (wa_cons (wv 0) (wa_cons (wv 1) (wa_cons (wv 2) (wa_cons (we_op op_sub (wv 3) we_int) wa_nil))))) wa_nil)))))) wss_nil)
      (wss_cons (ws_if (wt_cmpR (op_eqU hu) (wv 4) we_int (nomark _)) (wss_cons (ws_set (i := 5) sc__law_bag.nd rfl (Or.inl rfl) (we_call G__law_claim (hr.mono (by omega)) rfl D__law_claim.mg D__law_claim.kp D__law_claim.b .nil pass0 (wa_cons (wv 0) (wa_cons (wv 1) (wa_cons we_int wa_nil)))))
      (wss_one (ws_ret (we_tup (wa_cons we_str (wa_cons (wv 5) (wa_cons (we_call G__law_ask (hr.mono (by omega)) rfl D__law_ask.mg D__law_ask.kp D__law_ask.b .nil pass0 (wa_cons (wv 0) (wa_cons (wv 1) (wa_cons (wv 2) (wa_cons (we_op op_sub (wv 3) we_int) wa_nil))))) wa_nil))))))) wss_nil)
      (wss_one (ws_ret (we_call G__law_bound (hr.mono (by omega)) rfl D__law_bound.mg D__law_bound.kp D__law_bound.b .nil pass0 (wa_cons (wv 0) (wa_cons (wv 1) (wa_cons (wv 2) (wa_cons (wv 3) wa_nil)))))))))))), ?_⟩
  refine ⟨_, rfl, p, c, m, _, rfl, dm, by decide, by decide, fun x H1 x0 x1 ex1 dk1 => ?_⟩
  have en1 := en.ex ⟨m, dm⟩ ex1
  have fin1 := fin.at ex1
  have iv1 := IsDt.mono (dm.tups ex1) iv
  have kq : KG 3 q := by cases kg with | bag h => exact h.up
  have dkE : DkE H1 p c := ⟨m, dk1⟩
  refine ⟨_, rfl, .inl ⟨rfl, _, rfl, ite2 (fun e1 => ?_) (fun e1 => ?_)⟩⟩
  · obtain ⟨a, zs, rfl, ha, hz⟩ := tr_node iv1
    obtain ⟨u, rfl, iu⟩ := isDts_one hz
    refine ⟨_, rfl, _, rfl, _, rfl, .inr (.inl ⟨a, _, 1, u, rfl, rfl, SqT.of ha, rfl, _, rfl, _, _, rfl, rfl, d - 1, by omega, p, c, e, u, q, _, rfl, by omega, dkE, en1.le (by omega), kq, trivial, iu, fun t5 u5 H5 th5 it5 ex5 dk5 => ⟨(by show 2 ≤ sizeLine; decide), fun qa hqa => ?_⟩⟩)⟩
    exact (fin1.at ex5).new dk5 hqa ((TH.plain (w := Str.ofString "one") (by decide +kernel) (by decide +kernel) (by simp) (one_mem th5)).up) (isDt_n (as := []) hqa (isDts_1 it5))
  refine ⟨_, rfl, .inl ⟨rfl, _, rfl, ite2 (fun e2 => ?_) (fun e2 => ?_)⟩⟩
  · refine ⟨_, rfl, _, rfl, _, rfl, _, rfl, _, _, rfl, rfl, d - 1, by omega, p, c, e, v, _, _, rfl, by omega, dkE, en1.le (by omega), kg, trivial, iv1, fun t5 u5 H5 th5 it5 ex5 dk5 => ?_⟩
    refine ⟨_, rfl, _, rfl, _, rfl, _, rfl, _, rfl, _, _, rfl, rfl, d - 1, by omega, p, c, e, v, _, _, rfl, by omega, dk5, (en1.ex dkE ex5).le (by omega), kg, trivial, IsDt.mono (dkE.tups ex5) iv1, fun t7 u7 H7 th7 it7 ex7 dk7 => ⟨(by show 3 ≤ sizeLine; decide), fun qa hqa => ?_⟩⟩
    exact (fin1.at (ex5.trans ex7)).new dk7 hqa ((TH.plain (w := Str.ofString "both") (by decide +kernel) (by decide +kernel) (by simp) (two_mem th5 th7)).up) (isDt_n (as := []) hqa (isDts_2 (IsDt.mono (dk5.tups ex7) it5) it7))
  refine ⟨_, rfl, .inl ⟨rfl, _, rfl, ite2 (fun e3 => ?_) (fun e3 => ?_)⟩⟩
  · refine ⟨_, rfl, _, _, rfl, rfl, ⟨by decide, by decide, by decide⟩, (by show 6 ≤ sizeLine; decide), fun l hl => ?_⟩
    have nl := dk1.ne hl
    refine ⟨_, rfl, p, c, m, _, rfl, dk1.new hl, by decide, by decide, fun y H2 y0 y1 ex2 dk2 => ?_⟩
    obtain ⟨wv, hwv, hwm⟩ := atI_mem (xs := [V.int 2, .int (-1), .int 0, .int 1, .int 3, .int (10 ^ (9 : Int).toNat)]) y0 y1
    refine .inl ⟨l, _, y, wv, rfl, rfl, SqL.of (ex2 l _ nl.1 nl.2 upd_same), hwv, ?_⟩
    obtain ⟨ii, rfl⟩ : ∃ ii : Int, wv = .int ii := by
      simp only [List.mem_cons, List.not_mem_nil, or_false] at hwm
      rcases hwm with rfl | rfl | rfl | rfl | rfl | rfl <;> exact ⟨_, rfl⟩
    have ex12 := (exd_new hl).trans ex2
    refine ⟨_, rfl, _, rfl, _, rfl, _, rfl, _, _, rfl, rfl, d - 1, by omega, p, c, e, v, _, _, rfl, by omega, ⟨m, dk2⟩, (en1.ex dkE ex12).le (by omega), kg, trivial, IsDt.mono (dkE.tups ex12) iv1, fun t5 u5 H5 th5 it5 ex5 dk5 => ⟨(by show 3 ≤ sizeLine; decide), fun qa hqa => ?_⟩⟩
    exact (fin1.at (ex12.trans ex5)).new dk5 hqa ((TH.more (a := .int ii) (w := Str.ofString "times") (by decide +kernel) (by simp) (one_mem th5)).up) (isDt_n (as := [.int ii]) hqa (isDts_1 it5))
  refine ⟨_, rfl, .inl ⟨rfl, _, rfl, ite2 (fun e4 => ?_) (fun e4 => ?_)⟩⟩
  · refine ⟨_, rfl, _, rfl, p, c, e, 1, rfl, rfl, dkE, en1.le (by omega), fun t5 u5 H5 th5 it5 ex5 dk5 => ?_⟩
    refine ⟨_, rfl, _, rfl, _, rfl, _, rfl, _, rfl, _, _, rfl, rfl, d - 1, by omega, p, c, e, v, _, _, rfl, by omega, dk5, (en1.ex dkE ex5).le (by omega), kg, trivial, IsDt.mono (dkE.tups ex5) iv1, fun t7 u7 H7 th7 it7 ex7 dk7 => ⟨(by show 3 ≤ sizeLine; decide), fun qa hqa => ?_⟩⟩
    exact (fin1.at (ex5.trans ex7)).new dk7 hqa ((TH.plain (w := Str.ofString "when") (by decide +kernel) (by decide +kernel) (by simp) (two_mem (th5.mono (by omega)) th7)).up) (isDt_n (as := []) hqa (isDts_2 (IsDt.mono (dk5.tups ex7) it5) it7))
  exact ⟨_, rfl, _, rfl, _, rfl, _, rfl, p, c, e, v, _, _, rfl, rfl, dkE, en1, kg, trivial, iv1, fin1⟩
theorem sc__law_ask : FnScope ["deck", "env", "kind", "deep", "way", "one"] ["deck", "env", "kind", "deep"] (defScope (top 26)) := ⟨rfl, rfl, rfl, by decide +kernel, rfl, by decide +kernel, by decide +kernel⟩
theorem ok_ask {j d s0 s1 : Nat} {okk : Tr → Prop} (hj : 5 ≤ j) (d4 : d ≤ 4) (s5 : 5 ≤ s1) (s2 : 1 ≤ d → s0 + 2 ≤ s1) (T : Tx mg) (D__law_ask : Df K mg "_law_ask" (top 26) f fd ["deck", "env", "kind", "deep"]) (G__law_ask : FnOk P w K mg base CX0 j f fd ["deck", "env", "kind", "deep"] (AskLt d s0))
    (D__law_at_row : Df K mg "_law_at_row" (top 25) f_at_row fd_at_row ["deck", "env", "kind", "deep"]) (G__law_at_row : FnOk P w K mg base CX0 j f_at_row fd_at_row ["deck", "env", "kind", "deep"] (fun vs H Q E => 1 ≤ d ∧ spAsk (fun _ => True) d (s0 + 2) vs H Q E))
    (D__law_bound : Df K mg "_law_bound" (top 23) f_bound fd_bound ["deck", "env", "kind", "deep"]) (G__law_bound : FnOk P w K mg base CX0 j f_bound fd_bound ["deck", "env", "kind", "deep"] (fun vs H Q E => 1 ≤ d ∧ spAsk (fun _ => True) d (s0 + 2) vs H Q E))
    (D__law_bag : Df K mg "_law_bag" (top 24) f_bag fd_bag ["deck", "env", "kind", "deep"]) (G__law_bag : FnOk P w K mg base CX0 j f_bag fd_bag ["deck", "env", "kind", "deep"] (fun vs H Q E => (1 ≤ d ∧ ∃ k, okk k ∧ isBag k) ∧ spAsk isBag d (s0 + 2) vs H Q E))
    (D__law_leaf : Df K mg "_law_leaf" (top 21) f_leaf fd_leaf ["deck", "env", "kind"]) (G__law_leaf : FnOk P w K mg base CX0 5 f_leaf fd_leaf ["deck", "env", "kind"] (spLeaf 3))
    (D__law_take : Df K mg "_law_take" (top 15) f_take fd_take ["deck", "many"]) (G__law_take : FnOk P w K mg base CX0 1 f_take fd_take ["deck", "many"] spTake) :
    FnOk P w K mg base CX0 (j + 1) f fd ["deck", "env", "kind", "deep"] (spAsk okk d s1) := by
  refine D__law_ask.fn.okH sc__law_ask (fun vs H Q E h => ?_) (fun cdv A outer s H vs Q E hr h => ?_)
  · obtain ⟨p, c, e, v, k, i, rfl, _⟩ := h; rfl
  obtain ⟨p, c, e, v, k, i, rfl, rfl, ⟨m, dm⟩, en, kg, okk', iv, fin⟩ := h
  have hu := u110 hr
  have hu0 := u0 hr
  have hu1 := hu_of hr
  refine ⟨_, (wss_cons (ws_asg (we_op op_sub (we_ix (ix_U hu1) (wv 0) we_int (fun _ _ => rfl)) we_int) (wg_sub (wv 0) we_int (set_U hu1)))
      (wss_cons (ws_if (wt_pw (ww_or (wt_cmpR (op_ltU hu0) (wv 3) we_int (nomark _)) (ww_or (wt_cmpR (op_ltU hu0) (we_ix (ix_U hu1) (wv 0) we_int (fun _ _ => rfl)) we_int (nomark _)) (ww_or1 (wt_cmpR (op_eqU hu) (we_call G__law_take (hr.mono (by omega)) rfl D__law_take.mg D__law_take.kp D__law_take.b .nil pass0 (wa_cons (wv 0) (wa_cons we_int wa_nil))) we_int (nomark _)))))) (wss_one (ws_ret (we_call G__law_leaf (hr.mono (by omega)) rfl D__law_leaf.mg D__law_leaf.kp D__law_leaf.b .nil pass0 (wa_cons (wv 0) (wa_cons (wv 1) (wa_cons (wv 2) wa_nil)))))) wss_nil)
      (wss_cons (ws_set (i := 4) sc__law_ask.nd rfl (Or.inl rfl) (we_call G__law_take (hr.mono (by omega)) rfl D__law_take.mg D__law_take.kp D__law_take.b .nil pass0 (wa_cons (wv 0) (wa_cons we_int wa_nil))))
      (wss_cons (ws_if (wt_cmpR (op_eqU hu) (wv 4) we_int (nomark _)) (wss_one (ws_ret (we_call G__law_at_row (hr.mono (by omega)) rfl D__law_at_row.mg D__law_at_row.kp D__law_at_row.b .nil pass0 (wa_cons (wv 0) (wa_cons (wv 1) (wa_cons (wv 2) (wa_cons (wv 3) wa_nil))))))) wss_nil)
      (wss_cons (ws_if (wt_cmpR (op_eqU hu) (we_ix (ix_U hu1) (wv 2) we_int (fun _ _ => rfl)) we_str (nomark _)) (wss_one (ws_ret (we_call G__law_bag (hr.mono (by omega)) rfl D__law_bag.mg D__law_bag.kp D__law_bag.b .nil pass0 (wa_cons (wv 0) (wa_cons (wv 1) (wa_cons (wv 2) (wa_cons (wv 3) wa_nil))))))) wss_nil)
      (wss_cons (ws_if (wt_cmpR op_gt (wv 4) we_int (nomark _)) (wss_one (ws_ret (we_call G__law_bound (hr.mono (by omega)) rfl D__law_bound.mg D__law_bound.kp D__law_bound.b .nil pass0 (wa_cons (wv 0) (wa_cons (wv 1) (wa_cons (wv 2) (wa_cons (wv 3) wa_nil))))))) wss_nil)
      (wss_cons (ws_if (wt_cmpR (op_eqU hu) (we_ix (ix_U hu1) (wv 2) we_int (fun _ _ => rfl)) we_str (nomark _)) (wss_one (ws_ret (we_tup (wa_cons we_str (wa_cons (we_callTy call_tuple_of rfl T.z_tuple bt_tuple (wa_cons (we_lc (Nt := ["field", "own"]) (fr := [("deck", 0), ("env", 1), ("deep", 3)]) (LcOk.of (sc := defScope (top 26)) (N := ["deck", "env", "kind", "deep", "way", "one"]) rfl rfl (by decide +kernel)) rfl (wi_U (we_ix (ix_U hu1) (wv 2) we_int (fun _ _ => rfl))) (fun z => wg_tup rfl (wgs_cons (wg_name (i := 0) (by show (["field", "own", "deck", "env", "deep"] : List Str).Nodup; decide +kernel) rfl (Or.inl rfl) (.inr rfl)) (wgs_cons (wg_name (i := 1) (by show (["field", "own", "deck", "env", "deep"] : List Str).Nodup; decide +kernel) rfl (Or.inl rfl) (.inr rfl)) wgs_nil))) (fun z => tgt_two (by decide) (by decide)) (fun z => wif_nil) (fun z => (we_tup (wa_cons (wv 0) (wa_cons (we_call G__law_ask (hr.mono (by omega)) rfl D__law_ask.mg D__law_ask.kp D__law_ask.b .nil pass0 (wa_cons (wv 2) (wa_cons (wv 3) (wa_cons (wv 1) (wa_cons (we_op op_sub (wv 4) we_int) wa_nil))))) wa_nil))))) wa_nil)) wa_nil))))) wss_nil)
      (wss_cons (ws_if (wt_pw (ww_and (wt_cmpR (op_eqU hu) (we_ix (ix_U hu1) (wv 2) we_int (fun _ _ => rfl)) we_str (nomark _)) (ww_and1 (wt_cmpR (op_ltU hu0) (wv 4) we_int (nomark _))))) (wss_cons (ws_set (i := 5) sc__law_ask.nd rfl (Or.inl rfl) (we_call G__law_ask (hr.mono (by omega)) rfl D__law_ask.mg D__law_ask.kp D__law_ask.b .nil pass0 (wa_cons (wv 0) (wa_cons (wv 1) (wa_cons (wv 2) (wa_cons (we_op op_sub (wv 3) we_int) wa_nil))))))
      (wss_one (ws_ret (we_tup (wa_cons (we_ix (ix_U hu1) (we_lst (wa_consts rfl)) (we_call G__law_take (hr.mono (by omega)) rfl D__law_take.mg D__law_take.kp D__law_take.b .nil pass0 (wa_cons (wv 0) (wa_cons we_int wa_nil))) (fun _ _ => rfl)) (wa_cons (wv 5) (wa_cons (we_call G__law_ask (hr.mono (by omega)) rfl D__law_ask.mg D__law_ask.kp D__law_ask.b .nil pass0 (wa_cons (wv 0) (wa_cons (wv 1) (wa_cons (wv 2) (wa_cons (we_op op_sub (wv 3) we_int) wa_nil))))) wa_nil))))))) wss_nil)
      (wss_one (ws_ret (we_call G__law_at_row (hr.mono (by omega)) rfl D__law_at_row.mg D__law_at_row.kp D__law_at_row.b .nil pass0 (wa_cons (wv 0) (wa_cons (wv 1) (wa_cons (wv 2) (wa_cons (wv 3) wa_nil))))))))))))))), ?_⟩
  have dmk : Dk H p c m := dm
  obtain ⟨n0, cs, hp, hc, r0⟩ := dm
  refine ⟨_, rfl, .inl ⟨p, _, 2, _, rfl, rfl, SqL.of hp, rfl, _, _, rfl, rfl, _, rfl, .inl ⟨p, _, _, 2, rfl, rfl, hp, rfl, ?_⟩⟩⟩
  have hp1 : (upd H p (.lst ([V.ref c, .int n0, .int m].set 2 (.int (m - 1))))) p = some (.lst [.ref c, .int n0, .int (m - 1)]) := upd_same
  have dk1 : Dk (upd H p (.lst ([V.ref c, .int n0, .int m].set 2 (.int (m - 1))))) p c (m - 1) := ⟨n0, cs, hp1, by rw [upd_ne r0.2.2.2]; exact hc, r0⟩
  have ex1 : ExD p c H (upd H p (.lst ([V.ref c, .int n0, .int m].set 2 (.int (m - 1))))) := exd_p
  have en1 := en.ex ⟨m, dmk⟩ ex1
  have fin1 := fin.at ex1
  have iv1 := IsDt.mono (dmk.tups ex1) iv
  generalize upd H p (.lst ([V.ref c, .int n0, .int m].set 2 (.int (m - 1)))) = H1 at *
  refine ⟨_, rfl, .inl ⟨_, _, rfl, rfl, _, rfl, ite2 (fun e1 => iteP rfl ?l1) (fun e1 => ?_)⟩⟩
  case l1 => exact ⟨_, rfl, _, rfl, _, rfl, p, c, e, v, k, rfl, ⟨_, dk1⟩, en1.le (by omega), kg, iv1, fin1.le s5⟩
  refine ⟨_, rfl, .inl ⟨p, _, 2, _, rfl, rfl, SqL.of hp1, rfl, .inl ⟨_, _, rfl, rfl, _, rfl, ite2 (fun e2 => iteP rfl ?l1) (fun e2 => ?_)⟩⟩⟩
  case l1 => exact ⟨_, rfl, _, rfl, _, rfl, p, c, e, v, k, rfl, ⟨_, dk1⟩, en1.le (by omega), kg, iv1, fin1.le s5⟩
  refine ⟨_, rfl, p, c, m - 1, _, rfl, dk1, by decide, by decide, fun x H2 x0 x1 ex2 dk2 => .inl ⟨rfl, _, rfl, ?_⟩⟩
  have en2 := en1.ex ⟨_, dk1⟩ ex2
  have fin2 := fin1.at ex2
  have iv2 := IsDt.mono (dk1.tups ex2) iv1
  refine ite2 (fun e3 => ?_) (fun e3 => ?_)
  · exact ⟨_, rfl, _, rfl, _, rfl, p, c, e, v, k, rfl, ⟨_, dk2⟩, en2.le (by omega), kg, iv2, fin2.le s5⟩
  have hd1 : 1 ≤ d := by
    have : ¬ ((d : Int) < 1) := fun z => e1 (decide_eq_true z)
    omega
  refine ⟨_, rfl, p, c, m - 1, _, rfl, dk2, by decide, by decide, fun x3 H3 y0 y1 ex3 dk3 => ?_⟩
  have en3 := en2.ex ⟨_, dk2⟩ ex3
  have fin3 := (fin2.at ex3).le (s2 hd1)
  have iv3 := IsDt.mono (dk2.tups ex3) iv2
  have dkE : DkE H3 p c := ⟨_, dk3⟩
  clear ex1 ex2 ex3 dk1 dk2 en en1 en2 iv iv1 iv2 fin fin1 fin2 dmk hp hc hp1
  refine ⟨_, rfl, .inl ⟨rfl, _, rfl, ite2 (fun e4 => ?_) (fun e4 => ?_)⟩⟩
  · exact ⟨_, rfl, _, rfl, _, rfl, _, rfl, hd1, p, c, e, v, k, _, rfl, rfl, dkE, en3, kg, trivial, iv3, fin3⟩
  obtain ⟨a, wd, xs, rfl, ha, cases4⟩ := kg_word kg iv3
  have w0 : atI (V.str wd :: xs) 0 = some (.str wd) := (show atI (V.str wd :: xs) ((0 : Nat) : Int) = _ from atI_nat rfl)
  refine ⟨_, rfl, .inr (.inl ⟨a, _, 0, .str wd, rfl, rfl, SqT.of ha, w0, .inl ⟨rfl, _, rfl, ite2 (fun e5 => ?_) (fun e5 => ?_)⟩⟩)⟩
  · have hb : isBag k := by
      rcases cases4 with ⟨rfl, ek⟩ | ⟨rfl, ek⟩ | ⟨rfl, q, u, ek, _⟩ | ⟨rfl, ps, b, zs, ek, _⟩
      · exact absurd (vs_eq e5) (by decide +kernel)
      · exact absurd (vs_eq e5) (by decide +kernel)
      · exact ⟨q, ek⟩
      · exact absurd (vs_eq e5) (by decide +kernel)
    exact ⟨_, rfl, _, rfl, _, rfl, _, rfl, ⟨hd1, k, okk', hb⟩, p, c, e, _, k, _, rfl, rfl, dkE, en3, kg, hb, iv3, fin3⟩
  refine ⟨_, rfl, _, _, rfl, rfl, _, rfl, ite2 (fun e6 => ?_) (fun e6 => ?_)⟩
  · exact ⟨_, rfl, _, rfl, _, rfl, _, rfl, hd1, p, c, e, _, k, _, rfl, rfl, dkE, en3, kg, trivial, iv3, fin3⟩
  refine ⟨_, rfl, .inr (.inl ⟨a, _, 0, .str wd, rfl, rfl, SqT.of ha, w0, .inl ⟨rfl, _, rfl, ite2 (fun e7 => ?_) (fun e7 => ?_)⟩⟩)⟩
  · rcases cases4 with ⟨rfl, ek⟩ | ⟨rfl, ek⟩ | ⟨rfl, q, u, ek, _⟩ | ⟨rfl, ps, b, zs, ek, lp, ln, ⟨n', en', kq⟩, rfl, hb, hzs⟩
    · exact absurd (vs_eq e7) (by decide +kernel)
    · exact absurd (vs_eq e7) (by decide +kernel)
    · exact absurd (vs_eq e7) (by decide +kernel)
    refine .inr ⟨_, rfl, .inr (.inl ⟨a, _, 1, .ref b, rfl, rfl, SqT.of ha, rfl, b, rfl, ⟨zs, SqT.of hb⟩, ?_⟩)⟩
    have lzs : zs.length = ps.length := by rw [hzs.length, tdatR_map, List.length_map]
    refine ⟨fun i2 m2 qs H4 => ExD p c H3 H4 ∧ DkE H4 p c ∧ m2 + i2 = ps.length ∧ ∃ rs : List (Str × Tr), rs.length ≤ i2 ∧ IsDts H4 (tdatR rs) qs ∧ ∀ r ∈ rs, TH s0 r.2, ⟨ps.length, .refl _ _ _, dkE, rfl, [], by simp, by rw [tdatR]; exact .nil, nil_mem⟩, ?_⟩
    rintro i2 m2 qs H4 ⟨ex4, dk4, hm2, rs, lrs, irs, hrs⟩
    have lqs : qs.length = rs.length := by rw [irs.length, tdatR_map, List.length_map]
    refine ⟨line1 (by omega), ?_⟩
    have t34 := dkE.tups ex4
    have hb4 := t34 _ _ hb
    by_cases hi2 : i2 < ps.length
    · have hyi : zs[i2]? = some zs[i2] := List.getElem?_eq_getElem (by omega)
      refine .inr ⟨⟨_, _, SqT.of hb4, hyi⟩, fun zz x H5 hy2 => ?_⟩
      obtain ⟨rfl, hx5⟩ := hy2
      obtain rfl : zs[i2] = x := by have := hx5 _ (SqT.of hb4); rw [hyi] at this; injection this
      obtain ⟨pp, cc, u, hpp, ey, hc, hu'⟩ := tr_item hzs hyi
      rw [ey]
      refine ⟨cc, _, rfl, SqT.of (t34 _ _ hc), rfl, _, _, rfl, _, _, rfl, rfl, ?_⟩
      refine tall ?_
      refine ⟨_, rfl, _, rfl, _, rfl, _, rfl, _, rfl, _, _, rfl, rfl, d - 1, by omega, p, c, e, u, pp.2, _, rfl, by omega, dk4, (en3.ex dkE ex4).le (by omega), (kq pp (List.mem_of_getElem? hpp)).mono (by omega), trivial, IsDt.mono t34 hu', fun t u2 H6 th it ex6 dk6 => ⟨(by show 2 ≤ sizeLine; decide), fun q hq => ?_⟩⟩
      refine ⟨m2 - 1, by omega, ex4.trans (ex6.trans (exd_new hq)), dk6.new hq, by omega, rs ++ [(pp.1, t)], by simp; omega, ?_, fun r hr' => ?_⟩
      · rw [tdatR_map, List.map_append, ← tdatR_map]
        exact (IsDts.mono ((dk4.tups ex6).trans (same_new hq _).tups) irs).append (.one (isDt_new hq (.cons (isDt_s pp.1) (.one it))))
      · rcases List.mem_append.mp hr' with h | h
        · exact hrs r h
        · rw [List.mem_singleton.mp h]; exact th
    · refine .inl ⟨⟨_, SqT.of hb4, by omega⟩, fun l2 hl2 => ⟨l2, _, rfl, .inl ⟨SqL.of upd_same, fun t1 ht1 => ⟨(by show 2 ≤ sizeLine; decide), fun q hq => ?_⟩⟩⟩⟩
      have s5 := (same_new hl2 (.lst qs)).trans (same_new ht1 (.tup qs))
      exact (fin3.at (ex4.trans (Same.exd s5))).new ((dk4.new hl2).new ht1) hq ((TH.row (by omega) hrs).up) (isDt_r upd_same (IsDts.mono s5.tups irs) hq)
  refine ⟨_, rfl, .inr (.inl ⟨a, _, 0, .str wd, rfl, rfl, SqT.of ha, w0, .inl ⟨rfl, _, rfl, ite2 (fun e8 => ⟨_, rfl, .inl ⟨_, _, rfl, rfl, _, rfl, ite2 (fun e9 => ?go) (fun e9 => ?at1)⟩⟩) (fun e8 => iteN (by decide) ?at2)⟩⟩)⟩
  case at1 => exact ⟨_, rfl, _, rfl, _, rfl, _, rfl, hd1, p, c, e, _, k, _, rfl, rfl, dkE, en3, kg, trivial, iv3, fin3⟩
  case at2 => exact ⟨_, rfl, _, rfl, _, rfl, _, rfl, hd1, p, c, e, _, k, _, rfl, rfl, dkE, en3, kg, trivial, iv3, fin3⟩
  case go =>
  refine ⟨_, rfl, _, rfl, _, rfl, _, rfl, _, _, rfl, rfl, d - 1, by omega, p, c, e, _, k, _, rfl, by omega, dkE, en3.le (by omega), kg, trivial, iv3, fun t5 u5 H5 th5 it5 ex5 dk5 => ⟨(by show 2 ≤ sizeLine; decide), fun l6 hl6 => ?_⟩⟩
  obtain ⟨m5, dm5⟩ := dk5
  have nl6 := dm5.ne hl6
  refine ⟨_, rfl, p, c, m5, _, rfl, dm5.new hl6, by decide, by decide, fun y H6 z0 z1 ex6 dk6 => ?_⟩
  obtain ⟨wv, hwv, hwm⟩ := atI_mem (xs := [V.str "add", .str "mul"]) z0 z1
  obtain ⟨word, rfl, hw1, hw2⟩ : ∃ word : Str, wv = .str word ∧ word ∉ HM ∧ word ≠ Str.ofString "row" := by
    simp only [List.mem_cons, List.not_mem_nil, or_false] at hwm
    rcases hwm with rfl | rfl <;> exact ⟨_, rfl, by decide +kernel, by decide +kernel⟩
  have ex56 := (exd_new (p := p) (c := c) (o := .lst [.str "add", .str "mul"]) hl6).trans ex6
  have ex36 := ex5.trans ex56
  have t56 : Tups H5 H6 := dm5.tups ex56
  refine .inl ⟨l6, _, y, _, rfl, rfl, SqL.of (ex6 l6 _ nl6.1 nl6.2 upd_same), hwv, _, rfl, _, rfl, _, rfl, _, rfl, _, rfl, _, _, rfl, rfl, d - 1, by omega, p, c, e, _, k, _, rfl, by omega, ⟨m5, dk6⟩, (en3.ex dkE ex36).le (by omega), kg, trivial, IsDt.mono (dkE.tups ex36) iv3, fun t7 u7 H7 th7 it7 ex7 dk7 => ⟨(by show 3 ≤ sizeLine; decide), fun q hq => ?_⟩⟩
  exact (fin3.at (ex36.trans ex7)).new dk7 hq ((TH.plain hw1 hw2 (by simp) (two_mem th5 th7)).up) (isDt_n (as := []) hq (isDts_2 (IsDt.mono (dk6.tups ex7) (IsDt.mono t56 it5)) it7))
end
end K46
end
section
set_option Elab.async false
set_option linter.all false
set_option maxRecDepth 100000
set_option maxHeartbeats 4000000
namespace K46
open PySem L2 Kn
theorem fnOk_no {P : Program} {w : World} {K : PySem.W.Frag} {mg : Str → Option Value} {base : Heap} {k : Nat} {f : Addr} {fd : FuncData} {ps : List Str} {sp : Sp} (h : ∀ vs H Q E, ¬ sp vs H Q E) : FnOk P w K mg base CX0 k f fd ps sp :=
  ⟨fun vs H Q E z => absurd z (h vs H Q E), fun A outer s H args us vs Q E _ _ _ _ z => absurd z (h vs H Q E)⟩
theorem spAsk_le {ok : Tr → Prop} {d s s' : Nat} (l : s ≤ s') {vs : List V} {H : Hp} {Q : VK} {E : XK} (h : spAsk ok d s' vs H Q E) : spAsk ok d s vs H Q E := by
  obtain ⟨p, c, e, v, k, i, h1, h2, h3, h4, h5, h6, h7, h8⟩ := h
  exact ⟨p, c, e, v, k, i, h1, h2, h3, h4, h5, h6, h7, h8.le l⟩
def L5 : List Str := [Str.ofString "num", Str.ofString "word", Str.ofString "var", Str.ofString "table", Str.ofString "none"]
def L4 : List Str := [Str.ofString "for", Str.ofString "let", Str.ofString "at", Str.ofString "times"]
def tab4 : List (Key × V) := [(Sum.inr (Str.ofString "for"), .int 2), (Sum.inr (Str.ofString "let"), .int 2), (Sum.inr (Str.ofString "at"), .int 2), (Sum.inr (Str.ofString "times"), .int 2)]
theorem val4 (wd : Str) : (valV tab4 (Sum.inr wd) = some (.int 2) ∧ wd ∈ L4) ∨ (valV tab4 (Sum.inr wd) = none ∧ wd ∉ L4) := by
  unfold tab4 L4
  by_cases h1 : Str.ofString "for" = wd
  · exact .inl ⟨valV_pos (by rw [h1]), by rw [h1]; simp⟩
  rw [valV_neg (by intro z; injection z with z; exact h1 z)]
  by_cases h2 : Str.ofString "let" = wd
  · exact .inl ⟨valV_pos (by rw [h2]), by rw [h2]; simp⟩
  rw [valV_neg (by intro z; injection z with z; exact h2 z)]
  by_cases h3 : Str.ofString "at" = wd
  · exact .inl ⟨valV_pos (by rw [h3]), by rw [h3]; simp⟩
  rw [valV_neg (by intro z; injection z with z; exact h3 z)]
  by_cases h4 : Str.ofString "times" = wd
  · exact .inl ⟨valV_pos (by rw [h4]), by rw [h4]; simp⟩
  rw [valV_neg (by intro z; injection z with z; exact h4 z)]
  refine .inr ⟨valV_nil, fun z => ?_⟩
  simp only [List.mem_cons, List.not_mem_nil, or_false] at z
  rcases z with z | z | z | z
  · exact h1 z.symm
  · exact h2 z.symm
  · exact h3 z.symm
  · exact h4 z.symm
theorem isDts_ss {H : Hp} : ∀ (ss : List Str) (xs : List V), IsDts H (ss.map Dt.str) xs → xs = ss.map V.str
  | [], xs, h => by rw [List.map_nil, IsDts] at h; exact h
  | s :: ss, xs, h => by
    rw [List.map_cons, IsDts] at h
    obtain ⟨y, r, rfl, h1, h2⟩ := h
    rw [IsDt] at h1
    rw [h1, isDts_ss ss r h2]; rfl
theorem isDt_ss {H : Hp} {ss : List Str} {v : V} (h : IsDt H (.tup (ss.map Dt.str)) v) : ∃ a, v = .ref a ∧ H a = some (.tup (ss.map V.str)) := by
  rw [IsDt] at h
  obtain ⟨a, xs, rfl, h1, h2⟩ := h
  exact ⟨a, rfl, by rw [h1, isDts_ss ss xs h2]⟩
section
variable {P : Program} {w : World} {K : PySem.W.Frag} {mg : Str → Option Value} {base : Heap} {f f_take f_ask f_claim f_bound f_leaf f_at_row f_bag f_name f_kind f_with f_parts f_knots : Addr} {fd fd_take fd_ask fd_claim fd_bound fd_leaf fd_at_row fd_bag fd_name fd_kind fd_with fd_parts fd_knots : FuncData}
theorem ask_all (T : Tx mg) (D__law_ask : Df K mg "_law_ask" (top 26) f_ask fd_ask ["deck", "env", "kind", "deep"])
    (D__law_at_row : Df K mg "_law_at_row" (top 25) f_at_row fd_at_row ["deck", "env", "kind", "deep"])
    (D__law_bound : Df K mg "_law_bound" (top 23) f_bound fd_bound ["deck", "env", "kind", "deep"])
    (D__law_bag : Df K mg "_law_bag" (top 24) f_bag fd_bag ["deck", "env", "kind", "deep"])
    (D__law_claim : Df K mg "_law_claim" (top 22) f_claim fd_claim ["deck", "env", "deep"])
    (D__law_leaf : Df K mg "_law_leaf" (top 21) f_leaf fd_leaf ["deck", "env", "kind"]) (G__law_leaf : FnOk P w K mg base CX0 5 f_leaf fd_leaf ["deck", "env", "kind"] (spLeaf 3))
    (D__law_take : Df K mg "_law_take" (top 15) f_take fd_take ["deck", "many"]) (G__law_take : FnOk P w K mg base CX0 1 f_take fd_take ["deck", "many"] spTake)
    (D__law_name : Df K mg "_law_name" (top 19) f_name fd_name ["deck"]) (G__law_name : FnOk P w K mg base CX0 2 f_name fd_name ["deck"] spName)
    (D__law_kind : Df K mg "_law_kind" (top 20) f_kind fd_kind ["deck"]) (G__law_kind : FnOk P w K mg base CX0 2 f_kind fd_kind ["deck"] spKind)
    (D__law_with : Df K mg "_law_with" (top 18) f_with fd_with ["env", "name", "kind"]) (G__law_with : FnOk P w K mg base CX0 1 f_with fd_with ["env", "name", "kind"] spWith) :
    ∀ d : Nat, d ≤ 4 → FnOk P w K mg base CX0 (9 + 3 * d) f_ask fd_ask ["deck", "env", "kind", "deep"] (spAsk (fun _ => True) d (10 + 2 * d)) := by
  have a0 : FnOk P w K mg base CX0 6 f_ask fd_ask ["deck", "env", "kind", "deep"] (spAsk (fun _ => True) 0 5) :=
    ok_ask (j := 5) (d := 0) (s0 := 0) (Nat.le_refl _) (by decide) (Nat.le_refl _) (by omega) T D__law_ask (fnOk_no fun _ _ _ _ ⟨_, h, _⟩ => by omega) D__law_at_row (fnOk_no fun _ _ _ _ ⟨h, _⟩ => by omega) D__law_bound (fnOk_no fun _ _ _ _ ⟨h, _⟩ => by omega) D__law_bag (fnOk_no fun _ _ _ _ ⟨⟨h, _⟩, _⟩ => by omega) D__law_leaf G__law_leaf D__law_take G__law_take
  have lt1 : FnOk P w K mg base CX0 6 f_ask fd_ask ["deck", "env", "kind", "deep"] (AskLt 1 5) := a0.imp fun vs H Q E ⟨dd, hd, h⟩ => by
    obtain rfl : dd = 0 := by omega
    exact h
  have r1 := ok_at_row (j := 6) (d := 1) (by decide) (by decide) (by decide) T D__law_at_row D__law_ask lt1 D__law_take G__law_take
  have b1 := ok_bound (j := 6) (d := 1) (by decide) (by decide) (by decide) T D__law_bound D__law_ask lt1 D__law_take G__law_take D__law_name G__law_name D__law_kind G__law_kind D__law_with G__law_with
  have af : FnOk P w K mg base CX0 8 f_ask fd_ask ["deck", "env", "kind", "deep"] (spAsk flatK 1 7) :=
    ok_ask (j := 7) (d := 1) (s0 := 5) (by decide) (by decide) (by decide) (by omega) T D__law_ask (lt1.mono (by decide)) D__law_at_row (r1.imp fun _ _ _ _ h => h.2) D__law_bound (b1.imp fun _ _ _ _ h => h.2) D__law_bag (fnOk_no fun _ _ _ _ ⟨⟨_, k, h1, q, h2⟩, _⟩ => by
      rcases h1 with h1 | h1
      · rw [h1] at h2; unfold kNum at h2; injection h2 with _ _ h; cases h
      · rw [h1] at h2; unfold kWord at h2; injection h2 with _ _ h; cases h) D__law_leaf G__law_leaf D__law_take G__law_take
  have c0 := ok_claim (j := 8) (d := 0) (by decide) (by decide) T D__law_claim (fnOk_no fun _ _ _ _ ⟨_, h, _⟩ => by omega) D__law_ask af D__law_take G__law_take
  have c1 : FnOk P w K mg base CX0 10 f_claim fd_claim ["deck", "env", "deep"] (spClaim 1) := ok_claim (j := 9) (d := 1) (by decide) (by decide) T D__law_claim (fnOk_lt fun e he => by
    obtain rfl : e = 0 := by omega
    exact c0) D__law_ask (af.mono (by decide)) D__law_take G__law_take
  intro d
  induction d using Nat.strongRecOn with
  | _ d ih =>
    intro d4
    by_cases h0 : d = 0
    · subst h0
      exact (a0.mono (by decide)).imp fun vs H Q E h => spAsk_le (by decide) h
    · have lt : FnOk P w K mg base CX0 (6 + 3 * d) f_ask fd_ask ["deck", "env", "kind", "deep"] (AskLt d (8 + 2 * d)) := fnOk_lt fun dd hdd => ((ih dd hdd (by omega)).mono (by omega)).imp fun vs H Q E h => spAsk_le (by omega) h
      have r := ok_at_row (j := 6 + 3 * d) (d := d) (by omega) (by omega) d4 T D__law_at_row D__law_ask lt D__law_take G__law_take
      have b := ok_bound (j := 6 + 3 * d) (d := d) (by omega) (by omega) d4 T D__law_bound D__law_ask lt D__law_take G__law_take D__law_name G__law_name D__law_kind G__law_kind D__law_with G__law_with
      have g := ok_bag (j := 7 + 3 * d) (d := d) (s0 := 8 + 2 * d) (by omega) (by omega) d4 (by omega) T D__law_bag D__law_ask (lt.mono (by omega)) D__law_claim (c1.mono (by omega)) D__law_bound (b.mono (by omega)) D__law_take G__law_take
      exact (ok_ask (j := 8 + 3 * d) (d := d) (s0 := 8 + 2 * d) (okk := fun _ => True) (by omega) d4 (by omega) (by omega) T D__law_ask (lt.mono (by omega)) D__law_at_row ((r.mono (by omega)).imp fun _ _ _ _ h => h.2) D__law_bound ((b.mono (by omega)).imp fun _ _ _ _ h => h.2) D__law_bag ((g.mono (by omega)).imp fun _ _ _ _ h => h.2) D__law_leaf G__law_leaf D__law_take G__law_take).mono (by omega)
theorem sc__law_parts : FnScope ["question", "word"] ["question"] (defScope (top 27)) := ⟨rfl, rfl, rfl, by decide +kernel, rfl, by decide +kernel, by decide +kernel⟩
def spParts : Sp := fun vs H Q _ => ∃ (v : V) (t : Tr) (d : Nat), vs = [v] ∧ IsDt H (tdat t) v ∧ TH d t ∧
  ∀ (l : Addr) (us : List V) (H' : Hp), Same H H' → H l = none → H' l = some (.lst us) → IsDts H' ((kids t).map tdat) us → Q (.ref l) H'
theorem ok_parts (T : Tx mg) (D : Df K mg "_law_parts" (top 27) f fd ["question"]) : FnOk P w K mg base CX0 1 f fd ["question"] spParts := by
  refine D.fn.okH sc__law_parts (fun vs H Q E h => ?_) (fun cdv A outer s H vs Q E hr h => ?_)
  · obtain ⟨v, t, d, rfl, _⟩ := h; rfl
  obtain ⟨v, t, d, rfl, hx, th, fin⟩ := h
  have hu := u110 hr
  have hu0 := u0 hr
  have hu1 := hu_of hr
  refine ⟨_, (wss_cons (ws_set (i := 1) sc__law_parts.nd rfl (Or.inl rfl) (we_ix (ix_U hu1) (wv 0) we_int (fun _ _ => rfl)))
      (wss_cons (ws_if (wt_cmpR (op_eqU hu) (wv 1) we_str (nomark _)) (wss_one (ws_ret (we_lc (Nt := ["field", "own"]) (fr := []) (LcOk.of (sc := defScope (top 27)) (N := ["question", "word"]) rfl rfl (by decide +kernel)) rfl (wi_U (we_ix (ix_U hu1) (wv 0) we_int (fun _ _ => rfl))) (fun z => wg_tup rfl (wgs_cons (wg_name (i := 0) (by show (["field", "own"] : List Str).Nodup; decide +kernel) rfl (Or.inl rfl) (.inr rfl)) (wgs_cons (wg_name (i := 1) (by show (["field", "own"] : List Str).Nodup; decide +kernel) rfl (Or.inl rfl) (.inr rfl)) wgs_nil))) (fun z => tgt_two (by decide) (by decide)) (fun z => wif_nil) (fun z => (wv 1))))) wss_nil)
      (wss_cons (ws_if (wt_cmpR (op_inU hu) (wv 1) (we_dt rfl) (by with_unfolding_all rfl)) (wss_one (ws_ret (we_lst wa_nil))) wss_nil)
      (wss_one (ws_ret (we_callTy call_list_of rfl T.z_list bt_list (wa_cons (we_slice sl_U (wv 0) (wo_some (we_dget2 hu1 (we_disp (wps_cons we_str we_int (wps_cons we_str we_int (wps_cons we_str we_int (wps_cons we_str we_int wps_nil)))) rfl rfl (by simp) (by decide)) (wv 1) we_int)) wo_none) wa_nil))))))), ?_⟩
  cases t with
  | row ps =>
    have hl6 : ps.length ≤ 14 := by cases th with | row hl h => exact hl
    obtain ⟨a, b, ys, rfl, ha, hb, hys⟩ := tr_row hx
    have ly : ys.length = ps.length := by rw [hys.length, tdatR_map, List.length_map]
    refine ⟨_, rfl, .inr (.inl ⟨a, _, 0, .str "row", rfl, rfl, SqT.of ha, rfl, _, rfl, .inl ⟨rfl, _, rfl, iteP veq ?_⟩⟩)⟩
    refine .inr ⟨_, rfl, .inr (.inl ⟨a, _, 1, .ref b, rfl, rfl, SqT.of ha, rfl, b, rfl, ⟨ys, SqT.of hb⟩, ?_⟩)⟩
    refine ⟨fun i2 m2 zs H2 => H2 = H ∧ m2 + i2 = ps.length ∧ IsDts H (((ps.map (·.2)).take i2).map tdat) zs, ⟨ps.length, rfl, rfl, by rw [List.take_zero]; exact .nil⟩, ?_⟩
    rintro i2 m2 zs H2 ⟨rfl, hm2, iz⟩
    have lz := iz.length
    rw [List.length_map, List.length_take, List.length_map] at lz
    refine ⟨line1 (by omega), ?_⟩
    by_cases hi2 : i2 < ps.length
    · have hyi : ys[i2]? = some ys[i2] := List.getElem?_eq_getElem (by omega)
      refine .inr ⟨⟨_, _, SqT.of hb, hyi⟩, fun z x H5 hy2 => ?_⟩
      obtain ⟨rfl, hx5⟩ := hy2
      obtain rfl : ys[i2] = x := by have := hx5 _ (SqT.of hb); rw [hyi] at this; injection this
      obtain ⟨p, c, u, hp, ey, hc, hu'⟩ := tr_item hys hyi
      rw [ey]
      refine ⟨c, _, rfl, SqT.of hc, rfl, _, _, rfl, _, _, rfl, rfl, ?_⟩
      refine tall ?_
      refine ⟨_, rfl, m2 - 1, by omega, rfl, by omega, ?_⟩
      rw [List.take_add_one, List.getElem?_map, hp, List.map_append]
      exact iz.append (.one hu')
    · refine .inl ⟨⟨_, SqT.of hb, by omega⟩, fun l2 hl2 => ?_⟩
      rw [List.take_of_length_le (by rw [List.length_map]; omega)] at iz
      exact fin l2 zs _ (same_new hl2 _) hl2 upd_same (IsDts.mono (same_new hl2 _).tups iz)
  | node wd as ps =>
    obtain ⟨a, zs, rfl, ha, hzs⟩ := tr_node hx
    have hw : wd ≠ Str.ofString "row" := by
      cases th with
      | atom hw => rintro rfl; revert hw; decide +kernel
      | none => decide +kernel
      | more hw hl h => rintro rfl; revert hw; decide +kernel
      | plain hw hr hl h => exact hr
    refine ⟨_, rfl, .inr (.inl ⟨a, _, 0, .str wd, rfl, rfl, SqT.of ha, (show atI (V.str wd :: (as.map atV ++ zs)) ((0 : Nat) : Int) = _ from atI_nat rfl), _, rfl, .inl ⟨rfl, _, rfl, iteN (vne hw) ?_⟩⟩)⟩
    refine ⟨_, rfl, ?_⟩
    intro v5 H5 s5 i5
    obtain ⟨a5, rfl, h5⟩ := isDt_ss (ss := L5) i5
    refine .inl ⟨a5, _, rfl, .inr (SqT.of h5), rfl, flat_strs L5, _, rfl, ?_⟩
    refine ite2 (fun e => ?_) (fun e => ?_)
    · have hm : wd ∈ L5 := (inV_str wd L5).mp e
      refine ⟨(by show 0 ≤ sizeLine; decide), fun l hl => fin l [] _ (s5.trans (same_new hl _)) (same_back s5 hl) upd_same ?_⟩
      have hk : kids (.node wd as ps) = [] := by
        cases th with
        | atom hw => rw [kids_node]; split <;> rfl
        | none => rw [kids_node, if_pos rfl]
        | more hw hl h => exfalso; revert hm; simp only [List.mem_cons, List.not_mem_nil, or_false] at hw; rcases hw with rfl | rfl | rfl | rfl <;> decide +kernel
        | plain hw hr hl h =>
          exfalso; apply hw
          unfold L5 at hm
          simp only [List.mem_cons, List.not_mem_nil, or_false] at hm
          rcases hm with rfl | rfl | rfl | rfl | rfl <;> decide +kernel
      rw [hk]; exact .nil
    · have hm : wd ∉ L5 := fun z => e ((inV_str wd L5).mpr z)
      refine ⟨_, rfl, fun pd hpd => ⟨upd_same, tab4, rfl, by decide, pd, rfl, ?_⟩⟩
      have hd : (upd (upd H5 pd (.dK [])) pd (.dK (mergeK [] tab4))) pd = some (.dK tab4) := upd_same
      have s6 : Same H (upd (upd H5 pd (.dK [])) pd (.dK (mergeK [] tab4))) := same_at (s5.trans (same_new hpd _)) (same_back s5 hpd)
      refine ⟨.inl ⟨_, .inl hd⟩, _, rfl, _, DGet.k (k := Sum.inr wd) hd, ?_⟩
      have ha6 := s6 _ _ ha
      have hzs6 := IsDts.mono s6.tups hzs
      generalize upd (upd H5 pd (.dK [])) pd (.dK (mergeK [] tab4)) = H6 at *
      have n0 : ¬ wd = Str.ofString "none" := by rintro rfl; exact hm (by decide +kernel)
      have key : ∀ k : Nat, IsDts H6 (ps.map tdat) ((V.str wd :: (as.map atV ++ zs)).drop k) → ∀ q, H6 q = none → ∀ l, (upd H6 q (.tup (cutV (V.str wd :: (as.map atV ++ zs)) (some (k : Int)) none))) l = none → Q (.ref l) (upd (upd H6 q (.tup (cutV (V.str wd :: (as.map atV ++ zs)) (some (k : Int)) none))) l (.lst (cutV (V.str wd :: (as.map atV ++ zs)) (some (k : Int)) none))) := fun k hk q hq l hl => by
        rw [cutN] at hl ⊢
        have sz := (same_new hq (.tup ((V.str wd :: (as.map atV ++ zs)).drop k))).trans (same_new hl (.lst ((V.str wd :: (as.map atV ++ zs)).drop k)))
        refine fin l _ _ (s6.trans sz) (same_back (s6.trans (same_new hq _)) hl) upd_same ?_
        rw [kids_node, if_neg n0]
        exact IsDts.mono sz.tups hk
      rcases val4 wd with ⟨ev, h4⟩ | ⟨ev, h4⟩
      · rw [ev]
        refine ⟨_, rfl, .inr (.inl ⟨a, _, rfl, SqT.of ha6, ncutN (k := 2) (by decide) (by simp), fun q hq => ⟨q, _, rfl, .inr (SqT.of upd_same), fun l hl => key 2 ?_ q hq l hl⟩⟩)⟩
        cases th with
        | atom hw => exfalso; revert h4; simp only [List.mem_cons, List.not_mem_nil, or_false] at hw; rcases hw with rfl | rfl | rfl | rfl <;> decide +kernel
        | none => exact absurd rfl n0
        | more hw2 hl h => exact hzs6
        | plain hw hr hl h =>
          exfalso; apply hw
          unfold L4 at h4
          simp only [List.mem_cons, List.not_mem_nil, or_false] at h4
          rcases h4 with rfl | rfl | rfl | rfl <;> decide +kernel
      · rw [ev]
        refine ⟨_, rfl, .inr (.inl ⟨a, _, rfl, SqT.of ha6, ncutN (k := 1) (by decide) (by simp), fun q hq => ⟨q, _, rfl, .inr (SqT.of upd_same), fun l hl => key 1 ?_ q hq l hl⟩⟩)⟩
        cases th with
        | atom hw => exfalso; apply hm; simp only [List.mem_cons, List.not_mem_nil, or_false] at hw; rcases hw with rfl | rfl | rfl | rfl <;> decide +kernel
        | none => exact absurd rfl n0
        | more hw2 hl h => exfalso; apply h4; simp only [List.mem_cons, List.not_mem_nil, or_false] at hw2; rcases hw2 with rfl | rfl | rfl | rfl <;> decide +kernel
        | plain hw hr hl h => exact hzs6
end
end K46
end
section
set_option Elab.async false
set_option linter.all false
set_option maxRecDepth 100000
set_option maxHeartbeats 4000000
namespace K46
open PySem L2 Kn
section
variable {P : Program} {w : World} {K : PySem.W.Frag} {mg : Str → Option Value} {base : Heap} {f f_ask f_leaf f_parts f_knots f_at : Addr} {fd fd_ask fd_leaf fd_parts fd_knots fd_at : FuncData}
theorem sc__law_knots : FnScope ["question"] ["question"] (defScope (top 30)) := ⟨rfl, rfl, rfl, by decide +kernel, rfl, by decide +kernel, by decide +kernel⟩
def spKnots (d : Nat) : Sp := fun vs H Q _ => ∃ (v : V) (t : Tr), vs = [v] ∧ IsDt H (tdat t) v ∧ TH d t ∧ ∀ (n : Int) (H' : Hp), Same H H' → Q (.int n) H'
theorem ok_knots {j d : Nat} (hj : 1 ≤ j) (T : Tx mg) (D__law_knots : Df K mg "_law_knots" (top 30) f fd ["question"]) (G__law_knots : FnOk P w K mg base CX0 j f fd ["question"] (fun vs H Q E => ∃ e, e < d ∧ spKnots e vs H Q E))
    (D__law_parts : Df K mg "_law_parts" (top 27) f_parts fd_parts ["question"]) (G__law_parts : FnOk P w K mg base CX0 1 f_parts fd_parts ["question"] spParts) : FnOk P w K mg base CX0 (j + 1) f fd ["question"] (spKnots d) := by
  refine D__law_knots.fn.okH sc__law_knots (fun vs H Q E h => ?_) (fun cdv A outer s H vs Q E hr h => ?_)
  · obtain ⟨v, t, rfl, _⟩ := h; rfl
  obtain ⟨v, t, rfl, iv, th, fin⟩ := h
  have hu := u110 hr
  have hu0 := u0 hr
  have hu1 := hu_of hr
  refine ⟨_, (wss_one (ws_ret (we_op op_plus we_int (we_callB (call_sumL rfl) rfl T.z_sum bt_sum (wa_cons (we_lc (Nt := ["part"]) (fr := []) (LcOk.of (sc := defScope (top 30)) (N := ["question"]) rfl rfl (by decide +kernel)) rfl (wi_U (we_call G__law_parts (hr.mono (by omega)) rfl D__law_parts.mg D__law_parts.kp D__law_parts.b .nil pass0 (wa_cons (wv 0) wa_nil))) (fun z => wg_name (i := 0) (by show (["part"] : List Str).Nodup; decide +kernel) rfl (Or.inl rfl) (.inr rfl)) (fun z => tgt_name (by decide)) (fun z => wif_nil) (fun z => (we_call G__law_knots (hr.mono (by omega)) rfl D__law_knots.mg D__law_knots.kp D__law_knots.b .nil pass0 (wa_cons (wv 0) wa_nil)))) wa_nil))))), ?_⟩
  refine .inl ⟨_, rfl, v, t, d, rfl, iv, th, fun l us H1 s1 hl hus ius => ⟨l, rfl, ⟨us, SqL.of hus⟩, ?_⟩⟩
  have l14 := th.len
  have lus : us.length = (kids t).length := by rw [ius.length, List.length_map]
  refine ⟨fun i2 m2 zs H2 => Same H1 H2 ∧ m2 + i2 = us.length ∧ zs.length ≤ i2 ∧ ∃ ns : List Int, zs = ns.map V.int, ⟨us.length, .refl _, rfl, by simp, [], rfl⟩, ?_⟩
  rintro i2 m2 zs H2 ⟨s2, hm2, lz, ns, rfl⟩
  refine ⟨line1 (by omega), ?_⟩
  have hus2 := s2 _ _ hus
  by_cases hi2 : i2 < us.length
  · have hyi : us[i2]? = some us[i2] := List.getElem?_eq_getElem (by omega)
    refine .inr ⟨⟨_, _, SqL.of hus2, hyi⟩, fun z x H5 hy2 => ?_⟩
    obtain ⟨rfl, hx5⟩ := hy2
    obtain rfl : us[i2] = x := by have := hx5 _ (SqL.of hus2); rw [hyi] at this; injection this
    have hk : i2 < (kids t).length := by omega
    obtain ⟨u', e1, iu⟩ := ius.get (i := i2) (d := tdat (kids t)[i2]) (by rw [List.getElem?_map, List.getElem?_eq_getElem hk]; rfl)
    rw [hyi] at e1
    cases e1
    obtain ⟨e, he, the⟩ := th.sub _ (List.getElem_mem hk)
    refine gall ?_
    refine ⟨_, rfl, e, he, _, _, rfl, IsDt.mono s2.tups iu, the, fun n H3 s3 => ?_⟩
    exact ⟨m2 - 1, by omega, s2.trans s3, by omega, by simp at lz ⊢; omega, ns ++ [n], by simp⟩
  · refine .inl ⟨⟨_, SqL.of hus2, by omega⟩, fun l2 hl2 => ⟨l2, ns, rfl, SqL.of upd_same, .inl ⟨_, _, rfl, rfl, ?_⟩⟩⟩
    exact fin _ _ (s1.trans (s2.trans (same_new hl2 _)))
theorem knots_all (T : Tx mg) (D__law_knots : Df K mg "_law_knots" (top 30) f fd ["question"]) (D__law_parts : Df K mg "_law_parts" (top 27) f_parts fd_parts ["question"]) (G__law_parts : FnOk P w K mg base CX0 1 f_parts fd_parts ["question"] spParts) :
    ∀ d : Nat, FnOk P w K mg base CX0 (d + 2) f fd ["question"] (spKnots d) := fun d => by
  induction d using Nat.strongRecOn with
  | _ d ih => exact ok_knots (j := d + 1) (by omega) T D__law_knots (fnOk_lt fun e he => (ih e he).mono (by omega)) D__law_parts G__law_parts
theorem sc__law_question : FnScope ["deck", "env", "kind", "deep", "limit", "most", "found"] ["deck", "env", "kind", "deep", "limit"] (defScope (top 31)) := ⟨rfl, rfl, rfl, by decide +kernel, rfl, by decide +kernel, by decide +kernel⟩
def spQuestion : Sp := fun vs H Q _ => ∃ (p c e : Addr) (v : V) (k : Tr), vs = [.ref p, .ref e, v, .int 4, .int 100] ∧ DkE H p c ∧ EnvOk H e 16 ∧ KG 3 k ∧ IsDt H (tdat k) v ∧ Out p c 18 H Q
theorem ok_question (T : Tx mg) (D : Df K mg "_law_question" (top 31) f fd ["deck", "env", "kind", "deep", "limit"])
    (D__law_ask : Df K mg "_law_ask" (top 26) f_ask fd_ask ["deck", "env", "kind", "deep"]) (G__law_ask : FnOk P w K mg base CX0 21 f_ask fd_ask ["deck", "env", "kind", "deep"] (spAsk (fun _ => True) 4 18))
    (D__law_knots : Df K mg "_law_knots" (top 30) f_knots fd_knots ["question"]) (G__law_knots : FnOk P w K mg base CX0 20 f_knots fd_knots ["question"] (spKnots 18))
    (D__law_leaf : Df K mg "_law_leaf" (top 21) f_leaf fd_leaf ["deck", "env", "kind"]) (G__law_leaf : FnOk P w K mg base CX0 5 f_leaf fd_leaf ["deck", "env", "kind"] (spLeaf 3)) :
    FnOk P w K mg base CX0 22 f fd ["deck", "env", "kind", "deep", "limit"] spQuestion := by
  refine D.fn.okH sc__law_question (fun vs H Q E h => ?_) (fun cdv A outer s H vs Q E hr h => ?_)
  · obtain ⟨p, c, e, v, k, rfl, _⟩ := h; rfl
  obtain ⟨p, c, e, v, k, rfl, dk, en, kg, iv, fin⟩ := h
  have hu := u110 hr
  have hu0 := u0 hr
  have hu1 := hu_of hr
  refine ⟨_, (wss_cons (ws_for PassesOwn.never rfl (wi_U (we_lst (wa_consts rfl))) (wg_name (i := 5) sc__law_question.nd rfl (Or.inl rfl)) (wss_cons (ws_asg (wv 5) (wg_sub (wv 0) we_int (set_U hu1)))
      (wss_cons (ws_set (i := 6) sc__law_question.nd rfl (Or.inl rfl) (we_call G__law_ask (hr.mono (by omega)) rfl D__law_ask.mg D__law_ask.kp D__law_ask.b .nil pass0 (wa_cons (wv 0) (wa_cons (wv 1) (wa_cons (wv 2) (wa_cons (wv 3) wa_nil))))))
      (wss_one (ws_if (wt_cmpR (op_ltU hu0) (we_call G__law_knots (hr.mono (by omega)) rfl D__law_knots.mg D__law_knots.kp D__law_knots.b .nil pass0 (wa_cons (wv 6) wa_nil)) (wv 4) (nomark _)) (wss_one (ws_ret (wv 6))) wss_nil)))))
      (wss_one (ws_ret (we_call G__law_leaf (hr.mono (by omega)) rfl D__law_leaf.mg D__law_leaf.kp D__law_leaf.b .nil pass0 (wa_cons (wv 0) (wa_cons (wv 1) (wa_cons (wv 2) wa_nil))))))), ?_⟩
  refine .inl ⟨(by show 4 ≤ sizeLine; decide), fun l hl => ⟨l, rfl, ⟨_, SqL.of upd_same⟩, ?_⟩⟩
  have nl := dk.ne hl
  refine for_list (a := l) (xs := [V.int 14, .int 7, .int 3, .int 1]) (fun i σ H2 => ∃ o5 o6 : Option V, σ = [some (.ref p), some (.ref e), some v, some (.int 4), some (.int 100), o5, o6] ∧ ExD p c H H2 ∧ DkE H2 p c ∧ H2 l = some (.lst [V.int 14, .int 7, .int 3, .int 1]))
    ⟨none, none, rfl, exd_new hl, dk.new hl, upd_same⟩ (fun i σ H2 _ ⟨_, _, _, _, _, h⟩ => SqL.of h) ?turn ?done
  case done =>
    rintro σ H2 ⟨o5, o6, rfl, ex2, dk2, hl2⟩
    exact ⟨_, rfl, _, rfl, _, rfl, p, c, e, v, k, rfl, dk2, (en.ex dk ex2).le (by omega), kg, IsDt.mono (dk.tups ex2) iv, (fin.at ex2).le (by omega)⟩
  case turn =>
    rintro i x σ H2 hx ⟨o5, o6, rfl, ex2, dk2, hl2⟩
    obtain ⟨m, rfl⟩ : ∃ m : Int, x = .int m := by
      have := List.mem_of_getElem? hx
      simp only [List.mem_cons, List.not_mem_nil, or_false] at this
      rcases this with rfl | rfl | rfl | rfl <;> exact ⟨_, rfl⟩
    obtain ⟨m0, n0, cs, hp, hc, r0⟩ := dk2
    refine ⟨_, rfl, _, rfl, .inl ⟨p, _, _, 2, rfl, rfl, hp, rfl, ?_⟩⟩
    have dk3 : DkE (upd H2 p (.lst ([V.ref c, .int n0, .int m0].set 2 (.int m)))) p c := ⟨m, n0, cs, upd_same, by rw [upd_ne r0.2.2.2]; exact hc, r0⟩
    have ex3 : ExD p c H (upd H2 p (.lst ([V.ref c, .int n0, .int m0].set 2 (.int m)))) := ex2.trans exd_p
    have hl3 : (upd H2 p (.lst ([V.ref c, .int n0, .int m0].set 2 (.int m)))) l = some (.lst [V.int 14, .int 7, .int 3, .int 1]) := by rw [upd_ne nl.1]; exact hl2
    generalize upd H2 p (.lst ([V.ref c, .int n0, .int m0].set 2 (.int m))) = H3 at *
    refine ⟨_, rfl, _, rfl, _, rfl, _, rfl, p, c, e, v, k, 4, rfl, rfl, dk3, en.ex dk ex3, kg, trivial, IsDt.mono (dk.tups ex3) iv, fun t4 u4 H4 th4 it4 ex4 dk4 => ?_⟩
    refine ⟨_, rfl, u4, t4, rfl, it4, th4, fun n H5 s5 => ⟨_, rfl, .inl ⟨_, _, rfl, rfl, _, rfl, ite2 (fun _ => ?_) (fun _ => ?_)⟩⟩⟩
    · exact ⟨_, rfl, fin t4 u4 H5 th4 (IsDt.mono s5.tups it4) (ex3.trans (ex4.trans (Same.exd s5))) (dk4.keep s5)⟩
    · exact ⟨_, _, rfl, ex3.trans (ex4.trans (Same.exd s5)), dk4.keep s5, s5 _ _ (ex4 l _ nl.1 nl.2 hl3)⟩
end
end K46
end
section
set_option Elab.async false
set_option linter.all false
set_option maxRecDepth 100000
set_option maxHeartbeats 4000000
namespace K46
open PySem L2 Kn
theorem walkT_app {t t' : Tr} {js is : List Int} (h : walkT t js = some t') : walkT t (js ++ is) = walkT t' is := by
  induction js generalizing t with
  | nil => rw [walkT] at h; injection h with h; rw [h]; rfl
  | cons j js ih =>
    by_cases z : 0 ≤ j ∧ j < (kids t).length
    · rw [walkT_in z] at h
      rw [List.cons_append, walkT_in z]; exact ih h
    · rw [walkT_out z] at h; cases h
theorem walkT_kid {t : Tr} {k : Nat} (h : k < (kids t).length) : walkT t [(k : Int)] = some (kids t)[k] := by
  rw [walkT_in ⟨by omega, by omega⟩, walkT]; simp
section
variable {P : Program} {w : World} {K : PySem.W.Frag} {mg : Str → Option Value} {base : Heap} {f f_parts f_at : Addr} {fd fd_parts fd_at : FuncData}
theorem sc__law_walked : FnScope ["question", "here", "path", "cell", "parts", "odd"] ["question", "here", "path", "cell"] (defScope (top 32)) := ⟨rfl, rfl, rfl, by decide +kernel, rfl, by decide +kernel, by decide +kernel⟩
def spWalked (d : Nat) : Sp := fun vs H Q _ => ∃ (vq vh : V) (tq t : Tr) (tp : Addr) (js : List Int) (cell : Int), vs = [vq, vh, .ref tp, .int cell] ∧ IsDt H (tdat tq) vq ∧ TH 18 tq ∧ IsDt H (tdat t) vh ∧ TH d t ∧ H tp = some (.tup (js.map V.int)) ∧ js.length + d ≤ 30 ∧ walkT tq js = some t ∧ 0 ≤ cell ∧
  ∀ H', Same H H' → Q (.bl true) H'
theorem ok_walked {j d : Nat} (hj : 4 ≤ j) (d18 : d ≤ 18) (T : Tx mg) (D__law_walked : Df K mg "_law_walked" (top 32) f fd ["question", "here", "path", "cell"]) (G__law_walked : FnOk P w K mg base CX0 j f fd ["question", "here", "path", "cell"] (fun vs H Q E => ∃ e, e < d ∧ spWalked e vs H Q E))
    (D__law_parts : Df K mg "_law_parts" (top 27) f_parts fd_parts ["question"]) (G__law_parts : FnOk P w K mg base CX0 1 f_parts fd_parts ["question"] spParts)
    (D_at_path : Df K mg "at_path" (top 12) f_at fd_at ["question", "path"]) (G_at_path : FnOk P w K mg base CX0 4 f_at fd_at ["question", "path"] spAt) :
    FnOk P w K mg base CX0 (j + 1) f fd ["question", "here", "path", "cell"] (spWalked d) := by
  refine D__law_walked.fn.okH sc__law_walked (fun vs H Q E h => ?_) (fun cdv A outer s H vs Q E hr h => ?_)
  · obtain ⟨vq, vh, tq, t, tp, js, cell, rfl, _⟩ := h; rfl
  obtain ⟨vq, vh, tq, t, tp, js, cell, rfl, iq, thq, ih, th, htp, ljs, hw, c0, fin⟩ := h
  have hu := u110 hr
  have hu0 := u0 hr
  have hu1 := hu_of hr
  refine ⟨_, (wss_cons (ws_if (wt_cmpR (op_neU hu) (we_call G_at_path (hr.mono (by omega)) rfl D_at_path.mg D_at_path.kp D_at_path.b .nil pass0 (wa_cons (wv 0) (wa_cons (wv 2) wa_nil))) (wv 1) (nomark _)) (wss_one (ws_ret we_bl)) wss_nil)
      (wss_cons (ws_set (i := 4) sc__law_walked.nd rfl (Or.inr rfl) (we_call G__law_parts (hr.mono (by omega)) rfl D__law_parts.mg D__law_parts.kp D__law_parts.b .nil pass0 (wa_cons (wv 1) wa_nil)))
      (wss_cons (ws_for PassesOwn.never rfl (wi_U (we_lst (wa_cons (we_callB call_lenU rfl T.z_len bt_len (wa_cons (wv 4) wa_nil)) (wa_cons (we_un un_neg we_int) (wa_cons (we_op op_plus (we_callB call_lenU rfl T.z_len bt_len (wa_cons (wv 4) wa_nil)) (wv 3)) (wa_cons (we_op op_sub (we_un un_neg we_int) (wv 3)) wa_nil)))))) (wg_name (i := 5) sc__law_walked.nd rfl (Or.inl rfl)) (wss_one (ws_if (wt_pw (ww_or (wt_cmpR op_notN (we_call G_at_path (hr.mono (by omega)) rfl D_at_path.mg D_at_path.kp D_at_path.b .nil pass0 (wa_cons (wv 0) (wa_cons (we_op op_plus (wv 2) (we_tup (wa_cons (wv 5) wa_nil))) wa_nil))) we_non (nomark _)) (ww_or1 (wt_cmpR op_notN (we_call G_at_path (hr.mono (by omega)) rfl D_at_path.mg D_at_path.kp D_at_path.b .nil pass0 (wa_cons (wv 0) (wa_cons (we_op op_plus (wv 2) (we_tup (wa_cons (wv 5) (wa_cons we_int wa_nil)))) wa_nil))) we_non (nomark _))))) (wss_one (ws_ret we_bl)) wss_nil)))
      (wss_one (ws_ret (we_callB (call_all rfl) rfl T.z_all bt_all (wa_cons (we_lc (Nt := ["k"]) (fr := [("question", 0), ("parts", 4), ("path", 2), ("cell", 3)]) (LcOk.of (sc := defScope (top 32)) (N := ["question", "here", "path", "cell", "parts", "odd"]) rfl rfl (by decide +kernel)) rfl (wi_range1 rfl T.z_range (wa_cons (we_callB call_lenU rfl T.z_len bt_len (wa_cons (wv 4) wa_nil)) wa_nil)) (fun z => wg_name (i := 0) (by show (["k", "question", "parts", "path", "cell"] : List Str).Nodup; decide +kernel) rfl (Or.inl rfl) (.inr rfl)) (fun z => tgt_name (by decide)) (fun z => wif_nil) (fun z => (we_call G__law_walked (hr.mono (by omega)) rfl D__law_walked.mg D__law_walked.kp D__law_walked.b .nil pass0 (wa_cons (wv 1) (wa_cons (we_ix (ix_U hu1) (wv 2) (wv 0) (fun _ _ => rfl)) (wa_cons (we_op op_plus (wv 3) (we_tup (wa_cons (wv 0) wa_nil))) (wa_cons (wv 4) wa_nil))))))) wa_nil))))))), ?_⟩
  refine ⟨_, rfl, _, rfl, vq, tp, 18, tq, js, rfl, iq, thq, htp, by omega, (fun z => by rw [hw] at z; cases z), fun t' r H1 ht' s1 ir => ?_⟩
  obtain rfl : t = t' := by rw [hw] at ht'; injection ht'
  obtain ⟨ds, eds⟩ := tdat_tup t
  have dd := th.dep
  rw [eds, dep_tup] at dd
  refine ⟨_, rfl, .inr (.inl ⟨ds, ds, eds ▸ ir, eds ▸ IsDt.mono s1.tups ih, by unfold depMax; omega, _, rfl, iteN (by simp) ?_⟩)⟩
  refine ⟨_, rfl, vh, t, d, rfl, IsDt.mono s1.tups ih, th, fun l us H2 s2 hl hus ius => ?_⟩
  have l14 := th.len
  have lus : us.length = (kids t).length := by rw [ius.length, List.length_map]
  refine .inl ⟨_, rfl, .inl ⟨l, us, rfl, .inl (SqL.of hus), _, rfl, _, rfl, .inl ⟨l, us, rfl, .inl (SqL.of hus), _, rfl, .inl ⟨_, _, rfl, rfl, _, rfl, _, rfl, _, _, rfl, rfl, (by show 4 ≤ sizeLine; decide), fun l3 hl3 => ⟨l3, rfl, ⟨_, SqL.of upd_same⟩, ?_⟩⟩⟩⟩⟩
  refine for_list (a := l3) (xs := [V.int (us.length : Nat), .int (-1), .int ((us.length : Nat) + cell), .int (-2 - cell)]) (fun i σ H4 => ∃ o5 : Option V, σ = [some vq, some vh, some (.ref tp), some (.int cell), some (.ref l), o5] ∧ Same H2 H4 ∧ H4 l3 = some (.lst [V.int (us.length : Nat), .int (-1), .int ((us.length : Nat) + cell), .int (-2 - cell)]))
    ⟨none, rfl, same_new hl3 _, upd_same⟩ (fun i σ H2 _ ⟨_, _, _, h⟩ => SqL.of h) ?turn ?done
  case turn =>
    rintro i x σ H4 hx ⟨o5, rfl, s4, hl4⟩
    obtain ⟨odd, rfl, hodd⟩ : ∃ odd : Int, x = .int odd ∧ ¬ (0 ≤ odd ∧ odd < (kids t).length) := by
      have := List.mem_of_getElem? hx
      simp only [List.mem_cons, List.not_mem_nil, or_false] at this
      rcases this with rfl | rfl | rfl | rfl <;> exact ⟨_, rfl, by omega⟩
    have sH4 := s1.trans (s2.trans s4)
    refine ⟨_, rfl, _, rfl, _, rfl, (by show 1 ≤ sizeLine; decide), fun t1 ht1 => .inr (.inr (.inr ⟨tp, t1, js.map V.int, [.int odd], rfl, rfl, same_new ht1 _ _ _ (sH4 _ _ htp), upd_same, Nat.le_of_lt (line1 (by simp; omega)), fun pp H5 s5 hpp => ?_⟩))⟩
    have sH5 : Same H H5 := sH4.trans ((same_new ht1 _).trans s5)
    have w5 : walkT tq (js ++ [odd]) = none := by rw [walkT_app hw, walkT_out hodd]
    refine ⟨vq, pp, 18, tq, js ++ [odd], rfl, IsDt.mono sH5.tups iq, thq, by rw [List.map_append]; exact hpp, by simp; omega, fun _ H6 s6 => ⟨rfl, _, rfl, iteN (by decide) ?_⟩, fun t' r H' z => by rw [w5] at z; cases z⟩
    have sH6 := sH5.trans s6
    refine ⟨_, rfl, _, rfl, _, rfl, (by show 2 ≤ sizeLine; decide), fun t7 ht7 => .inr (.inr (.inr ⟨tp, t7, js.map V.int, [.int odd, .int 0], rfl, rfl, same_new ht7 _ _ _ (sH6 _ _ htp), upd_same, Nat.le_of_lt (line1 (by simp; omega)), fun pp2 H8 s8 hpp2 => ?_⟩))⟩
    have sH8 : Same H H8 := sH6.trans ((same_new ht7 _).trans s8)
    have w8 : walkT tq (js ++ [odd, 0]) = none := by rw [walkT_app hw, walkT_out hodd]
    refine ⟨vq, pp2, 18, tq, js ++ [odd, 0], rfl, IsDt.mono sH8.tups iq, thq, by rw [List.map_append]; exact hpp2, by simp; omega, fun _ H9 s9 => ⟨rfl, _, rfl, iteN (by decide) ?_⟩, fun t' r H' z => by rw [w8] at z; cases z⟩
    have s49 : Same H4 H9 := (same_new ht1 _).trans (Same.trans s5 (s6.trans ((same_new ht7 _).trans (Same.trans s8 s9))))
    exact ⟨_, rfl, s4.trans s49, s49 _ _ hl4⟩
  case done =>
    rintro σ H4 ⟨o5, rfl, s4, hl4⟩
    have hus4 := s4 _ _ hus
    refine ⟨_, rfl, .inl ⟨l, us, rfl, .inl (SqL.of hus4), _, rfl, by omega, by omega, ?_⟩⟩
    have sH4 := s1.trans (s2.trans s4)
    refine ⟨fun i2 m2 zs H5 => Same H4 H5 ∧ m2 + i2 = us.length ∧ ∃ bs : List Bool, bs.length ≤ i2 ∧ bs.all id = true ∧ zs = bs.map V.bl, ⟨us.length, .refl _, rfl, [], by simp, rfl, rfl⟩, ?_⟩
    rintro i2 m2 zs H5 ⟨s5, hm2, bs, lb, hb, rfl⟩
    refine ⟨line1 (by rw [List.length_map]; omega), ?_⟩
    have hus5 := s5 _ _ hus4
    have sH5 := sH4.trans s5
    by_cases hi2 : i2 < us.length
    · have hk : i2 < (kids t).length := by omega
      have hyi : us[i2]? = some us[i2] := List.getElem?_eq_getElem hi2
      obtain ⟨u', e1, iu⟩ := ius.get (i := i2) (d := tdat (kids t)[i2]) (by rw [List.getElem?_map, List.getElem?_eq_getElem hk]; rfl)
      rw [hyi] at e1
      cases e1
      obtain ⟨e, he, the⟩ := th.sub _ (List.getElem_mem hk)
      refine .inr ⟨(by show i2 < ((us.length : Nat) : Int).toNat; omega), fun z x H6 hy2 => ?_⟩
      obtain ⟨rfl, rfl⟩ := hy2
      refine gall ?_
      refine ⟨_, rfl, _, rfl, _, rfl, .inl ⟨l, us, _, us[i2], rfl, rfl, SqL.of hus5, (by rw [Int.zero_add]; exact atI_nat hyi), _, rfl, _, rfl, (by show 1 ≤ sizeLine; decide), fun t1 ht1 => .inr (.inr (.inr ⟨tp, t1, js.map V.int, [.int (0 + (i2 : Int))], rfl, rfl, same_new ht1 _ _ _ (sH5 _ _ htp), upd_same, Nat.le_of_lt (line1 (by simp; omega)), fun pp H7 s7 hpp => ?_⟩))⟩⟩
      have s57 := (same_new ht1 (.tup [.int (0 + (i2 : Int))])).trans s7
      have sH7 : Same H H7 := sH5.trans s57
      have w7 : walkT tq (js ++ [(i2 : Int)]) = some (kids t)[i2] := by rw [walkT_app hw, walkT_kid hk]
      refine ⟨_, rfl, e, he, vq, us[i2], tq, (kids t)[i2], pp, js ++ [(i2 : Int)], cell, rfl, IsDt.mono sH7.tups iq, thq, IsDt.mono ((s4.trans s5).trans s57).tups iu, the, by rw [hpp, List.map_append, Int.zero_add]; rfl, by simp; omega, w7, c0, fun H8 s8 => ?_⟩
      exact ⟨m2 - 1, by omega, s5.trans (s57.trans s8), by omega, bs ++ [true], by simp; omega, by simp at hb ⊢; exact hb, by simp⟩
    · refine .inl ⟨(by show ((us.length : Nat) : Int).toNat ≤ i2; omega), fun l2 hl2 => ⟨l2, bs, rfl, SqL.of upd_same, ?_⟩⟩
      rw [hb]
      exact fin _ (sH5.trans (same_new hl2 _))
theorem walked_all (T : Tx mg) (D__law_walked : Df K mg "_law_walked" (top 32) f fd ["question", "here", "path", "cell"])
    (D__law_parts : Df K mg "_law_parts" (top 27) f_parts fd_parts ["question"]) (G__law_parts : FnOk P w K mg base CX0 1 f_parts fd_parts ["question"] spParts)
    (D_at_path : Df K mg "at_path" (top 12) f_at fd_at ["question", "path"]) (G_at_path : FnOk P w K mg base CX0 4 f_at fd_at ["question", "path"] spAt) :
    ∀ d : Nat, d ≤ 18 → FnOk P w K mg base CX0 (d + 5) f fd ["question", "here", "path", "cell"] (spWalked d) := fun d => by
  induction d using Nat.strongRecOn with
  | _ d ih => exact fun h => ok_walked (j := d + 4) (by omega) h T D__law_walked (fnOk_lt fun e he => (ih e he (by omega)).mono (by omega)) D__law_parts G__law_parts D_at_path G_at_path
end
end K46
end
section
set_option Elab.async false
set_option linter.all false
set_option maxRecDepth 100000
set_option maxHeartbeats 4000000
namespace K46
open PySem L2 Kn
theorem seq_at {K : PySem.W.Frag} {H H' : Hp} {a : Addr} {xs : List V} (h : SqL K H a xs) (e : ∀ o, H a = some o → H' a = some o) : SqL K H' a xs := by
  rcases h with (h | ⟨o, h⟩) | h
  · exact .inl (.inl (e _ h))
  · exact .inl (.inr ⟨o, e _ h⟩)
  · exact .inr h
section
variable {P : Program} {w : World} {K : PySem.W.Frag} {mg : Str → Option Value} {base : Heap} {f f_deck f_stock f_kind f_question f_walked f_take : Addr} {fd fd_deck fd_stock fd_kind fd_question fd_walked fd_take : FuncData}
theorem sc_law : FnScope ["script", "deck", "env", "kind", "question"] ["script"] (defScope (top 33)) := ⟨rfl, rfl, rfl, by decide +kernel, rfl, by decide +kernel, by decide +kernel⟩
def spLaw (K : PySem.W.Frag) : Sp := fun vs H Q _ => ∃ (a : Addr) (ns : List Int), vs = [.ref a] ∧ SqL K H a (ns.map V.int) ∧ ns.length ≤ 63 ∧ ∀ H', Q (.bl true) H'
theorem ok_law (T : Tx mg) (D : Df K mg "law" (top 33) f fd ["script"])
    (D__law_deck : Df K mg "_law_deck" (top 14) f_deck fd_deck ["script", "most"]) (G__law_deck : FnOk P w K mg base CX0 1 f_deck fd_deck ["script", "most"] (spDeck K))
    (D__law_stock : Df K mg "_law_stock" (top 16) f_stock fd_stock []) (G__law_stock : FnOk P w K mg base CX0 1 f_stock fd_stock [] spStock)
    (D__law_kind : Df K mg "_law_kind" (top 20) f_kind fd_kind ["deck"]) (G__law_kind : FnOk P w K mg base CX0 2 f_kind fd_kind ["deck"] spKind)
    (D__law_question : Df K mg "_law_question" (top 31) f_question fd_question ["deck", "env", "kind", "deep", "limit"]) (G__law_question : FnOk P w K mg base CX0 22 f_question fd_question ["deck", "env", "kind", "deep", "limit"] spQuestion)
    (D__law_walked : Df K mg "_law_walked" (top 32) f_walked fd_walked ["question", "here", "path", "cell"]) (G__law_walked : FnOk P w K mg base CX0 23 f_walked fd_walked ["question", "here", "path", "cell"] (spWalked 18))
    (D__law_take : Df K mg "_law_take" (top 15) f_take fd_take ["deck", "many"]) (G__law_take : FnOk P w K mg base CX0 1 f_take fd_take ["deck", "many"] spTake) :
    FnOk P w K mg base CX0 24 f fd ["script"] (spLaw K) := by
  refine D.fn.okH (k := 23) sc_law (fun vs H Q E h => ?_) (fun cdv A outer s H vs Q E hr h => ?_)
  · obtain ⟨a, ns, rfl, _⟩ := h; rfl
  obtain ⟨a, ns, rfl, hS, h63, fin⟩ := h
  have hu := u110 hr
  have hu0 := u0 hr
  have hu1 := hu_of hr
  refine ⟨_, (wss_cons (ws_set (i := 1) sc_law.nd rfl (Or.inl rfl) (we_call G__law_deck (hr.mono (by omega)) rfl D__law_deck.mg D__law_deck.kp D__law_deck.b .nil pass0 (wa_cons (wv 0) (wa_cons we_int wa_nil))))
      (wss_cons (ws_set (i := 2) sc_law.nd rfl (Or.inl rfl) (we_disp (wps_cons we_str (we_dt rfl) (wps_cons we_str (we_dt rfl) (wps_cons we_str (we_ix (ix_U hu1) (we_call0 G__law_stock (hr.mono (by omega)) rfl D__law_stock.mg D__law_stock.kp D__law_stock.b .nil pass0) we_str (fun _ _ => rfl)) (wps_cons we_str (we_ix (ix_U hu1) (we_call0 G__law_stock (hr.mono (by omega)) rfl D__law_stock.mg D__law_stock.kp D__law_stock.b .nil pass0) we_str (fun _ _ => rfl)) wps_nil)))) rfl rfl (by simp) (by decide)))
      (wss_cons (ws_for PassesOwn.never rfl (wi_U (we_lst (wa_cons (we_dt rfl) (wa_cons (we_tup (wa_cons we_str (wa_cons (we_ix (ix_U hu1) (we_call0 G__law_stock (hr.mono (by omega)) rfl D__law_stock.mg D__law_stock.kp D__law_stock.b .nil pass0) we_str (fun _ _ => rfl)) wa_nil))) (wa_cons (we_call G__law_kind (hr.mono (by omega)) rfl D__law_kind.mg D__law_kind.kp D__law_kind.b .nil pass0 (wa_cons (wv 1) wa_nil)) wa_nil))))) (wg_name (i := 3) sc_law.nd rfl (Or.inl rfl)) (wss_cons (ws_set (i := 4) sc_law.nd rfl (Or.inl rfl) (we_call G__law_question (hr.mono (by omega)) rfl D__law_question.mg D__law_question.kp D__law_question.b .nil pass0 (wa_cons (wv 1) (wa_cons (wv 2) (wa_cons (wv 3) (wa_cons we_int (wa_cons we_int wa_nil)))))))
      (wss_one (ws_if (wt_not (wt_val (we_call G__law_walked (hr.mono (by omega)) rfl D__law_walked.mg D__law_walked.kp D__law_walked.b .nil pass0 (wa_cons (wv 4) (wa_cons (wv 4) (wa_cons (we_tup wa_nil) (wa_cons (we_op op_plus (we_callB call_lenU rfl T.z_len bt_len (wa_cons (wv 0) wa_nil)) (we_call G__law_take (hr.mono (by omega)) rfl D__law_take.mg D__law_take.kp D__law_take.b .nil pass0 (wa_cons (wv 1) (wa_cons (we_op op_pow we_int we_int) wa_nil)))) wa_nil))))))) (wss_one (ws_ret we_bl)) wss_nil))))
      (wss_one (ws_ret we_bl))))), ?_⟩
  refine ⟨_, rfl, a, ns, 14, rfl, hS, h63, fun p c H1 s1 hp hc dk1 => ?_⟩
  intro q hq v1 H2 s2 i1 v2 H3 s3 i2
  have nq := dk1.ne hq
  have s13 := (same_new hq (.dK [])).trans (s2.trans s3)
  refine ⟨rfl, fun qs H4 s4 hqs st => ?_⟩
  obtain ⟨vx, gx, ix⟩ := st.x
  refine .inr (.inr (.inr ⟨qs, vx, rfl, gx, ⟨rfl, fun qs2 H5 s5 hqs2 st2 => ?_⟩⟩))
  obtain ⟨vd, gd, id2⟩ := st2.d
  have hq1 : (upd H1 q (.dK [])) q = some (.dK []) := upd_same
  refine .inr (.inr (.inr ⟨qs2, vd, rfl, gd, s5 _ _ (s4 _ _ (s3 _ _ (s2 _ _ hq1))), [(Sum.inr (Str.ofString "x"), v1), (Sum.inr (Str.ofString "y"), v2), (Sum.inr (Str.ofString "z"), vx), (Sum.inr (Str.ofString "a"), vd)], rfl, by simp, ?_⟩))
  have hq5 := s5 _ _ (s4 _ _ (s3 _ _ (s2 _ _ hq1)))
  have s15 : Same H1 H5 := (same_new hq (.dK [])).trans (s2.trans (s3.trans (s4.trans s5)))
  have s16 : Same H1 (upd H5 q (.dK (mergeK [] [(Sum.inr (Str.ofString "x"), v1), (Sum.inr (Str.ofString "y"), v2), (Sum.inr (Str.ofString "z"), vx), (Sum.inr (Str.ofString "a"), vd)]))) := same_at s15 hq
  have t56 : Tups H5 (upd H5 q (.dK (mergeK [] [(Sum.inr (Str.ofString "x"), v1), (Sum.inr (Str.ofString "y"), v2), (Sum.inr (Str.ofString "z"), vx), (Sum.inr (Str.ofString "a"), vd)]))) := fun b xs e => by rw [upd_ne (ne_of e hq5 (by intro z; cases z))]; exact e
  have en6 : EnvOk (upd H5 q (.dK (mergeK [] [(Sum.inr (Str.ofString "x"), v1), (Sum.inr (Str.ofString "y"), v2), (Sum.inr (Str.ofString "z"), vx), (Sum.inr (Str.ofString "a"), vd)]))) q 16 := by
    refine ⟨[(Sum.inr (Str.ofString "x"), v1), (Sum.inr (Str.ofString "y"), v2), (Sum.inr (Str.ofString "z"), vx), (Sum.inr (Str.ofString "a"), vd)], upd_same, by simp, fun kv hkv => ?_⟩
    simp only [List.mem_cons, List.not_mem_nil, or_false] at hkv
    rcases hkv with rfl | rfl | rfl | rfl
    · exact ⟨_, kNum, rfl, by decide +kernel, .num, IsDt.mono t56 (IsDt.mono (s3.trans (s4.trans s5)).tups i1)⟩
    · exact ⟨_, kWord, rfl, by decide +kernel, .word, IsDt.mono t56 (IsDt.mono (s4.trans s5).tups i2)⟩
    · exact ⟨_, kX, rfl, by decide +kernel, kg_x.mono (by decide), IsDt.mono t56 (IsDt.mono s5.tups ix)⟩
    · exact ⟨_, kPair, rfl, by decide +kernel, kg_pair.mono (by decide), IsDt.mono t56 id2⟩
  generalize upd H5 q (.dK (mergeK [] [(Sum.inr (Str.ofString "x"), v1), (Sum.inr (Str.ofString "y"), v2), (Sum.inr (Str.ofString "z"), vx), (Sum.inr (Str.ofString "a"), vd)])) = H6 at *
  have dk6 := dk1.keep s16
  clear hq5 t56 ix i1 i2 id2 gx gd st st2
  refine .inl fun v7 H7 s7 i7 => ⟨rfl, fun qs3 H8 s8 hqs3 st3 => ?_⟩
  obtain ⟨vy, gy, iy⟩ := st3.x
  refine .inr (.inr (.inr ⟨qs3, vy, rfl, gy, (by show 2 ≤ sizeLine; decide), fun t9 ht9 => ?_⟩))
  have s69 := s7.trans (s8.trans (same_new ht9 (.tup [.str "bag", vy])))
  have i7b := IsDt.mono (s8.trans (same_new ht9 (.tup [.str "bag", vy]))).tups i7
  have i9 : IsDt (upd H8 t9 (.tup [.str "bag", vy])) (tdat (.node (Str.ofString "bag") [] [kX])) (.ref t9) := isDt_n (as := []) ht9 (isDts_1 iy)
  generalize upd H8 t9 (.tup [.str "bag", vy]) = H9 at *
  refine ⟨_, rfl, p, c, rfl, ⟨_, dk6.keep s69⟩, fun kk vk HA kgk ik exA dkA => ⟨(by show 3 ≤ sizeLine; decide), fun l hl => ⟨l, rfl, ⟨_, SqL.of upd_same⟩, ?_⟩⟩⟩
  have nl := dkA.ne hl
  have tA := (dk6.keep s69).tups exA
  have exHA : ExD p c H1 HA := ExD.trans (Same.exd (s16.trans s69)) exA
  have enA := (en6.keep s69).ex ⟨_, dk6.keep s69⟩ exA
  have ka : ∀ {H'}, ExD p c HA H' → SqL K H' a (ns.map V.int) := fun x => seq_at hS fun o e => by
    have n1 : a ≠ p := ne_of_none e hp
    have n2 : a ≠ c := ne_of_none e hc
    exact x a o n1 n2 (exHA a o n1 n2 (s1 _ _ e))
  have i7A := IsDt.mono tA i7b
  have i9A := IsDt.mono tA i9
  refine for_list (a := l) (xs := [v7, .ref t9, vk]) (fun i σ HB => ∃ o3 o4 : Option V, σ = [some (.ref a), some (.ref p), some (.ref q), o3, o4] ∧ ExD p c HA HB ∧ DkE HB p c ∧ HB l = some (.lst [v7, .ref t9, vk]))
    ⟨none, none, rfl, exd_new hl, dkA.new hl, upd_same⟩ (fun i σ H2 _ ⟨_, _, _, _, _, h⟩ => SqL.of h) ?turn ?done
  case done => rintro σ HB ⟨o3, o4, rfl, _⟩; exact fin _
  case turn =>
    rintro i x σ HB hx ⟨o3, o4, rfl, exB, dkB, hlB⟩
    have tB := dkA.tups exB
    obtain ⟨ko, kgo, io⟩ : ∃ ko, KG 3 ko ∧ IsDt HB (tdat ko) x := by
      have := List.mem_of_getElem? hx
      simp only [List.mem_cons, List.not_mem_nil, or_false] at this
      rcases this with rfl | rfl | rfl
      · exact ⟨kBagN, .bag .num, IsDt.mono tB i7A⟩
      · exact ⟨_, .bag kg_x, IsDt.mono tB i9A⟩
      · exact ⟨kk, kgk.up, IsDt.mono tB ik⟩
    refine ⟨_, rfl, _, rfl, _, rfl, p, c, q, x, ko, rfl, dkB, enA.ex dkA exB, kgo, io, fun t u HC th it exC dkC => ?_⟩
    refine ⟨_, rfl, _, rfl, (by show 0 ≤ sizeLine; decide), fun t1 ht1 => ?_⟩
    have exBC := exB.trans (exC.trans (exd_new (o := .tup []) ht1))
    obtain ⟨m, dmC⟩ := dkC.new (o := .tup []) ht1
    have nt1 := dkC.ne ht1
    have itC := IsDt.mono (same_new ht1 (.tup [])).tups it
    have h1C : (upd HC t1 (.tup [])) t1 = some (.tup []) := upd_same
    have hlC : (upd HC t1 (.tup [])) l = some (.lst [v7, .ref t9, vk]) := same_new ht1 _ _ _ (exC l _ nl.1 nl.2 hlB)
    generalize upd HC t1 (.tup []) = HD at *
    refine ⟨_, rfl, .inl ⟨a, _, rfl, .inl (ka exBC), _, rfl, _, _, rfl, rfl, ⟨by decide, by decide, by decide⟩, p, c, m, _, rfl, dmC, by decide, by decide, fun y HE y0 y1 exE dkE => .inl ⟨_, _, rfl, rfl, ?_⟩⟩⟩
    have itE := IsDt.mono (dmC.tups exE) itC
    refine ⟨u, u, t, t, t1, [], _, rfl, itE, th, itE, th, exE t1 _ nt1.1 nt1.2 h1C, by decide, by rw [walkT], by omega, fun HF sF => ⟨_, rfl, iteN (by decide) ?_⟩⟩
    exact ⟨_, _, rfl, exBC.trans (exE.trans (Same.exd sF)), ⟨m, dkE.keep sF⟩, sF _ _ (exE l _ nl.1 nl.2 hlC)⟩
end
end K46
end
section
set_option Elab.async false
set_option linter.all false
set_option maxRecDepth 100000
set_option maxHeartbeats 4000000
namespace K46
open PySem L2 Kn
/-- a def that stands at the program's top -/
def DefAt (K : PySem.W.Frag) (x : Str) (st : Stmt) : Prop := ∃ (f : Addr) (fd : FuncData), PySem.W.nsIn K mainGlobals x = some (some (.ref f)) ∧ Fun K x x st f fd
theorem defAt_mk {K : PySem.W.Frag} {x : Str} {st : Stmt} {f : Addr} {oc : Value} {od an : Option Addr} {osl : Array (Option Value)} {kV doc pm cdv ct : Value} (a : PySem.W.nsIn K mainGlobals x = some (some (.ref f)))
    (l : K.lookup f = some ⟨oc, od, .func (PySem.W.fnOf x x (defArgs st) (defBody st) (defScope st) .none kV doc pm an cdv ct), osl⟩) (c : PySem.W.codeIn K cdv x = true) (k : PySem.W.keepIn K (.ref f) = true) : DefAt K x st := ⟨f, _, a, fun_mk l c k⟩
/-- a method of a class -/
def MethAt (K : PySem.W.Frag) (C : Addr) (m qual : Str) (st : Stmt) : Prop := ∃ (f : Addr) (fd : FuncData), Fun K m qual st f fd ∧ Meth K C m f
theorem methAt_mk {K : PySem.W.Frag} {C : Addr} {m qual : Str} {st : Stmt} {f : Addr} {oc : Value} {od an : Option Addr} {osl : Array (Option Value)} {kV doc pm cdv ct : Value} (a : PySem.W.findIn K (.ref C) m = some (some (.ref f)))
    (l : K.lookup f = some ⟨oc, od, .func (PySem.W.fnOf m qual (defArgs st) (defBody st) (defScope st) .none kV doc pm an cdv ct), osl⟩) (c : PySem.W.codeIn K cdv qual = true) (k : PySem.W.keepIn K (.ref f) = true) (n : PySem.W.isFn K (.ref f) = true) : MethAt K C m qual st := ⟨f, _, fun_mk l c k, a, n, k⟩
/-- the class Place -/
def PlaceAt (K : PySem.W.Frag) : Prop := ∃ C : Addr, PySem.W.nsIn K mainGlobals "Place" = some (some (.ref C)) ∧ Cls K C ∧ NA K C ∧ PySem.W.makesIn K C = true ∧ PySem.W.keepIn K (.ref C) = true ∧
  MethAt K C "__init__" "Place.__init__" (mtop 7 0) ∧ MethAt K C "knot" "Place.knot" (mtop 7 1) ∧ MethAt K C "go" "Place.go" (mtop 7 2) ∧ MethAt K C "down" "Place.down" (mtop 7 3)
theorem place_mk {K : PySem.W.Frag} {C : Addr} (a : PySem.W.nsIn K mainGlobals "Place" = some (some (.ref C))) (c1 : PySem.W.plainGet K C Str.empty = true) (c2 : PySem.W.hasDictIn K C = true) (c3 : PySem.W.plainOver K C = true) (c4 : PySem.W.findIn K (.ref C) "__setattr__" = some (some (.builtin "object.__setattr__")))
    (n1 : PySem.W.findIn K (.ref C) "line" = some none) (n2 : PySem.W.findIn K (.ref C) "path" = some none) (n3 : PySem.W.findIn K (.ref C) "anew" = some none) (n4 : PySem.W.findIn K (.ref C) "around" = some none) (mk : PySem.W.makesIn K C = true) (kp : PySem.W.keepIn K (.ref C) = true)
    (m1 : MethAt K C "__init__" "Place.__init__" (mtop 7 0)) (m2 : MethAt K C "knot" "Place.knot" (mtop 7 1)) (m3 : MethAt K C "go" "Place.go" (mtop 7 2)) (m4 : MethAt K C "down" "Place.down" (mtop 7 3)) : PlaceAt K :=
  ⟨C, a, ⟨c1, c2, c3, c4⟩, ⟨n1, n2, n3, n4⟩, mk, kp, m1, m2, m3, m4⟩
/-- the words with something more than parts -/
def HaveAt (K : PySem.W.Frag) : Prop := ∃ a : Addr, PySem.W.nsIn K mainGlobals "HAVE_MORE" = some (some (.ref a)) ∧ ∀ H, SqT K H a (HM.map V.str)
theorem have_mk {K : PySem.W.Frag} {a : Addr} {od : Option Addr} {its : Array Value} {n : Nat} {osl : Array (Option Value)} (h : PySem.W.nsIn K mainGlobals "HAVE_MORE" = some (some (.ref a))) (l : K.lookup a = some ⟨.type "tuple", od, .seq its n, osl⟩) (z : its.size ≤ sizeLine) (v : Vals (HM.map V.str) its.toList) : HaveAt K :=
  ⟨a, h, fun H => .inr ⟨_, its, n, l, rfl, rfl, z, v⟩⟩
theorem all_mk {l : PySem.W.OpenLaw} {w : World} {K : PySem.W.Frag} {h : Heap} {mg : Str → Option Value} {fa : Addr} (X : K.In h) (G : h.Ns mainGlobals mg) (hfa : mg "law" = some (.ref fa))
    (h_under : DefAt K "under" (top 4)) (h_many_shared : DefAt K "many_shared" (top 8)) (h_at_path : DefAt K "at_path" (top 12)) (h__law_deck : DefAt K "_law_deck" (top 14)) (h__law_take : DefAt K "_law_take" (top 15)) (h__law_stock : DefAt K "_law_stock" (top 16)) (h__law_ways : DefAt K "_law_ways" (top 17)) (h__law_with : DefAt K "_law_with" (top 18)) (h__law_name : DefAt K "_law_name" (top 19)) (h__law_kind : DefAt K "_law_kind" (top 20)) (h__law_leaf : DefAt K "_law_leaf" (top 21)) (h__law_claim : DefAt K "_law_claim" (top 22)) (h__law_bound : DefAt K "_law_bound" (top 23)) (h__law_bag : DefAt K "_law_bag" (top 24)) (h__law_at_row : DefAt K "_law_at_row" (top 25)) (h__law_ask : DefAt K "_law_ask" (top 26)) (h__law_parts : DefAt K "_law_parts" (top 27)) (h__law_knots : DefAt K "_law_knots" (top 30)) (h__law_question : DefAt K "_law_question" (top 31)) (h__law_walked : DefAt K "_law_walked" (top 32)) (h_law : DefAt K "law" (top 33)) (hP : PlaceAt K) (hH : HaveAt K)
    (z1 : PySem.W.nsIn K mainGlobals "len" = some none) (z2 : PySem.W.nsIn K mainGlobals "int" = some none) (z3 : PySem.W.nsIn K mainGlobals "tuple" = some none) (z4 : PySem.W.nsIn K mainGlobals "range" = some none) (z5 : PySem.W.nsIn K mainGlobals "sorted" = some none) (z6 : PySem.W.nsIn K mainGlobals "list" = some none) (z7 : PySem.W.nsIn K mainGlobals "min" = some none) (z8 : PySem.W.nsIn K mainGlobals "sum" = some none) (z9 : PySem.W.nsIn K mainGlobals "dict" = some none) (z10 : PySem.W.nsIn K mainGlobals "all" = some none) (z11 : PySem.W.nsIn K mainGlobals "enumerate" = some none) :
    ∃ fd : FuncData, (∀ (s : Shared) (v : Value), BindsTo s fd ⟨[v], []⟩ [("script", v)]) ∧ ∀ base : Heap, K.In base → base.Ns mainGlobals mg → FnOk l.prog w K mg base CX0 24 fa fd ["script"] (spLaw K) := by
  have T : Tx mg := ⟨PySem.W.mg_none_of X G z1, PySem.W.mg_none_of X G z2, PySem.W.mg_none_of X G z3, PySem.W.mg_none_of X G z4, PySem.W.mg_none_of X G z5, PySem.W.mg_none_of X G z6, PySem.W.mg_none_of X G z7, PySem.W.mg_none_of X G z8, PySem.W.mg_none_of X G z9, PySem.W.mg_none_of X G z10, PySem.W.mg_none_of X G z11⟩
  obtain ⟨f_under, fd_under, a_under, F_under⟩ := h_under
  have D_under : Df K mg "under" (top 4) f_under fd_under ["question"] := ⟨F_under, F_under.binds (ps := ["question"]) fun _ _ _ _ _ _ us hl => match us, hl with | [_], _ => rfl, PySem.W.mg_of X G a_under⟩
  obtain ⟨f_many_shared, fd_many_shared, a_many_shared, F_many_shared⟩ := h_many_shared
  have D_many_shared : Df K mg "many_shared" (top 8) f_many_shared fd_many_shared ["one", "other"] := ⟨F_many_shared, F_many_shared.binds (ps := ["one", "other"]) fun _ _ _ _ _ _ us hl => match us, hl with | [_, _], _ => rfl, PySem.W.mg_of X G a_many_shared⟩
  obtain ⟨f_at_path, fd_at_path, a_at_path, F_at_path⟩ := h_at_path
  have D_at_path : Df K mg "at_path" (top 12) f_at_path fd_at_path ["question", "path"] := ⟨F_at_path, F_at_path.binds (ps := ["question", "path"]) fun _ _ _ _ _ _ us hl => match us, hl with | [_, _], _ => rfl, PySem.W.mg_of X G a_at_path⟩
  obtain ⟨f__law_deck, fd__law_deck, a__law_deck, F__law_deck⟩ := h__law_deck
  have D__law_deck : Df K mg "_law_deck" (top 14) f__law_deck fd__law_deck ["script", "most"] := ⟨F__law_deck, F__law_deck.binds (ps := ["script", "most"]) fun _ _ _ _ _ _ us hl => match us, hl with | [_, _], _ => rfl, PySem.W.mg_of X G a__law_deck⟩
  obtain ⟨f__law_take, fd__law_take, a__law_take, F__law_take⟩ := h__law_take
  have D__law_take : Df K mg "_law_take" (top 15) f__law_take fd__law_take ["deck", "many"] := ⟨F__law_take, F__law_take.binds (ps := ["deck", "many"]) fun _ _ _ _ _ _ us hl => match us, hl with | [_, _], _ => rfl, PySem.W.mg_of X G a__law_take⟩
  obtain ⟨f__law_stock, fd__law_stock, a__law_stock, F__law_stock⟩ := h__law_stock
  have D__law_stock : Df K mg "_law_stock" (top 16) f__law_stock fd__law_stock [] := ⟨F__law_stock, F__law_stock.binds (ps := []) fun _ _ _ _ _ _ us hl => match us, hl with | [], _ => rfl, PySem.W.mg_of X G a__law_stock⟩
  obtain ⟨f__law_ways, fd__law_ways, a__law_ways, F__law_ways⟩ := h__law_ways
  have D__law_ways : Df K mg "_law_ways" (top 17) f__law_ways fd__law_ways ["env", "kind"] := ⟨F__law_ways, F__law_ways.binds (ps := ["env", "kind"]) fun _ _ _ _ _ _ us hl => match us, hl with | [_, _], _ => rfl, PySem.W.mg_of X G a__law_ways⟩
  obtain ⟨f__law_with, fd__law_with, a__law_with, F__law_with⟩ := h__law_with
  have D__law_with : Df K mg "_law_with" (top 18) f__law_with fd__law_with ["env", "name", "kind"] := ⟨F__law_with, F__law_with.binds (ps := ["env", "name", "kind"]) fun _ _ _ _ _ _ us hl => match us, hl with | [_, _, _], _ => rfl, PySem.W.mg_of X G a__law_with⟩
  obtain ⟨f__law_name, fd__law_name, a__law_name, F__law_name⟩ := h__law_name
  have D__law_name : Df K mg "_law_name" (top 19) f__law_name fd__law_name ["deck"] := ⟨F__law_name, F__law_name.binds (ps := ["deck"]) fun _ _ _ _ _ _ us hl => match us, hl with | [_], _ => rfl, PySem.W.mg_of X G a__law_name⟩
  obtain ⟨f__law_kind, fd__law_kind, a__law_kind, F__law_kind⟩ := h__law_kind
  have D__law_kind : Df K mg "_law_kind" (top 20) f__law_kind fd__law_kind ["deck"] := ⟨F__law_kind, F__law_kind.binds (ps := ["deck"]) fun _ _ _ _ _ _ us hl => match us, hl with | [_], _ => rfl, PySem.W.mg_of X G a__law_kind⟩
  obtain ⟨f__law_leaf, fd__law_leaf, a__law_leaf, F__law_leaf⟩ := h__law_leaf
  have D__law_leaf : Df K mg "_law_leaf" (top 21) f__law_leaf fd__law_leaf ["deck", "env", "kind"] := ⟨F__law_leaf, F__law_leaf.binds (ps := ["deck", "env", "kind"]) fun _ _ _ _ _ _ us hl => match us, hl with | [_, _, _], _ => rfl, PySem.W.mg_of X G a__law_leaf⟩
  obtain ⟨f__law_claim, fd__law_claim, a__law_claim, F__law_claim⟩ := h__law_claim
  have D__law_claim : Df K mg "_law_claim" (top 22) f__law_claim fd__law_claim ["deck", "env", "deep"] := ⟨F__law_claim, F__law_claim.binds (ps := ["deck", "env", "deep"]) fun _ _ _ _ _ _ us hl => match us, hl with | [_, _, _], _ => rfl, PySem.W.mg_of X G a__law_claim⟩
  obtain ⟨f__law_bound, fd__law_bound, a__law_bound, F__law_bound⟩ := h__law_bound
  have D__law_bound : Df K mg "_law_bound" (top 23) f__law_bound fd__law_bound ["deck", "env", "kind", "deep"] := ⟨F__law_bound, F__law_bound.binds (ps := ["deck", "env", "kind", "deep"]) fun _ _ _ _ _ _ us hl => match us, hl with | [_, _, _, _], _ => rfl, PySem.W.mg_of X G a__law_bound⟩
  obtain ⟨f__law_bag, fd__law_bag, a__law_bag, F__law_bag⟩ := h__law_bag
  have D__law_bag : Df K mg "_law_bag" (top 24) f__law_bag fd__law_bag ["deck", "env", "kind", "deep"] := ⟨F__law_bag, F__law_bag.binds (ps := ["deck", "env", "kind", "deep"]) fun _ _ _ _ _ _ us hl => match us, hl with | [_, _, _, _], _ => rfl, PySem.W.mg_of X G a__law_bag⟩
  obtain ⟨f__law_at_row, fd__law_at_row, a__law_at_row, F__law_at_row⟩ := h__law_at_row
  have D__law_at_row : Df K mg "_law_at_row" (top 25) f__law_at_row fd__law_at_row ["deck", "env", "kind", "deep"] := ⟨F__law_at_row, F__law_at_row.binds (ps := ["deck", "env", "kind", "deep"]) fun _ _ _ _ _ _ us hl => match us, hl with | [_, _, _, _], _ => rfl, PySem.W.mg_of X G a__law_at_row⟩
  obtain ⟨f__law_ask, fd__law_ask, a__law_ask, F__law_ask⟩ := h__law_ask
  have D__law_ask : Df K mg "_law_ask" (top 26) f__law_ask fd__law_ask ["deck", "env", "kind", "deep"] := ⟨F__law_ask, F__law_ask.binds (ps := ["deck", "env", "kind", "deep"]) fun _ _ _ _ _ _ us hl => match us, hl with | [_, _, _, _], _ => rfl, PySem.W.mg_of X G a__law_ask⟩
  obtain ⟨f__law_parts, fd__law_parts, a__law_parts, F__law_parts⟩ := h__law_parts
  have D__law_parts : Df K mg "_law_parts" (top 27) f__law_parts fd__law_parts ["question"] := ⟨F__law_parts, F__law_parts.binds (ps := ["question"]) fun _ _ _ _ _ _ us hl => match us, hl with | [_], _ => rfl, PySem.W.mg_of X G a__law_parts⟩
  obtain ⟨f__law_knots, fd__law_knots, a__law_knots, F__law_knots⟩ := h__law_knots
  have D__law_knots : Df K mg "_law_knots" (top 30) f__law_knots fd__law_knots ["question"] := ⟨F__law_knots, F__law_knots.binds (ps := ["question"]) fun _ _ _ _ _ _ us hl => match us, hl with | [_], _ => rfl, PySem.W.mg_of X G a__law_knots⟩
  obtain ⟨f__law_question, fd__law_question, a__law_question, F__law_question⟩ := h__law_question
  have D__law_question : Df K mg "_law_question" (top 31) f__law_question fd__law_question ["deck", "env", "kind", "deep", "limit"] := ⟨F__law_question, F__law_question.binds (ps := ["deck", "env", "kind", "deep", "limit"]) fun _ _ _ _ _ _ us hl => match us, hl with | [_, _, _, _, _], _ => rfl, PySem.W.mg_of X G a__law_question⟩
  obtain ⟨f__law_walked, fd__law_walked, a__law_walked, F__law_walked⟩ := h__law_walked
  have D__law_walked : Df K mg "_law_walked" (top 32) f__law_walked fd__law_walked ["question", "here", "path", "cell"] := ⟨F__law_walked, F__law_walked.binds (ps := ["question", "here", "path", "cell"]) fun _ _ _ _ _ _ us hl => match us, hl with | [_, _, _, _], _ => rfl, PySem.W.mg_of X G a__law_walked⟩
  obtain ⟨C, aC, cC, nC, mkC, kpC, ⟨f_init, fd_init, F_init, M_init⟩, ⟨f_knot, fd_knot, F_knot, M_knot⟩, ⟨f_go, fd_go, F_go, M_go⟩, ⟨f_down, fd_down, F_down, M_down⟩⟩ := hP
  obtain ⟨aH, a_HM, hHM⟩ := hH
  have D_init : Mf K C "__init__" "Place.__init__" (mtop 7 0) f_init fd_init ["self", "question"] := ⟨F_init, F_init.binds (ps := ["self", "question"]) fun _ _ _ _ _ _ us hl => match us, hl with | [_, _], _ => rfl, M_init⟩
  have D_knot : Mf K C "knot" "Place.knot" (mtop 7 1) f_knot fd_knot ["self"] := ⟨F_knot, F_knot.binds (ps := ["self"]) fun _ _ _ _ _ _ us hl => match us, hl with | [_], _ => rfl, M_knot⟩
  have D_go : Mf K C "go" "Place.go" (mtop 7 2) f_go fd_go ["self", "path"] := ⟨F_go, F_go.binds (ps := ["self", "path"]) fun _ _ _ _ _ _ us hl => match us, hl with | [_, _], _ => rfl, M_go⟩
  have D_down : Mf K C "down" "Place.down" (mtop 7 3) f_down fd_down ["self", "step"] := ⟨F_down, F_down.binds (ps := ["self", "step"]) fun _ _ _ _ _ _ us hl => match us, hl with | [_, _], _ => rfl, M_down⟩
  obtain ⟨f_law, fd_law, a_law, F_law⟩ := h_law
  have e := hfa.symm.trans (PySem.W.mg_of X G a_law)
  cases e
  have D_law : Df K mg "law" (top 33) fa fd_law ["script"] := ⟨F_law, F_law.binds (ps := ["script"]) fun _ _ _ _ _ _ us hl => match us, hl with | [_], _ => rfl, hfa⟩
  refine ⟨fd_law, ?_, fun base _ _ => ?_⟩
  · obtain ⟨oc, od, kV, doc, pm, an, cdv, ct, osl, rfl, lk, hcd⟩ := F_law.ex
    exact fun s v => .of_eq rfl
  have g_take := ok_take (P := l.prog) (w := w) (base := base) T D__law_take
  have g_deck := ok_deck (P := l.prog) (w := w) (base := base) T D__law_deck
  have g_stock := ok_stock (P := l.prog) (w := w) (base := base) T D__law_stock
  have g_with := ok_with (P := l.prog) (w := w) (base := base) T D__law_with
  have g_name := ok_name T D__law_name D__law_take g_take
  have g_kind := ok_kind T D__law_kind D__law_take g_take D__law_stock g_stock
  have g_ways := ok_ways (P := l.prog) (w := w) (base := base) T D__law_ways
  have g_leaf := leaf_all T D__law_leaf D__law_take g_take D__law_stock g_stock D__law_ways g_ways 3 (by decide)
  have g_ask := ask_all T D__law_ask D__law_at_row D__law_bound D__law_bag D__law_claim D__law_leaf g_leaf D__law_take g_take D__law_name g_name D__law_kind g_kind D__law_with g_with 4 (by decide)
  have g_parts := ok_parts (P := l.prog) (w := w) (base := base) T D__law_parts
  have g_knots := knots_all T D__law_knots D__law_parts g_parts 18
  have g_question := ok_question T D__law_question D__law_ask g_ask D__law_knots g_knots D__law_leaf g_leaf
  have g_under := ok_under (P := l.prog) (w := w) (base := base) T (PySem.W.mg_of X G a_HM) hHM D_under
  have g_init := ok_init (P := l.prog) (w := w) (mg := mg) (base := base) T cC nC D_init
  have g_knot := ok_knot (P := l.prog) (w := w) (mg := mg) (base := base) T cC nC D_knot
  have g_down := ok_down T cC nC D_down D_under g_under
  have g_ms := ok_ms (P := l.prog) (w := w) (base := base) T D_many_shared
  have g_go := ok_go T cC nC D_go D_many_shared g_ms D_down g_down
  have g_at := ok_at T cC nC ⟨mkC, M_init.at_, M_init.fn, kpC⟩ (PySem.W.mg_of X G aC) D_at_path D_init g_init D_knot g_knot D_go g_go
  have g_walked := walked_all T D__law_walked D__law_parts g_parts D_at_path g_at 18 (by decide)
  exact ok_law T D_law D__law_deck g_deck D__law_stock g_stock D__law_kind g_kind D__law_question g_question D__law_walked g_walked D__law_take g_take
theorem walk {l : PySem.W.OpenLaw} {q : Program} {loose : List Str} {XP : (Str → Option Value) → Heap → Prop} {YP : World → Heap → Prop} {d : DefRec} {K : Params → PySem.W.Frag} (hn : l.most = some 63) (hdf : d.params.defaults = [])
    (hY : ∀ (w : World) (h : Heap), YP w h → (K w.params).In h)
    (F : ∀ (w : World) (mg : Str → Option Value) (fa : Addr) (h : Heap), (K w.params).In h → h.Ns mainGlobals mg → mg d.name = some (.ref fa) →
      ∃ fd : FuncData, (∀ (s : Shared) (u : Value), BindsTo s fd ⟨[u], []⟩ [("script", u)]) ∧ ∀ base : Heap, (K w.params).In base → base.Ns mainGlobals mg → FnOk l.prog w (K w.params) mg base CX0 24 fa fd ["script"] (spLaw (K w.params))) :
    PySem.W.WalkO q loose XP YP l.row.toRowW d [] (fun f vs => PySem.call f vs) :=
  L2.walk_of (n := 63) (k := 24) (x := "script") (CX := fun _ => CX0) (sp := fun w => spLaw (K w.params)) hn (by decide) hdf ⟨rfl, by decide, by decide⟩ hY F (fun _ _ a ns hl _ hS => ⟨a, ns, rfl, hS, hl, fun _ => rfl⟩) fun _ _ _ _ _ z => z
end K46
open PySem PySem.W PyProof.Rows
set_option maxRecDepth 100000 in
set_option maxHeartbeats 0 in
theorem PySem.Challenge.cw_keptnest_k46_at_path_holds : PySem.Challenge.rw_keptnest_k46_at_path.Holds := by
  w_on; o_law; k_head; (case hw => w_witness2)
  k_fill
  refine K46.walk (l := PySem.Challenge.rw_keptnest_k46_at_path) rfl rfl (fun w h Y => PySem.W.km_in_of Y) ?F
  case F =>
    intro w mg fa h KX G hmg
    refine' K46.all_mk KX G hmg ?h_under ?h_many_shared ?h_at_path ?h__law_deck ?h__law_take ?h__law_stock ?h__law_ways ?h__law_with ?h__law_name ?h__law_kind ?h__law_leaf ?h__law_claim ?h__law_bound ?h__law_bag ?h__law_at_row ?h__law_ask ?h__law_parts ?h__law_knots ?h__law_question ?h__law_walked ?h_law ?hP ?hH ?z1 ?z2 ?z3 ?z4 ?z5 ?z6 ?z7 ?z8 ?z9 ?z10 ?z11
    case h_under => refine' K46.defAt_mk ?a ?l ?c ?k; (case a => k_is); (case l => k_is); (case c => k_is); (case k => k_is)
    case h_many_shared => refine' K46.defAt_mk ?a ?l ?c ?k; (case a => k_is); (case l => k_is); (case c => k_is); (case k => k_is)
    case h_at_path => refine' K46.defAt_mk ?a ?l ?c ?k; (case a => k_is); (case l => k_is); (case c => k_is); (case k => k_is)
    case h__law_deck => refine' K46.defAt_mk ?a ?l ?c ?k; (case a => k_is); (case l => k_is); (case c => k_is); (case k => k_is)
    case h__law_take => refine' K46.defAt_mk ?a ?l ?c ?k; (case a => k_is); (case l => k_is); (case c => k_is); (case k => k_is)
    case h__law_stock => refine' K46.defAt_mk ?a ?l ?c ?k; (case a => k_is); (case l => k_is); (case c => k_is); (case k => k_is)
    case h__law_ways => refine' K46.defAt_mk ?a ?l ?c ?k; (case a => k_is); (case l => k_is); (case c => k_is); (case k => k_is)
    case h__law_with => refine' K46.defAt_mk ?a ?l ?c ?k; (case a => k_is); (case l => k_is); (case c => k_is); (case k => k_is)
    case h__law_name => refine' K46.defAt_mk ?a ?l ?c ?k; (case a => k_is); (case l => k_is); (case c => k_is); (case k => k_is)
    case h__law_kind => refine' K46.defAt_mk ?a ?l ?c ?k; (case a => k_is); (case l => k_is); (case c => k_is); (case k => k_is)
    case h__law_leaf => refine' K46.defAt_mk ?a ?l ?c ?k; (case a => k_is); (case l => k_is); (case c => k_is); (case k => k_is)
    case h__law_claim => refine' K46.defAt_mk ?a ?l ?c ?k; (case a => k_is); (case l => k_is); (case c => k_is); (case k => k_is)
    case h__law_bound => refine' K46.defAt_mk ?a ?l ?c ?k; (case a => k_is); (case l => k_is); (case c => k_is); (case k => k_is)
    case h__law_bag => refine' K46.defAt_mk ?a ?l ?c ?k; (case a => k_is); (case l => k_is); (case c => k_is); (case k => k_is)
    case h__law_at_row => refine' K46.defAt_mk ?a ?l ?c ?k; (case a => k_is); (case l => k_is); (case c => k_is); (case k => k_is)
    case h__law_ask => refine' K46.defAt_mk ?a ?l ?c ?k; (case a => k_is); (case l => k_is); (case c => k_is); (case k => k_is)
    case h__law_parts => refine' K46.defAt_mk ?a ?l ?c ?k; (case a => k_is); (case l => k_is); (case c => k_is); (case k => k_is)
    case h__law_knots => refine' K46.defAt_mk ?a ?l ?c ?k; (case a => k_is); (case l => k_is); (case c => k_is); (case k => k_is)
    case h__law_question => refine' K46.defAt_mk ?a ?l ?c ?k; (case a => k_is); (case l => k_is); (case c => k_is); (case k => k_is)
    case h__law_walked => refine' K46.defAt_mk ?a ?l ?c ?k; (case a => k_is); (case l => k_is); (case c => k_is); (case k => k_is)
    case h_law => refine' K46.defAt_mk ?a ?l ?c ?k; (case a => k_is); (case l => k_is); (case c => k_is); (case k => k_is)
    case hP =>
      refine' K46.place_mk ?a ?c1 ?c2 ?c3 ?c4 ?n1 ?n2 ?n3 ?n4 ?mk ?kp ?m1 ?m2 ?m3 ?m4
      (case a => k_is); (case c1 => k_is); (case c2 => k_is); (case c3 => k_is); (case c4 => k_is); (case n1 => k_is); (case n2 => k_is); (case n3 => k_is); (case n4 => k_is); (case mk => k_is); (case kp => k_is)
      case m1 => refine' K46.methAt_mk ?a ?l ?c ?k ?n; (case a => k_is); (case l => k_is); (case c => k_is); (case k => k_is); (case n => k_is)
      case m2 => refine' K46.methAt_mk ?a ?l ?c ?k ?n; (case a => k_is); (case l => k_is); (case c => k_is); (case k => k_is); (case n => k_is)
      case m3 => refine' K46.methAt_mk ?a ?l ?c ?k ?n; (case a => k_is); (case l => k_is); (case c => k_is); (case k => k_is); (case n => k_is)
      case m4 => refine' K46.methAt_mk ?a ?l ?c ?k ?n; (case a => k_is); (case l => k_is); (case c => k_is); (case k => k_is); (case n => k_is)
    case hH =>
      refine' K46.have_mk ?a ?l ?z ?v
      (case a => k_is); (case l => k_is)
      case z => show 9 ≤ sizeLine; decide
      case v => exact .cons ⟨_, rfl⟩ (.cons ⟨_, rfl⟩ (.cons ⟨_, rfl⟩ (.cons ⟨_, rfl⟩ (.cons ⟨_, rfl⟩ (.cons ⟨_, rfl⟩ (.cons ⟨_, rfl⟩ (.cons ⟨_, rfl⟩ (.cons ⟨_, rfl⟩ .nil))))))))
    (case z1 => k_is); (case z2 => k_is); (case z3 => k_is); (case z4 => k_is); (case z5 => k_is); (case z6 => k_is); (case z7 => k_is); (case z8 => k_is); (case z9 => k_is); (case z10 => k_is); (case z11 => k_is)
#print axioms PySem.Challenge.cw_keptnest_k46_at_path_holds
end
