import PyProof.Rows.All
import Wide.All
import OpenK.AllK
import Wide.FinOn
import Lean
import PyProof.EqAt
import PyProof.EqKinds
import PyProof.TupleCall
import PyProof.DictWalks
import PyProof.DictKeyH
import PySem.Str
import PyProof.NeKinds
import KE.KRevSl
import KE.KDictSum
import PyProof.Rows.SortStr
import PyProof.IsiPairs
import PyProof.IsiHeapPairs
import PyProof.ZipIter
import KE.KSortAsk
import KE.KSortTup
import PyProof.EnumFor
import PyProof.EnumMake
import PyProof.StrWalks
import PyProof.Rows.EnumRows
import PyProof.Rows.FStr
import PyProof.Rows.SetFrom
import PyProof.CallStr
import PyProof.FitsBits
import KE.KUnpack
import KE.KTupSum
import KE.KDictOf
import PyProof.AttrMissHeap
import KE.KItemsList
import KE.KPairComp
import PyProof.Draws
import PyProof.ListRange
import PySem.Challenge.RW_keptnest_k14_under_free_tables
set_option Elab.async false
set_option linter.all false
set_option maxRecDepth 100000
set_option maxHeartbeats 4000000
section
-- CHANGE: your row's module here, as the last of these rows
namespace L2
open PySem PySem.Spec PyProof.Rows
noncomputable abbrev Key := Sum Int Str
noncomputable def keyIs : Key -> Value -> Bool
  | .inl k, v => Value.isInt k v
  | .inr x, v => Value.isStrOf x v
noncomputable def keyH (w : World) : Key -> Int
  | .inl k => hashInt k
  | .inr x => hashStr w x
theorem keyIs_shape : ∀ {k : Key} {v : Value}, keyIs k v = true -> (∃ i t, k = Sum.inl i /\ v = Value.int i t) \/ (∃ x t, k = Sum.inr x /\ v = Value.str x t)
  | .inl i, v, h => by
    obtain ⟨t, e⟩ := Value.isInt_shape (k := i) (v := v) h
    exact .inl ⟨i, t, rfl, e⟩
  | .inr x, v, h => by
    obtain ⟨t, e⟩ := Value.isStrOf_shape (x := x) (v := v) h
    exact .inr ⟨x, t, rfl, e⟩
theorem keyIs_int (i : Int) (t : Tok) : keyIs (.inl i) (.int i t) = true := by simp [keyIs, Value.isInt]
theorem keyIs_str (x : Str) (t : Tok) : keyIs (.inr x) (.str x t) = true := by simp [keyIs, Value.isStrOf]
theorem key_ll (a b : Int) : decide ((Sum.inl a : Key) = Sum.inl b) = (a == b) := by
  by_cases e : a = b
  · subst e; simp
  · have h : ¬ (Sum.inl a : Key) = Sum.inl b := fun q => e (Sum.inl.inj q)
    rw [decide_eq_false h]
    exact (beq_eq_false_iff_ne.mpr e).symm
theorem key_rr (a b : Str) : decide ((Sum.inr a : Key) = Sum.inr b) = decide (a = b) := by
  by_cases e : a = b
  · subst e; simp
  · have h : ¬ (Sum.inr a : Key) = Sum.inr b := fun q => e (Sum.inr.inj q)
    rw [decide_eq_false h, decide_eq_false e]
theorem key_lr (a : Int) (b : Str) : decide ((Sum.inl a : Key) = Sum.inr b) = false := decide_eq_false (fun q => nomatch q)
theorem key_rl (a : Str) (b : Int) : decide ((Sum.inr a : Key) = Sum.inl b) = false := decide_eq_false (fun q => nomatch q)
noncomputable def mixKind (prog : Program) (w : World) : PySem.KeyKind prog w Key where
  is := keyIs
  hash := keyH w
  inj := fun v a b ha hb => by
    rcases keyIs_shape ha with ⟨i, t, rfl, rfl⟩ | ⟨x, t, rfl, rfl⟩
    · rcases keyIs_shape hb with ⟨j, u, rfl, e⟩ | ⟨y, u, rfl, e⟩
      · injection e with e1 _; rw [e1]
      · exact nomatch e
    · rcases keyIs_shape hb with ⟨j, u, rfl, e⟩ | ⟨y, u, rfl, e⟩
      · exact nomatch e
      · injection e with e1 _; rw [e1]
  byValue := fun k v h => by
    rcases keyIs_shape h with ⟨i, t, rfl, rfl⟩ | ⟨x, t, rfl, rfl⟩ <;> rfl
  pyHash := fun hv h => by
    rcases keyIs_shape hv with ⟨i, t, rfl, rfl⟩ | ⟨x, t, rfl, rfl⟩
    · exact wpAny_pyHash_int h
    · exact wpAny_pyHash_str h
  eqBool := fun hu hv h => by
    rcases keyIs_shape hu with ⟨i, t, rfl, rfl⟩ | ⟨x, t, rfl, rfl⟩
    · rcases keyIs_shape hv with ⟨j, u, rfl, rfl⟩ | ⟨y, u, rfl, rfl⟩
      · rw [key_ll] at h; exact wpAny_eqBool_int h
      · rw [key_lr] at h; exact SeqAt.EqAt.int_str i t y u _ _ _ _ h
    · rcases keyIs_shape hv with ⟨j, u, rfl, rfl⟩ | ⟨y, u, rfl, rfl⟩
      · rw [key_rl] at h; exact SeqAt.EqAt.str_int x t j u _ _ _ _ h
      · rw [key_rr] at h; exact wpAny_eqBool_str h
  «strs» := fun k x t v h => by
    rcases keyIs_shape h with ⟨i, u, rfl, e⟩ | ⟨y, u, rfl, e⟩
    · exact nomatch e
    · injection e with e1 _
      subst e1
      cases v <;> rfl
theorem mixKind_int (prog : Program) (w : World) (i : Int) (t : Tok) : (mixKind prog w).is (.inl i) (.int i t) = true := keyIs_int i t
theorem mixKind_str (prog : Program) (w : World) (x : Str) (t : Tok) : (mixKind prog w).is (.inr x) (.str x t) = true := keyIs_str x t
end L2
namespace L2
open PySem PySem.Spec PyProof.Rows
inductive V where
  | non | bl (b : Bool) | int (i : Int) | str (x : Str) | byt (b : Array UInt8) | flt (b : UInt64) | ref (a : Addr) | ty (n : String)
  deriving DecidableEq
noncomputable def RelV : V -> Value -> Prop
  | .non, u => u = Value.none
  | .bl b, u => u = Value.bool b
  | .int i, u => ∃ t, u = Value.int i t
  | .str x, u => ∃ t, u = Value.str x t
  | .byt b, u => ∃ t, u = Value.bytes b t
  | .flt b, u => ∃ t, u = Value.float b t
  | .ref a, u => u = Value.ref a
  | .ty n, u => u = Value.type n
noncomputable abbrev Vals : List V -> List Value -> Prop := Paired RelV
theorem Vals.length {xs : List V} {us : List Value} (r : Vals xs us) : xs.length = us.length := Paired.length r
theorem Vals.get : ∀ {xs : List V} {us : List Value} {i : Nat} {x : V}, Vals xs us -> xs[i]? = some x -> ∃ u, us[i]? = some u /\ RelV x u
  | _, _, _, _, .nil, e => by simp at e
  | _, _, 0, _, .cons r _, e => by simp at e; subst e; exact ⟨_, rfl, r⟩
  | _, _, i + 1, x, .cons _ t, e => by
    obtain ⟨u, h1, h2⟩ := Vals.get (i := i) (x := x) t (by simpa using e)
    exact ⟨u, by simpa using h1, h2⟩
theorem Vals.set {x : V} {u : Value} (r : RelV x u) : ∀ {xs : List V} {us : List Value} (i : Nat), Vals xs us -> Vals (xs.set i x) (us.set i u)
  | _, _, _, .nil => .nil
  | _, _, 0, .cons _ t => .cons r t
  | _, _, i + 1, .cons q t => .cons q (Vals.set r i t)
theorem Vals.append {xs ys : List V} {us ws : List Value} (h : Vals xs us) (s : Vals ys ws) : Vals (xs ++ ys) (us ++ ws) := by
  induction h with
  | nil => exact s
  | cons r t ih => exact .cons r ih
theorem Vals.take : ∀ {xs : List V} {us : List Value} (n : Nat), Vals xs us -> Vals (xs.take n) (us.take n)
  | _, _, 0, _ => .nil
  | _, _, _ + 1, .nil => .nil
  | _, _, n + 1, .cons r t => .cons r (Vals.take n t)
theorem Vals.drop : ∀ {xs : List V} {us : List Value} (n : Nat), Vals xs us -> Vals (xs.drop n) (us.drop n)
  | _, _, 0, r => r
  | _, _, _ + 1, .nil => .nil
  | _, _, n + 1, .cons _ t => Vals.drop n t
noncomputable def RelO : Option V -> Option Value -> Prop
  | some v, some u => RelV v u
  | none, none => True
  | _, _ => False
noncomputable def KV {κ : Type} : List (κ × V) -> List (κ × Value) -> Prop := Paired fun (p : κ × V) (q : κ × Value) => p.1 = q.1 /\ RelV p.2 q.2
noncomputable def kV : Key -> V
  | .inl i => .int i
  | .inr x => .str x
inductive HO where
    | lst (xs : List V)
    | tup (xs : List V)
    | dK (kvs : List (Key × V)) | dT (kvs : List (List Key × V))
    | set (S : Int -> Bool) (n : Nat)
    | ins (C dx : Addr) (fs : List (Str × V))
    | own (x : Addr)
    | xd (fs : List (Str × V))
    | met (f x : Addr)
    | rng (lo hi : Int)
    | frz (o : Obj) (u : HO)
    | tbl (ps : Array Value)
    | ext (φ : Heap -> Prop)
noncomputable abbrev Hp := Addr -> Option HO
noncomputable def upd (H : Hp) (a : Addr) (o : HO) : Hp := fun b => if b = a then some o else H b
theorem upd_same {H : Hp} {a : Addr} {o : HO} : upd H a o a = some o := by unfold upd; rw [if_pos rfl]
theorem upd_ne {H : Hp} {a b : Addr} {o : HO} (h : b ≠ a) : upd H a o b = H b := by unfold upd; rw [if_neg h]
theorem ne_of {H : Hp} {a b : Addr} {o u : HO} (h : H a = some o) (h' : H b = some u) (d : o ≠ u) : a ≠ b := by
  intro e; subst e; rw [h] at h'; exact d (Option.some.inj h')
theorem ne_of_none {H : Hp} {a b : Addr} {o : HO} (h : H a = some o) (h' : H b = none) : a ≠ b := by
  intro e; subst e; rw [h] at h'; cases h'
noncomputable def TupD (h : Heap) (a : Addr) (n : Nat) : Prop := n <= sizeLine /\ ∀ o, h.get? a = some o -> o.dict = none
theorem tupD_new {h : Heap} {its : Array Value} {k n : Nat} (z : n <= sizeLine) : TupD (h.push { cls := .type "tuple", data := .seq its k }) h.objs.size n :=
  ⟨z, fun o q => by rw [Heap.get?_push_size _ rfl] at q; cases q; rfl⟩
theorem tupD_at {h : Heap} {a : Addr} {o : Obj} {n : Nat} (z : n <= sizeLine) (e : h.get? a = some o) (d : o.dict = none) : TupD h a n :=
  ⟨z, fun o' q => by rw [e] at q; cases q; exact d⟩
section
variable (P : Program) (w : World)
noncomputable def ObjOk (H : Hp) (h : Heap) (a : Addr) : HO -> Prop
  | .lst xs => xs.length <= sizeLine /\ ∃ (its : List Value) (n : Nat), Vals xs its /\ h.get? a = some { cls := .type "list", data := .seq its.toArray n }
  | .tup xs => TupD h a xs.length /\ ∃ its : List Value, Vals xs its /\ IsTup h a its.toArray
  | .dK kvs => kvs.length <= sizeLine /\ (a == sysModules) = false /\ ∃ vs, KV kvs vs /\ h.DictOf (mixKind P w) a vs
  | .dT kvs => kvs.length <= sizeLine /\ (a == sysModules) = false /\ ∃ xs : List (List Key × Addr × Value),
      Paired (fun (p : List Key × V) (q : List Key × Addr × Value) => p.1 = q.1 /\ H q.2.1 = some (.tup (p.1.map kV)) /\ RelV p.2 q.2.2) kvs xs /\
      ∃ o es ep, h.get? a = some o /\ o.ExactDict /\ o.data = .dict es ep /\ es.toList = xs.map (entryOfKey (tupleKind (mixKind P w))) /\ (xs.map (·.1)).Nodup
  | .set S n => h.SetOf (intKind P w) a S n
  | .ins C dx fs => H dx = some (.own a) /\ fs.length <= 1000 /\ dx ≠ a /\ h.get? a = some (PySem.W.instObj C dx) /\
      ∃ mA, h.Ns1 dx mA /\ (∀ f, RelO (fs.lookup f) (mA f)) /\ PySem.Within mA (fs.map (·.1))
  | .own _ => ∃ o, h.get? a = some o
  | .xd fs => ∃ mA, h.Ns1 a mA /\ ∀ f, RelO (fs.lookup f) (mA f)
  | .rng lo hi => ∃ t u v, h.get? a = some { cls := .type "range", data := .fields #[.int lo t, .int hi u, .int 1 v] }
  | .frz o u => h.get? a = some o /\ ObjOk H h a u
  | .tbl ps => h.get? a = some { cls := .none, data := .fields ps }
  | .met f x => h.get? a = some (PySem.W.methodObj (.ref f) (.ref x))
  | .ext φ => φ h /\ (∃ o, h.get? a = some o) /\ ∀ h1 h2 : Heap, φ h1 -> (∀ o, h1.get? a = some o -> h2.get? a = some o) -> φ h2
noncomputable def HOk (H : Hp) (h : Heap) : Prop := ∀ a o, H a = some o -> ObjOk P w H h a o
end
section
variable {P : Program} {w : World} {H H' : Hp} {h h' : Heap} {a : Addr} {o : HO}
theorem ObjOk.lt (x : ObjOk P w H h a o) : a < h.objs.size := by
  cases o with
  | lst xs => obtain ⟨_, _, _, _, e⟩ := x; exact Heap.lt_size e
  | tup xs => obtain ⟨_, _, _, p⟩ := x; exact p.lt
  | dK kvs => obtain ⟨_, _, _, _, o, _, _, e, _⟩ := x; exact Heap.lt_size e
  | dT kvs => obtain ⟨_, _, _, _, o, _, _, e, _⟩ := x; exact Heap.lt_size e
  | set S n => obtain ⟨o, _, _, _, e, _⟩ := x; exact Heap.lt_size e
  | ins C dx fs => obtain ⟨_, _, _, e, _⟩ := x; exact Heap.lt_size e
  | own y => obtain ⟨_, e⟩ := x; exact Heap.lt_size e
  | xd fs => obtain ⟨_, ⟨_, _, _, e, _⟩, _⟩ := x; exact Heap.lt_size e
  | rng lo hi => obtain ⟨_, _, _, e⟩ := x; exact Heap.lt_size e
  | frz ob u => obtain ⟨e, _⟩ := x; exact Heap.lt_size e
  | tbl ps => exact Heap.lt_size (show h.get? a = some _ from x)
  | met f y => exact Heap.lt_size (show h.get? a = some _ from x)
  | ext φ => obtain ⟨_, ⟨_, e⟩, _⟩ := x; exact Heap.lt_size e
theorem Paired.mapP {α β : Type} {F G : α -> β -> Prop} : ∀ {l₁ : List α} {l₂ : List β}, Paired F l₁ l₂ -> (∀ a b, F a b -> G a b) -> Paired G l₁ l₂
  | _, _, .nil, _ => .nil
  | _, _, .cons r t, f => .cons (f _ _ r) (Paired.mapP t f)
theorem ObjOk.stay (x : ObjOk P w H h a o) (k : ∀ b u, (b = a \/ H b = some (.own a)) -> h.get? b = some u -> h'.get? b = some u)
    (ho : ∀ b, H b = some (.own a) -> H' b = some (.own a)) (ht : ∀ b xs, H b = some (.tup xs) -> H' b = some (.tup xs)) : ObjOk P w H' h' a o := by
  induction o with
  | lst xs => obtain ⟨z, its, n, r, e⟩ := x; exact ⟨z, its, n, r, k _ _ (.inl rfl) e⟩
  | tup xs => obtain ⟨z, its, r, ob, e, c⟩ := x; exact ⟨tupD_at z.1 (k _ _ (.inl rfl) e) (z.2 _ e), its, r, ob, k _ _ (.inl rfl) e, c⟩
  | dK kvs => obtain ⟨z, y, vs, r, ob, es, ep, e, c⟩ := x; exact ⟨z, y, vs, r, ob, es, ep, k _ _ (.inl rfl) e, c⟩
  | dT kvs =>
    obtain ⟨z, y, xs, r, ob, es, ep, e, c⟩ := x
    exact ⟨z, y, xs, Paired.mapP r fun p q z => ⟨z.1, ht _ _ z.2.1, z.2.2⟩, ob, es, ep, k _ _ (.inl rfl) e, c⟩
  | set S n => obtain ⟨ob, es, ep, t, e, c⟩ := x; exact ⟨ob, es, ep, t, k _ _ (.inl rfl) e, c⟩
  | ins C dx fs =>
    obtain ⟨d, z, ne, e, mA, ⟨od, es, ep, e2, c⟩, r⟩ := x
    exact ⟨ho _ d, z, ne, k _ _ (.inl rfl) e, mA, ⟨od, es, ep, k _ _ (.inr d) e2, c⟩, r⟩
  | own y => obtain ⟨ob, e⟩ := x; exact ⟨ob, k _ _ (.inl rfl) e⟩
  | xd fs => obtain ⟨mA, ⟨od, es, ep, e, c⟩, r⟩ := x; exact ⟨mA, ⟨od, es, ep, k _ _ (.inl rfl) e, c⟩, r⟩
  | rng lo hi => obtain ⟨t, u, v, e⟩ := x; exact ⟨t, u, v, k _ _ (.inl rfl) e⟩
  | frz ob u ih => obtain ⟨e, q⟩ := x; exact ⟨k _ _ (.inl rfl) e, ih q⟩
  | tbl ps =>
    have e : h.get? a = some { cls := .none, data := .fields ps } := x
    show h'.get? a = some { cls := .none, data := .fields ps }
    exact k a _ (.inl rfl) e
  | met f y =>
    have e : h.get? a = some (PySem.W.methodObj (.ref f) (.ref y)) := x
    show h'.get? a = some (PySem.W.methodObj (.ref f) (.ref y))
    exact k a _ (.inl rfl) e
  | ext φ => obtain ⟨p, ⟨o, e⟩, st⟩ := x; exact ⟨st _ _ p fun o q => k _ _ (.inl rfl) q, ⟨o, k _ _ (.inl rfl) e⟩, st⟩
theorem HOk.lt (x : HOk P w H h) (e : H a = some o) : a < h.objs.size := (x a o e).lt
theorem HOk.fresh (x : HOk P w H h) (e : h.objs.size <= a) : H a = none := by
  cases q : H a with
  | none => rfl
  | some u => exact absurd (Nat.lt_of_lt_of_le (x.lt q) e) (Nat.lt_irrefl _)
theorem HOk.kept (x : HOk P w H h) (k : ∀ b u, h.get? b = some u -> h'.get? b = some u) : HOk P w H h' := fun a o e =>
  (x a o e).stay (fun b u _ q => k b u q) (fun _ q => q) fun _ _ q => q
theorem HOk.laid (x : HOk P w H h) (k : ∀ b u, h.get? b = some u -> h'.get? b = some u) (hp : h.objs.size <= a) (new : ObjOk P w (upd H a o) h' a o) : HOk P w (upd H a o) h' := fun b u e => by
  have hn := x.fresh hp
  by_cases hb : b = a
  · subst hb; rw [upd_same] at e; cases e; exact new
  · rw [upd_ne hb] at e
    exact (x b u e).stay (fun c v _ q => k c v q) (fun c q => by rw [upd_ne (ne_of_none q hn)]; exact q) fun c xs q => by rw [upd_ne (ne_of_none q hn)]; exact q
end
noncomputable def Rd (H : Hp) (a : Addr) (u : HO) : Prop := H a = some u \/ ∃ o, H a = some (.frz o u)
theorem Rd.ok {P : Program} {w : World} {H : Hp} {h : Heap} {a : Addr} {u : HO} (r : Rd H a u) (x : HOk P w H h) : ObjOk P w H h a u := by
  rcases r with r | ⟨o, r⟩
  · exact x a u r
  · obtain ⟨_, q⟩ := x a _ r
    exact q
noncomputable def Mut : Option HO -> Prop
  | some (.lst _) => True
  | some (.dK _) => True
  | some (.dT _) => True
  | some (.set _ _) => True
  | some (.ins _ _ _) => True
  | some (.ext _) => True
  | _ => False
section
variable {P : Program} {w : World} {H : Hp} {h h' : Heap} {x e : Addr} {o' : HO}
theorem HOk.write (ok : HOk P w H h) (mu : Mut (H x)) (he : e = x \/ H e = some (.own x)) (k : ∀ b u, b ≠ e -> h.get? b = some u -> h'.get? b = some u) (heo : ∃ u, h'.get? e = some u)
    (new : ObjOk P w (upd H x o') h' x o') : HOk P w (upd H x o') h' := fun b u q => by
  have nown : ∀ c y, H c = some (.own y) -> c ≠ x := fun c y r z => by subst z; rw [r] at mu; exact mu
  have ntup : ∀ c xs, H c = some (.tup xs) -> c ≠ x := fun c xs r z => by subst z; rw [r] at mu; exact mu
  by_cases hb : b = x
  · subst hb; rw [upd_same] at q; cases q; exact new
  · rw [upd_ne hb] at q
    by_cases hbe : b = e
    · have q' : H b = some (.own x) := by
        rcases he with z | z
        · exact absurd (hbe.trans z) hb
        · rw [hbe]; exact z
      rw [q] at q'; cases q'
      obtain ⟨v, hv⟩ := heo
      exact ⟨v, by rw [hbe]; exact hv⟩
    · refine (ok b u q).stay (fun c v hc r => k c v ?_ r) (fun c r => by rw [upd_ne (nown c b r)]; exact r) fun c xs r => by rw [upd_ne (ntup c xs r)]; exact r
      rcases hc with rfl | hc
      · exact hbe
      · rintro rfl
        rcases he with z | z
        · exact nown c b hc z
        · rw [hc] at z; cases z; exact hb rfl
end
structure Un (fs ex : List Addr) (H H' : Hp) (h h' : Heap) : Prop where
  keep : ∀ b o, h.get? b = some o -> H b = none -> b ∉ fs -> b ∉ ex -> h'.get? b = some o
  slot : ∀ b o, h.get? b = some o -> H b = none -> b ∈ fs -> b ∉ ex -> ∃ sl, h'.get? b = some { o with slots := sl }
  free : ∀ b o, h.get? b = some o -> H b = none -> b ∉ ex -> H' b = none
  there : ∀ b o, h.get? b = some o -> b ∉ ex -> ∃ o', h'.get? b = some o'
  tups : ∀ b xs, H b = some (.tup xs) -> H' b = some (.tup xs)
  frzs : ∀ b o u, H b = some (.frz o u) -> H' b = some (.frz o u)
  tbls : ∀ b ps, H b = some (.tbl ps) -> ∃ more, H' b = some (.tbl (ps ++ more))
section
variable {fs fs' ex ex' : List Addr} {H H1 H2 : Hp} {h h1 h2 h' : Heap} {a x e : Addr} {o : HO}
theorem Un.any (u : Un fs ex H H1 h h1) {b : Addr} {ob : Obj} (q : h.get? b = some ob) (n : H b = none) (hx : b ∉ ex) : ∃ sl, h1.get? b = some { ob with slots := sl } := by
  by_cases hb : b ∈ fs
  · exact u.slot b ob q n hb hx
  · exact ⟨ob.slots, u.keep b ob q n hb hx⟩
theorem Un.kept (k : ∀ b u, h.get? b = some u -> h'.get? b = some u) : Un fs ex H H h h' :=
  ⟨fun b ob q _ _ _ => k b ob q, fun b ob q _ _ _ => ⟨ob.slots, k b ob q⟩, fun _ _ _ n _ => n, fun b ob q _ => ⟨ob, k b ob q⟩, fun _ _ q => q, fun _ _ _ q => q, fun _ ps q => ⟨#[], by rw [q]; simp⟩⟩
theorem Un.refl : Un fs ex H H h h := Un.kept fun _ _ q => q
theorem Un.laid (k : ∀ b u, h.get? b = some u -> h'.get? b = some u) (hp : h.objs.size <= a) (hn : H a = none) : Un fs ex H (upd H a o) h h' where
  keep := fun b u q _ _ _ => k b u q
  slot := fun b u q _ _ _ => ⟨u.slots, k b u q⟩
  free := fun b u q n _ => by rw [upd_ne (Nat.ne_of_lt (Nat.lt_of_lt_of_le (Heap.lt_size q) hp))]; exact n
  there := fun b u q _ => ⟨u, k b u q⟩
  tups := fun b xs q => by rw [upd_ne (ne_of_none q hn)]; exact q
  frzs := fun b u xs q => by rw [upd_ne (ne_of_none q hn)]; exact q
  tbls := fun b ps q => ⟨#[], by rw [upd_ne (ne_of_none q hn), q]; simp⟩
theorem Un.write (mu : Mut (H x)) (he : e = x \/ H e = some (.own x)) (k : ∀ b u, b ≠ e -> h.get? b = some u -> h'.get? b = some u) (heo : ∃ u, h'.get? e = some u) : Un fs ex H (upd H x o) h h' := by
  have hx : ∀ b, H b = none -> b ≠ x := fun b n z => by subst z; rw [n] at mu; exact mu
  have hb : ∀ b, H b = none -> b ≠ e := fun b n z => by
    subst z
    rcases he with r | r
    · exact hx b n r
    · rw [n] at r; cases r
  have hm : ∀ b u, H b = some u -> ¬ Mut (some u) -> b ≠ x := fun b u q nm z => by subst z; rw [q] at mu; exact nm mu
  refine ⟨fun b u q n _ _ => k b u (hb b n) q, fun b u q n _ _ => ⟨u.slots, k b u (hb b n) q⟩, fun b u q n _ => by rw [upd_ne (hx b n)]; exact n, fun b u q _ => ?_,
    fun b xs q => by rw [upd_ne (hm b _ q fun z => z)]; exact q, fun b u xs q => by rw [upd_ne (hm b _ q fun z => z)]; exact q, fun b ps q => ⟨#[], by rw [upd_ne (hm b _ q fun z => z), q]; simp⟩⟩
  by_cases hbe : b = e
  · subst hbe; exact heo
  · exact ⟨u, k b u hbe q⟩
end
noncomputable def trk (h : Heap) (H : Hp) : List Addr := (List.range h.objs.size).filter fun a => (H a).isSome
noncomputable def hidT (h : Heap) (H : Hp) : Heap := PySem.W.hideAll h (trk h H)
theorem hidT_size (h : Heap) (H : Hp) : (hidT h H).objs.size = h.objs.size := PySem.W.hideAll_size _ _
theorem hidT_get {h : Heap} {H : Hp} {b : Addr} {o : Obj} (e : h.get? b = some o) (n : H b = none) : (hidT h H).get? b = some o :=
  PySem.W.hideAll_get _ e fun hm => by
    have q : (H b).isSome = true := (List.mem_filter.mp hm).2
    rw [n] at q; simp at q
theorem of_hidT {h : Heap} {H : Hp} {b : Addr} {o : Obj} (e : (hidT h H).get? b = some o) : h.get? b = some o /\ H b = none := by
  have e' : h.get? b = some o := PySem.W.of_hideAll (trk h H) e
  refine ⟨e', ?_⟩
  cases q : H b with
  | none => rfl
  | some x =>
    have hm : b ∈ trk h H := List.mem_filter.mpr ⟨List.mem_range.mpr (Heap.lt_size e'), by simp [q]⟩
    have z : (hidT h H).get? b = none := PySem.W.hideAll_none (trk h H) hm
    rw [z] at e; cases e
noncomputable def allNews (g h : Heap) (L : Addr) : List (Addr × Obj) := (List.range h.objs.size).filterMap fun a => if a = L \/ (g.get? a).isSome = true then none else (h.get? a).map fun o => (a, o)
noncomputable def rest (g h : Heap) (L d : Addr) : List (Addr × Obj) := (allNews g h L).filter fun p => decide (p.1 ≠ d)
end L2
namespace L2
open PySem PySem.Spec PyProof.Rows
structure Mod (K : PySem.W.Frag) (mg : Str -> Option Value) (base : Heap) : Prop where
  kin : K.In base
  glob : base.Ns mainGlobals mg
  blt : ∃ mb, base.Ns builtinsNs mb /\ ∀ x : Str, x ≠ "__name__" -> mb x = bootBuiltins x
  nolimit : base.NoLimit
structure Cx where
  prog : Program
  w : World
  K : PySem.W.Frag
  mg : Str -> Option Value
  base : Heap
  A : Around
  N : List Str
  s₀ : Shared
  H₀ : Hp
  env : Env
  outer : List Env
  stack : List Env
  ex : List Addr
  fn : Str -> Bool
  calm : Bool
  pn : List (Addr × Obj)
  xe : Value -> Shared -> Prop
noncomputable def frs (l : List Env) : List Addr := l.filterMap (·.frame)
noncomputable abbrev Cx.fs (X : Cx) : List Addr := frs X.outer
noncomputable def Vis (sc : Scope) (x : Str) : Prop := sc.names.lookup x = some .local \/ sc.names.lookup x = some .cell \/ sc.names.lookup x = some .free
noncomputable def Loc (sc : Scope) (x : Str) : Prop := sc.names.lookup x = some .local \/ sc.names.lookup x = some .cell
noncomputable def Look (env : Env) (h : Heap) (m : Str -> Option Value) (x : Str) (u : Value) : Prop :=
  (env.kindOf x = some .local /\ m x = some u) \/ ((env.kindOf x = some .cell \/ env.kindOf x = some .free) /\ ∃ c, env.cells.lookup x = some c /\ h.IsCell c (some u))
structure Cx.Ok (X : Cx) : Prop where
  mod : Mod X.K X.mg X.base
  kind : X.env.scope.kind = .function
  glob : X.env.globals = mainGlobals
  blt : X.env.builtins = builtinsNs
  above : X.s₀.heap.objs.size <= X.env.locals
  inj : ∀ x y c, X.env.cells.lookup x = some c -> X.env.cells.lookup y = some c -> x = y
  has : ∀ x, (X.env.kindOf x = some .cell \/ X.env.kindOf x = some .free) -> ∃ c, X.env.cells.lookup x = some c
  cab : ∀ x c, X.fn x = true -> X.env.cells.lookup x = some c -> X.s₀.heap.objs.size <= c
  hd : X.calm = true -> X.A.handled = none
  frames : X.A.frames = some X.stack
  stk : X.stack = X.outer \/ (X.stack = X.env :: X.outer /\ X.env.frame = some X.env.locals)
  exf : ∀ b ∈ X.ex, b ≠ X.env.locals /\ ∀ x c, X.env.cells.lookup x = some c -> c ≠ b
  bs : ∀ b o, X.base.get? b = some o -> X.s₀.heap.get? b = some o /\ X.H₀ b = none
  bsz : X.base.objs.size <= X.s₀.heap.objs.size
  noex : ∀ b o, X.base.get? b = some o -> b ∉ X.ex
  exfs : ∀ b ∈ X.ex, b ∉ X.fs
  funs : X.s₀.heap.FunFrames X.base X.outer
  frf : ∀ b ∈ X.fs, X.H₀ b = none
structure Inv (X : Cx) (pins : List (Addr × Obj)) (σ : List (Option V)) (H : Hp) (s : Shared) : Prop where
  ok : X.Ok
  os : s.os = X.s₀.os
  bare : AllBare s.gens
  base : Un X.fs X.ex X.H₀ H X.s₀.heap s.heap
  loc : ∃ m, s.heap.Ns X.env.locals m /\ ∀ (i : Nat) (x : Str) (v : V), X.N[i]? = some x -> σ[i]? = some (some v) -> Vis X.env.scope x -> ∃ u, RelV v u /\ Look X.env s.heap m x u
  cell : ∀ x c, X.env.cells.lookup x = some c -> ∃ v, s.heap.IsCell c v
  free : H X.env.locals = none
  freeC : ∀ x c, X.env.cells.lookup x = some c -> H c = none
  pin : ∀ p ∈ X.pn ++ pins, s.heap.get? p.1 = some p.2 /\ H p.1 = none /\ p.1 ≠ X.env.locals /\ p.1 ∉ X.fs /\ ∀ v, p.2.data ≠ .cell v
  hok : HOk X.prog X.w H s.heap
  len : σ.length = X.N.length
section
variable {X : Cx} {pins : List (Addr × Obj)} {σ : List (Option V)} {H H' : Hp} {s : Shared} {h' : Heap}
theorem Cx.Ok.nofr (ok : X.Ok) {b : Addr} {o : Obj} (e : X.base.get? b = some o) : b ∉ X.fs := fun hb => by
  have := (ok.funs.mem hb).1
  rw [e] at this; cases this
theorem Inv.bs (I : Inv X pins σ H s) : ∀ b o, X.base.get? b = some o -> s.heap.get? b = some o /\ H b = none := fun b o e =>
  ⟨I.base.keep b o (I.ok.bs b o e).1 (I.ok.bs b o e).2 (I.ok.nofr e) (I.ok.noex b o e), I.base.free b o (I.ok.bs b o e).1 (I.ok.bs b o e).2 (I.ok.noex b o e)⟩
theorem Inv.bk (I : Inv X pins σ H s) : ∀ b o, X.base.get? b = some o -> s.heap.get? b = some o := fun b o e => (I.bs b o e).1
theorem Inv.mod (I : Inv X pins σ H s) : Mod X.K X.mg X.base := I.ok.mod
theorem Inv.kIn (I : Inv X pins σ H s) : X.K.In s.heap := I.ok.mod.kin.keeps I.bk
theorem Inv.lt (I : Inv X pins σ H s) : X.env.locals < s.heap.objs.size := let ⟨_, hn, _⟩ := I.loc; hn.lt
theorem Inv.sz (I : Inv X pins σ H s) : X.s₀.heap.objs.size <= s.heap.objs.size := Nat.le_trans I.ok.above (Nat.le_of_lt I.lt)
theorem Inv.nofs (I : Inv X pins σ H s) {a : Addr} (h : s.heap.objs.size <= a) : a ∉ X.fs := fun hb => by
  obtain ⟨_, o, ho, _⟩ := I.ok.funs.mem hb
  exact absurd (Nat.lt_of_lt_of_le (Heap.lt_size ho) (Nat.le_trans I.sz h)) (Nat.lt_irrefl _)
theorem Inv.cne (I : Inv X pins σ H s) : ∀ x c, X.env.cells.lookup x = some c -> c ≠ X.env.locals := fun x c e z => by
  obtain ⟨v, o, ho, hd⟩ := I.cell x c e
  obtain ⟨m, ⟨o', es, ep, ho', hd', _⟩, _⟩ := I.loc
  rw [z, ho'] at ho; cases ho; rw [hd'] at hd; cases hd
theorem Inv.funs (I : Inv X pins σ H s) : s.heap.FunFrames X.base X.outer := by
  have all : ∀ (l : List Env), (∀ b ∈ frs l, b ∈ X.fs) -> X.s₀.heap.FunFrames X.base l -> s.heap.FunFrames X.base l := by
    intro l
    induction l with
    | nil => intro _ _; trivial
    | cons env r ih =>
      intro hs hl
      obtain ⟨hk, ⟨L, o, hf, hn, ho, hd⟩, hr⟩ := hl
      have hL : L ∈ X.fs := hs L (by unfold frs; rw [List.filterMap_cons, hf]; exact List.mem_cons_self)
      obtain ⟨sl, e⟩ := I.base.slot L o ho (I.ok.frf L hL) hL fun z => I.ok.exfs L z hL
      exact ⟨hk, ⟨L, _, hf, hn, e, hd⟩, ih (fun b hb => hs b (by unfold frs; rw [List.filterMap_cons, hf]; exact List.mem_cons_of_mem _ hb)) hr⟩
  exact all X.outer (fun _ hb => hb) I.ok.funs
theorem Inv.stack (I : Inv X pins σ H s) : s.heap.FunFrames X.base X.stack := by
  rcases I.ok.stk with e | ⟨e, hf⟩
  · rw [e]; exact I.funs
  · rw [e]
    obtain ⟨m, hn, _⟩ := I.loc
    refine .cons (by rw [I.ok.kind]; decide) hf hn ?_ I.funs
    exact Heap.get?_none_of_le (Nat.le_trans I.ok.bsz I.ok.above)
theorem Inv.stkSub (I : Inv X pins σ H s) : ∀ b ∈ frs X.stack, b ∈ X.env.locals :: X.fs := fun b hb => by
  rcases I.ok.stk with e | ⟨e, hf⟩
  · rw [e] at hb; exact List.mem_cons_of_mem _ hb
  · rw [e] at hb
    unfold frs at hb
    rw [List.filterMap_cons, hf] at hb
    exact hb
theorem Inv.stkFree (I : Inv X pins σ H s) : ∀ b ∈ frs X.stack, H b = none := fun b hb => by
  rcases List.mem_cons.mp (I.stkSub b hb) with e | hb
  · rw [e]; exact I.free
  · obtain ⟨_, o, ho, _⟩ := I.ok.funs.mem hb
    exact I.base.free b o ho (I.ok.frf b hb) fun z => I.ok.exfs b z hb
theorem Inv.step {g' : Array GenState} {t' : Nat} {d' : Drawn} {ch : List Addr} (I : Inv X pins σ H s)
    (hch : ∀ b ∈ ch, (b ∈ X.ex \/ X.s₀.heap.objs.size <= b) /\ b ≠ X.env.locals /\ (∀ x c, X.env.cells.lookup x = some c -> c ≠ b) /\ ∀ p ∈ X.pn ++ pins, p.1 ≠ b)
    (keep : ∀ b o, b ≠ X.env.locals -> b ∉ X.fs -> b ∉ ch -> s.heap.get? b = some o -> H b = none -> h'.get? b = some o)
    (slot : ∀ b o, b ≠ X.env.locals -> b ∈ X.fs -> b ∉ ch -> s.heap.get? b = some o -> H b = none -> ∃ sl, h'.get? b = some { o with slots := sl }) (free : ∀ b o, b ∉ ch -> s.heap.get? b = some o -> H b = none -> H' b = none)
    (there : ∀ b o, b ∉ ch -> s.heap.get? b = some o -> ∃ o', h'.get? b = some o')
    (tups : ∀ b xs, H b = some (.tup xs) -> H' b = some (.tup xs)) (frzs : ∀ b o u, H b = some (.frz o u) -> H' b = some (.frz o u)) (tbls : ∀ b ps, H b = some (.tbl ps) -> ∃ more, H' b = some (.tbl (ps ++ more)))
    (ns : ∀ m, s.heap.Ns X.env.locals m -> h'.Ns X.env.locals m) (hok : HOk X.prog X.w H' h') (hg : AllBare g') :
    Inv X pins σ H' { s with heap := h', gens := g', drawn := d', toks := t' } := by
  have neL : ∀ b o, X.s₀.heap.get? b = some o -> b ≠ X.env.locals := fun b o e => Nat.ne_of_lt (Nat.lt_of_lt_of_le (Heap.lt_size e) I.ok.above)
  have neC : ∀ b o, X.s₀.heap.get? b = some o -> b ∉ X.ex -> b ∉ ch := fun b o e hx hb => by
    rcases (hch b hb).1 with z | z
    · exact hx z
    · exact absurd (Nat.lt_of_lt_of_le (Heap.lt_size e) z) (Nat.lt_irrefl _)
  have cellK : ∀ x c, X.env.cells.lookup x = some c -> ∀ v, s.heap.IsCell c v -> h'.IsCell c v := fun x c e v ⟨o, ho, hd⟩ => by
    have nch : c ∉ ch := fun z => (hch c z).2.2.1 x c e rfl
    by_cases hc : c ∈ X.fs
    · obtain ⟨sl, q⟩ := slot c o (I.cne x c e) hc nch ho (I.freeC x c e)
      exact ⟨_, q, hd⟩
    · exact ⟨o, keep c o (I.cne x c e) hc nch ho (I.freeC x c e), hd⟩
  refine ⟨I.ok, I.os, hg, ⟨fun b o e n hb hx => ?_, fun b o e n hb hx => ?_, fun b o e n hx => ?_, fun b o e hx => ?_, fun b xs e => tups b xs (I.base.tups b xs e), fun b o xs e => frzs b o xs (I.base.frzs b o xs e), fun b ps e => ?_⟩, ?_, fun x c e => ?_, ?_, fun x c e => ?_, fun p hp => ?_, hok, I.len⟩
  · exact keep b o (neL b o e) hb (neC b o e hx) (I.base.keep b o e n hb hx) (I.base.free b o e n hx)
  · obtain ⟨sl, e1⟩ := I.base.slot b o e n hb hx
    obtain ⟨sl', e2⟩ := slot b _ (neL b o e) hb (neC b o e hx) e1 (I.base.free b o e n hx)
    exact ⟨sl', e2⟩
  · obtain ⟨o', e1⟩ := I.base.there b o e hx
    exact free b o' (neC b o e hx) e1 (I.base.free b o e n hx)
  · obtain ⟨o', e1⟩ := I.base.there b o e hx
    exact there b o' (neC b o e hx) e1
  · obtain ⟨m1, e1⟩ := I.base.tbls b ps e
    obtain ⟨m2, e2⟩ := tbls b _ e1
    exact ⟨m1 ++ m2, by rw [e2, Array.append_assoc]⟩
  · obtain ⟨m, hn, hl⟩ := I.loc
    refine ⟨m, ns m hn, fun i x v e1 e2 e3 => ?_⟩
    obtain ⟨u, r, l⟩ := hl i x v e1 e2 e3
    refine ⟨u, r, ?_⟩
    rcases l with l | ⟨k, c, e, z⟩
    · exact .inl l
    · exact .inr ⟨k, c, e, cellK x c e _ z⟩
  · obtain ⟨v, z⟩ := I.cell x c e
    exact ⟨v, cellK x c e v z⟩
  · obtain ⟨m, ⟨o, _, _, ho, _⟩, _⟩ := I.loc
    exact free _ o (fun z => (hch _ z).2.1 rfl) ho I.free
  · obtain ⟨v, o, ho, hd⟩ := I.cell x c e
    exact free c o (fun z => (hch c z).2.2.1 x c e rfl) ho (I.freeC x c e)
  · obtain ⟨e, n, ne, nf, d⟩ := I.pin p hp
    have nch : p.1 ∉ ch := fun z => (hch p.1 z).2.2.2 p hp rfl
    exact ⟨keep p.1 p.2 ne nf nch e n, free p.1 p.2 nch e n, ne, nf, d⟩
theorem Inv.un {t' : Nat} (I : Inv X pins σ H s) (u : Un X.fs [] H H' s.heap h') (hok : HOk X.prog X.w H' h') : Inv X pins σ H' { s with heap := h', toks := t' } := by
  obtain ⟨m, ⟨o, es, ep, ho, r⟩, _⟩ := id I.loc
  obtain ⟨sl, hL⟩ := u.any ho I.free (by simp)
  exact I.step (g' := s.gens) (d' := s.drawn) (ch := []) (fun _ z => nomatch z) (fun b o _ hb _ e n => u.keep b o e n hb (by simp)) (fun b o _ hb _ e n => u.slot b o e n hb (by simp)) (fun b o _ e n => u.free b o e n (by simp)) (fun b o _ e => u.there b o e (by simp)) u.tups u.frzs u.tbls (fun m' hm => by
    obtain ⟨o', es', ep', ho', r'⟩ := hm
    rw [ho] at ho'; cases ho'
    exact ⟨_, es', ep', hL, r'⟩) hok I.bare
theorem Inv.call {g' : Array GenState} {t' : Nat} {d' : Drawn} {ch : List Addr} (I : Inv X pins σ H s) (u : Un (frs X.stack) ch H H' s.heap h') (hok : HOk X.prog X.w H' h') (hg : AllBare g')
    (hch : ∀ b ∈ ch, (b ∈ X.ex \/ X.s₀.heap.objs.size <= b) /\ b ≠ X.env.locals /\ (∀ x c, X.env.cells.lookup x = some c -> c ≠ b) /\ ∀ p ∈ X.pn ++ pins, p.1 ≠ b) :
    Inv X pins σ H' { s with heap := h', gens := g', drawn := d', toks := t' } := by
  obtain ⟨m, ⟨o, es, ep, ho, r⟩, _⟩ := id I.loc
  obtain ⟨sl, hL⟩ := u.any ho I.free fun z => (hch _ z).2.1 rfl
  exact I.step (ch := ch) hch (fun b o hL hb hc e n => u.keep b o e n (fun z => (List.mem_cons.mp (I.stkSub b z)).elim hL hb) hc) (fun b o _ _ hc e n => u.any e n hc) (fun b o hc e n => u.free b o e n hc) (fun b o hc e => u.there b o e hc) u.tups u.frzs u.tbls (fun m' hm => by
    obtain ⟨o', es', ep', ho', r'⟩ := hm
    rw [ho] at ho'; cases ho'
    exact ⟨_, es', ep', hL, r'⟩) hok hg
theorem Inv.turned {t' : Nat} {it : Addr} (I : Inv X pins σ H s) (k : ∀ b o, b ≠ it -> s.heap.get? b = some o -> h'.get? b = some o) (hn : H it = none) (hL : it ≠ X.env.locals)
    (h1 : it ∈ X.ex \/ X.s₀.heap.objs.size <= it) (h2 : ∀ x c, X.env.cells.lookup x = some c -> c ≠ it) (h3 : ∀ p ∈ X.pn ++ pins, p.1 ≠ it) : Inv X pins σ H { s with heap := h', toks := t' } := by
  have nit : ∀ b u, H b = some u -> b ≠ it := fun b u e z => by rw [z, hn] at e; cases e
  refine I.step (g' := s.gens) (d' := s.drawn) (ch := [it]) (fun b hb => ?_) (fun b o _ _ hc e _ => k b o (fun z => hc (by simp [z])) e) (fun b o _ _ hc e _ => ⟨o.slots, k b o (fun z => hc (by simp [z])) e⟩) (fun _ _ _ _ n => n)
    (fun b o hc e => ⟨o, k b o (fun z => hc (by simp [z])) e⟩) (fun _ _ e => e) (fun _ _ _ e => e) (fun b ps e => ⟨#[], by rw [e]; simp⟩) (fun m hm => ?_) (fun b u e => ?_) I.bare
  · have e : b = it := by simpa using hb
    subst e
    exact ⟨h1, hL, h2, h3⟩
  · obtain ⟨o, es, ep, ho, r⟩ := hm
    exact ⟨o, es, ep, k _ o (Ne.symm hL) ho, r⟩
  · refine (I.hok b u e).stay (fun c v hc q => k c v ?_ q) (fun _ q => q) fun _ _ q => q
    rcases hc with z | z
    · rw [z]; exact nit b u e
    · exact nit c _ z
theorem Inv.tok (I : Inv X pins σ H s) (t : Nat) : Inv X pins σ H { s with toks := t } := I.un (h' := s.heap) (t' := t) Un.refl I.hok
theorem Inv.kept {t' : Nat} (I : Inv X pins σ H s) (k : ∀ b u, s.heap.get? b = some u -> h'.get? b = some u) : Inv X pins σ H { s with heap := h', toks := t' } := I.un (Un.kept k) (I.hok.kept k)
theorem Inv.laid {a : Addr} {o : HO} {t' : Nat} (I : Inv X pins σ H s) (k : ∀ b u, s.heap.get? b = some u -> h'.get? b = some u) (hp : s.heap.objs.size <= a) (new : ObjOk X.prog X.w (upd H a o) h' a o) :
    Inv X pins σ (upd H a o) { s with heap := h', toks := t' } := I.un (Un.laid k hp (I.hok.fresh hp)) (I.hok.laid k hp new)
theorem Inv.write {x e : Addr} {o : HO} {t' : Nat} (I : Inv X pins σ H s) (mu : Mut (H x)) (he : e = x \/ H e = some (.own x)) (k : ∀ b u, b ≠ e -> s.heap.get? b = some u -> h'.get? b = some u) (heo : ∃ u, h'.get? e = some u)
    (new : ObjOk X.prog X.w (upd H x o) h' x o) : Inv X pins σ (upd H x o) { s with heap := h', toks := t' } := I.un (Un.write mu he k heo) (I.hok.write mu he k heo new)
theorem Inv.weak {σ' : List (Option V)} (I : Inv X pins σ H s) (hl : σ'.length = σ.length) (w : ∀ (i : Nat) v, σ'[i]? = some (some v) -> σ[i]? = some (some v)) : Inv X pins σ' H s :=
  ⟨I.ok, I.os, I.bare, I.base, let ⟨m, hn, hl'⟩ := I.loc; ⟨m, hn, fun i x v e1 e2 e3 => hl' i x v e1 (w i v e2) e3⟩, I.cell, I.free, I.freeC, I.pin, I.hok, hl.trans I.len⟩
theorem Inv.pins_of {pins' : List (Addr × Obj)} (I : Inv X pins σ H s) (h : ∀ p ∈ pins', s.heap.get? p.1 = some p.2 /\ H p.1 = none /\ p.1 ≠ X.env.locals /\ p.1 ∉ X.fs /\ ∀ v, p.2.data ≠ .cell v) : Inv X pins' σ H s :=
  ⟨I.ok, I.os, I.bare, I.base, I.loc, I.cell, I.free, I.freeC, fun p hp => (List.mem_append.mp hp).elim (fun z => I.pin p (List.mem_append_left _ z)) (h p), I.hok, I.len⟩
theorem nodup_ix {N : List Str} (hN : N.Nodup) {i j : Nat} {x : Str} (a : N[i]? = some x) (b : N[j]? = some x) : i = j := by
  obtain ⟨h1, e1⟩ := List.getElem?_eq_some_iff.mp a
  obtain ⟨h2, e2⟩ := List.getElem?_eq_some_iff.mp b
  exact (List.getElem_inj hN).mp (e1.trans e2.symm)
theorem store_ok2 {M : Model} {A : Around} {E : Value -> Shared -> Prop} {i : Nat} {x : Str} {v : V} {u : Value} {Q : Unit -> Shared -> Prop} (I : Inv X pins σ H s) (hN : X.N.Nodup) (hi : X.N[i]? = some x) (hx : Loc X.env.scope x) (r : RelV v u)
    (h : ∀ s', Inv X pins (σ.set i (some v)) H s' -> (∃ a, Heap.SameBut a s.heap s'.heap /\ (a = X.env.locals \/ X.env.cells.lookup x = some a)) -> Q () s') (hf : X.fn x = true \/ X.env.scope.names.lookup x = some .local := by first | exact .inl rfl | exact .inr rfl | assumption) : wpAny M A (storeName X.env x u) Q E s := by
  obtain ⟨m, hn, hl⟩ := id I.loc
  have hcls : (X.env.scope.kind == .class || (X.env.scope.kind == .module && X.env.locals != X.env.globals)) = false := by rw [I.ok.kind]; rfl
  have hiσ : i < σ.length := by rw [I.len]; exact (List.getElem?_eq_some_iff.mp hi).1
  have cne := I.cne
  have tracked : ∀ {a : Addr} {h' : Heap}, (∃ o, s.heap.get? a = some o /\ H a = none) -> Heap.SameBut a s.heap h' -> HOk X.prog X.w H h' := fun {a h'} ha hs b ob e => by
    obtain ⟨_, _, hfree⟩ := ha
    refine (I.hok b ob e).stay (fun c w' hc q => (hs.2 c ?_).trans q) (fun _ q => q) fun _ _ q => q
    rintro rfl
    rcases hc with rfl | hc
    · rw [hfree] at e; cases e
    · rw [hfree] at hc; cases hc
  rcases hx with hk | hk
  · refine wpAny_storeName_local hk hn (fun h' hn' hs => ?_) hcls
    obtain ⟨oL, _, _, hoL, _⟩ := id hn
    refine h _ ⟨I.ok, I.os, I.bare, ⟨fun b o e n hb hx => ?_, fun b o e n hb hx => ?_, I.base.free, fun b o e hx => ?_, I.base.tups, I.base.frzs, I.base.tbls⟩, ⟨_, hn', fun j y v' e1 e2 e3 => ?_⟩, fun y c e => ?_, I.free, I.freeC, fun p hp => ?_, tracked ⟨oL, hoL, I.free⟩ hs, by simpa using I.len⟩ ⟨_, hs, .inl rfl⟩
    · exact (hs.2 b (Nat.ne_of_lt (Nat.lt_of_lt_of_le (Heap.lt_size e) I.ok.above))).trans (I.base.keep b o e n hb hx)
    · obtain ⟨sl, e1⟩ := I.base.slot b o e n hb hx
      exact ⟨sl, (hs.2 b (Nat.ne_of_lt (Nat.lt_of_lt_of_le (Heap.lt_size e) I.ok.above))).trans e1⟩
    · obtain ⟨o', e1⟩ := I.base.there b o e hx
      exact ⟨o', (hs.2 b (Nat.ne_of_lt (Nat.lt_of_lt_of_le (Heap.lt_size e) I.ok.above))).trans e1⟩
    · by_cases hj : j = i
      · subst hj
        rw [hi] at e1; cases e1
        rw [List.getElem?_set_self hiσ] at e2
        cases e2
        exact ⟨u, r, .inl ⟨hk, by simp⟩⟩
      · rw [List.getElem?_set_ne (Ne.symm hj)] at e2
        obtain ⟨u', r', q⟩ := hl j y v' e1 e2 e3
        refine ⟨u', r', ?_⟩
        rcases q with ⟨k, e⟩ | ⟨k, c, e, z⟩
        · refine .inl ⟨k, ?_⟩
          have : y ≠ x := fun e => hj (nodup_ix hN e1 (e ▸ hi))
          simp [this, e]
        · exact .inr ⟨k, c, e, z.sameBut hs (cne y c e)⟩
    · obtain ⟨w', z⟩ := I.cell y c e
      exact ⟨w', z.sameBut hs (cne y c e)⟩
    · obtain ⟨e, n, ne, nf, d⟩ := I.pin p hp
      exact ⟨(hs.2 p.1 ne).trans e, n, ne, nf, d⟩
  · have hfn : X.fn x = true := by
      rcases hf with z | z
      · exact z
      · rw [z] at hk; cases hk
    obtain ⟨c, hc⟩ := I.ok.has x (.inl hk)
    obtain ⟨w', z⟩ := I.cell x c hc
    refine wpAny_storeName_cell I.ok.kind hk hc z (fun h' hc' hs => ?_)
    obtain ⟨oc, hoc, hocd⟩ := id z
    refine h { s with heap := h' } ⟨I.ok, I.os, I.bare, ⟨fun b o e n hb hx => ?_, fun b o e n hb hx => ?_, I.base.free, fun b o e hx => ?_, I.base.tups, I.base.frzs, I.base.tbls⟩, ⟨m, hn.sameBut hs (Ne.symm (cne x c hc)), fun j y v' e1 e2 e3 => ?_⟩, fun y c' e => ?_, I.free, I.freeC, fun p hp => ?_, tracked ⟨oc, hoc, I.freeC x c hc⟩ hs, by simpa using I.len⟩ ⟨c, hs, .inr hc⟩
    · exact (hs.2 b (Nat.ne_of_lt (Nat.lt_of_lt_of_le (Heap.lt_size e) (I.ok.cab x c hfn hc)))).trans (I.base.keep b o e n hb hx)
    · obtain ⟨sl, e1⟩ := I.base.slot b o e n hb hx
      exact ⟨sl, (hs.2 b (Nat.ne_of_lt (Nat.lt_of_lt_of_le (Heap.lt_size e) (I.ok.cab x c hfn hc)))).trans e1⟩
    · obtain ⟨o', e1⟩ := I.base.there b o e hx
      exact ⟨o', (hs.2 b (Nat.ne_of_lt (Nat.lt_of_lt_of_le (Heap.lt_size e) (I.ok.cab x c hfn hc)))).trans e1⟩
    · by_cases hj : j = i
      · subst hj
        rw [hi] at e1; cases e1
        rw [List.getElem?_set_self hiσ] at e2
        cases e2
        exact ⟨u, r, .inr ⟨.inl hk, c, hc, hc'⟩⟩
      · rw [List.getElem?_set_ne (Ne.symm hj)] at e2
        obtain ⟨u', r', q⟩ := hl j y v' e1 e2 e3
        refine ⟨u', r', ?_⟩
        rcases q with q | ⟨k, c', e, z'⟩
        · exact .inl q
        · refine .inr ⟨k, c', e, z'.sameBut hs ?_⟩
          rintro rfl
          exact hj (nodup_ix hN e1 (I.ok.inj _ _ _ e hc ▸ hi))
    · by_cases hcc : c' = c
      · subst hcc; exact ⟨_, hc'⟩
      · obtain ⟨w2, z2⟩ := I.cell y c' e
        exact ⟨w2, z2.sameBut hs hcc⟩
    · obtain ⟨e, n, ne, nf, d⟩ := I.pin p hp
      refine ⟨(hs.2 p.1 ?_).trans e, n, ne, nf, d⟩
      intro q
      rw [q, hoc] at e
      have q' : oc = p.2 := Option.some.inj e
      exact d w' (by rw [<- q']; exact hocd)
theorem store_ok {M : Model} {A : Around} {E : Value -> Shared -> Prop} {i : Nat} {x : Str} {v : V} {u : Value} {Q : Unit -> Shared -> Prop} (I : Inv X pins σ H s) (hN : X.N.Nodup) (hi : X.N[i]? = some x) (hx : Loc X.env.scope x) (r : RelV v u)
    (h : ∀ s', Inv X pins (σ.set i (some v)) H s' -> Q () s') (hf : X.fn x = true \/ X.env.scope.names.lookup x = some .local := by first | exact .inl rfl | exact .inr rfl | assumption) : wpAny M A (storeName X.env x u) Q E s :=
  store_ok2 I hN hi hx r (fun s' I' _ => h s' I') hf
theorem Inv.call' {s' : Shared} {ch : List Addr} (I : Inv X pins σ H s) (ho : s'.os = s.os) (u : Un (frs X.stack) ch H H' s.heap s'.heap) (hok : HOk X.prog X.w H' s'.heap) (hg : AllBare s'.gens)
    (hch : ∀ b ∈ ch, (b ∈ X.ex \/ X.s₀.heap.objs.size <= b) /\ b ≠ X.env.locals /\ (∀ x c, X.env.cells.lookup x = some c -> c ≠ b) /\ ∀ p ∈ X.pn ++ pins, p.1 ≠ b) : Inv X pins σ H' s' := by
  obtain ⟨h', g', d', t', o'⟩ := s'
  have e : o' = s.os := ho
  subst e
  exact I.call (g' := g') (t' := t') (d' := d') u hok hg hch
end
noncomputable abbrev XK := Value -> Option Addr -> Hp -> Prop
noncomputable abbrev St := List (Option V)
noncomputable abbrev VK := V -> Hp -> Prop
noncomputable abbrev TE := St -> Hp -> VK -> Prop
noncomputable abbrev TT := St -> Hp -> (Bool -> Hp -> Prop) -> Prop
noncomputable abbrev TA := St -> Hp -> (List V -> Hp -> Prop) -> Prop
structure Ends where
  nx : St -> Hp -> Prop
  rt : VK
  bk : St -> Hp -> Prop := fun _ _ => False
  ct : St -> Hp -> Prop := fun _ _ => False
noncomputable abbrev TS := Ends -> St -> Hp -> Prop
noncomputable def EP (X : Cx) (pins : List (Addr × Obj)) (σ : St) (Q : VK) (u : Value) (s' : Shared) : Prop := ∃ v H', Inv X pins σ H' s' /\ RelV v u /\ Q v H'
noncomputable def TP (X : Cx) (pins : List (Addr × Obj)) (σ : St) (Q : Bool -> Hp -> Prop) (b : Bool) (s' : Shared) : Prop := ∃ H', Inv X pins σ H' s' /\ Q b H'
noncomputable def AP (X : Cx) (pins : List (Addr × Obj)) (σ : St) (Q : List V -> Hp -> Prop) (us : List Value) (s' : Shared) : Prop := ∃ vs H', Inv X pins σ H' s' /\ Vals vs us /\ Q vs H'
noncomputable def SP (X : Cx) (pins : List (Addr × Obj)) (D : Ends) (f : Flow) (s' : Shared) : Prop :=
  match f with
  | .next => ∃ σ' H', Inv X pins σ' H' s' /\ D.nx σ' H'
  | .brk => ∃ σ' H', Inv X pins σ' H' s' /\ D.bk σ' H'
  | .cont => ∃ σ' H', Inv X pins σ' H' s' /\ D.ct σ' H'
  | .ret u => ∃ v σ' H', Inv X pins σ' H' s' /\ RelV v u /\ D.rt v H'
noncomputable def PE (X : Cx) (e : Expr) (t : TE) : Prop :=
  ∀ (pins : List (Addr × Obj)) (s : Shared) (σ : St) (H : Hp) (Q : VK), Inv X pins σ H s -> t σ H Q -> wpAny (model X.prog X.w) X.A (eval e X.env) (EP X pins σ Q) X.xe s
noncomputable def PT (X : Cx) (e : Expr) (t : TT) : Prop :=
  ∀ (pins : List (Addr × Obj)) (s : Shared) (σ : St) (H : Hp) (Q : Bool -> Hp -> Prop), Inv X pins σ H s -> t σ H Q -> wpAny (model X.prog X.w) X.A (isTrue e X.env (eval e X.env)) (TP X pins σ Q) X.xe s
noncomputable def PW (X : Cx) (e : Expr) (t : TT) : Prop :=
  ∀ (whole : Sem Value) (pins : List (Addr × Obj)) (s : Shared) (σ : St) (H : Hp) (Q : Bool -> Hp -> Prop), Inv X pins σ H s -> t σ H Q -> wpAny (model X.prog X.w) X.A (isTrue e X.env whole) (TP X pins σ Q) X.xe s
theorem PW.pt {X : Cx} {e : Expr} {t : TT} (h : PW X e t) : PT X e t := h _
noncomputable def PA (X : Cx) (es : List Expr) (t : TA) : Prop :=
  ∀ (pos : Pos) (pins : List (Addr × Obj)) (s : Shared) (σ : St) (H : Hp) (Q : List V -> Hp -> Prop), Inv X pins σ H s -> t σ H Q -> wpAny (model X.prog X.w) X.A (spliced (backTo pos (starEach es X.env))) (AP X pins σ Q) X.xe s
noncomputable def PS (X : Cx) (st : Stmt) (t : TS) : Prop :=
  ∀ (pins : List (Addr × Obj)) (s : Shared) (σ : St) (H : Hp) (D : Ends), Inv X pins σ H s -> t D σ H -> wpAny (model X.prog X.w) X.A (exec st X.env) (SP X pins D) X.xe s
noncomputable def PSs (X : Cx) (st : List Stmt) (t : TS) : Prop :=
  ∀ (pins : List (Addr × Obj)) (s : Shared) (σ : St) (H : Hp) (D : Ends), Inv X pins σ H s -> t D σ H -> wpAny (model X.prog X.w) X.A (execs st X.env) (SP X pins D) X.xe s
theorem thn {α : Type} {t : Sem α} {Q Q' : α -> Shared -> Prop} {M : Model} {A : Around} {E : Value -> Shared -> Prop} {s : Shared} (h : wpAny M A t Q E s) (hQ : ∀ a s, Q a s -> Q' a s) : wpAny M A t Q' E s := wpAny_mono h hQ fun _ _ x => x
end L2
namespace L2
open PySem PySem.Spec PyProof.Rows
section
variable {X : Cx}
noncomputable def tVar (i : Nat) : TE := fun σ H Q => ∃ v, σ[i]? = some (some v) /\ Q v H
noncomputable def tC (v : V) : TE := fun _ H Q => Q v H
theorem pe_var {i : Nat} {x : Str} {pos : Pos} (hN : X.N[i]? = some x) (hv : Vis X.env.scope x) (hd : (x == ("__debug__" : Str)) = false := by decide) (hcd : (x == ("__classdict__" : Str)) = false := by decide) : PE X (.Name x pos) (tVar i) := by
  intro pins s σ H Q I h
  obtain ⟨v, e, h⟩ := h
  obtain ⟨m, hn, hl⟩ := I.loc
  obtain ⟨u, r, l⟩ := hl i x v hN e hv
  have fin : EP X pins σ Q u s := ⟨v, H, I, r, h⟩
  rcases l with ⟨hk, hm⟩ | ⟨hk, c, hc, hcell⟩
  · exact wpAny_Name (wpAny_loadName_local I.ok.kind hk hn hm fin) hd
  · rcases hk with hk | hk
    · exact wpAny_Name (wpAny_loadName_cell I.ok.kind hk hc hcell fin) hd
    · exact wpAny_Name (wpAny_loadName_free I.ok.kind hk hc hcell fin hcd) hd
theorem pe_int {i j pos} : PE X (.Constant (.int i) j pos) (tC (.int i)) := fun _ _ _ H _ I h => wpAny_Constant_int ⟨.int i, H, I.tok _, ⟨_, rfl⟩, h⟩
theorem pe_bl {b j pos} : PE X (.Constant (.bool b) j pos) (tC (.bl b)) := fun _ _ _ H _ I h => Constant_bool ⟨.bl b, H, I, rfl, h⟩
theorem pe_str {x j pos} : PE X (.Constant (.str x) j pos) (tC (.str x)) := fun _ _ _ H _ I h => Calls.Constant_str ⟨.str x, H, I.tok _, ⟨_, rfl⟩, h⟩
noncomputable def Gl (X : Cx) (x : Str) : Prop := X.env.kindOf x = some .globalImplicit
theorem ld_glob {E : Value -> Shared -> Prop} {pins : List (Addr × Obj)} {s : Shared} {σ : St} {H : Hp} {x : Str} {u : Value} {pos : Pos} {Q : Value -> Shared -> Prop} (I : Inv X pins σ H s) (hg : Gl X x) (hm : X.mg x = some u) (h : Q u s)
    (hd : (x == ("__debug__" : Str)) = false := by decide) : wpAny (model X.prog X.w) X.A (eval (.Name x pos) X.env) Q E s :=
  Calls.Name_function_global I.ok.kind hg (Calls.loadGlobal_global (by rw [I.ok.glob]; exact I.mod.glob.keeps I.bk) hm h) hd
theorem ld_blt {E : Value -> Shared -> Prop} {pins : List (Addr × Obj)} {s : Shared} {σ : St} {H : Hp} {x : Str} {u : Value} {pos : Pos} {Q : Value -> Shared -> Prop} (I : Inv X pins σ H s) (hg : Gl X x) (hm : X.mg x = none) (hv : bootBuiltins x = some u) (h : Q u s)
    (hn : x ≠ "__name__" := by decide) (hd : (x == ("__debug__" : Str)) = false := by decide) : wpAny (model X.prog X.w) X.A (eval (.Name x pos) X.env) Q E s := by
  obtain ⟨mb, h1, h2⟩ := I.mod.blt
  exact Calls.Name_function_global I.ok.kind hg (Calls.loadGlobal_builtin (by rw [I.ok.glob]; exact I.mod.glob.keeps I.bk) hm (by rw [I.ok.blt]; exact h1.keeps I.bk) ((h2 x hn).trans hv) h) hd
theorem pe_glob {x : Str} {v : V} {u : Value} {pos : Pos} (hg : Gl X x) (hm : X.mg x = some u) (r : RelV v u) (hd : (x == ("__debug__" : Str)) = false := by decide) : PE X (.Name x pos) (tC v) :=
  fun _ _ _ H _ I h => ld_glob I hg hm ⟨v, H, I, r, h⟩ hd
theorem pe_bltn {x : Str} {v : V} {u : Value} {pos : Pos} (hg : Gl X x) (hm : X.mg x = none) (hv : bootBuiltins x = some u) (r : RelV v u) (hn : x ≠ "__name__" := by decide) (hd : (x == ("__debug__" : Str)) = false := by decide) : PE X (.Name x pos) (tC v) :=
  fun _ _ _ H _ I h => ld_blt I hg hm hv ⟨v, H, I, r, h⟩ hn hd
variable {a b : Expr} {ta tb : TE} {pos : Pos}
noncomputable def tB (t : TE) : TT := fun σ H Q => t σ H fun x H1 => ∃ c, x = .bl c /\ Q c H1
theorem pt_val {e : Expr} {t : TE} (h : PE X e t) (he : ∀ whole, isTrue e X.env whole = (do let v <- whole; standAt e.pos; holding [v] (truthy v)) := by intro _; rfl) : PT X e (tB t) := by
  intro pins s σ H Q I hw
  refine isTrue_plain (thn (h pins s σ H _ I hw) fun v s1 ⟨x, H1, I1, r1, q1⟩ => ?_) (he _)
  obtain ⟨d, rfl, q⟩ := q1
  cases r1
  exact wpAny_truthy_bool ⟨H1, I1, q⟩
variable {tA tB' : TT} {rest : List Expr}
noncomputable def tAnd (t u : TT) : TT := fun σ H Q => t σ H fun c H1 => if c = true then u σ H1 Q else Q false H1
noncomputable def tOr (t u : TT) : TT := fun σ H Q => t σ H fun c H1 => if c = true then Q true H1 else u σ H1 Q
noncomputable def tNot (t : TT) : TT := fun σ H Q => t σ H fun c H1 => Q (!c) H1
theorem pw_and1 (ha : PT X a tA) : PW X (.BoolOp .And [a] pos) tA := by
  intro wh pins s σ H Q I h
  refine isTrue_and (thn (ha pins s σ H Q I h) fun c s1 e => ?_)
  cases c with
  | true => exact isTrue_and_nil e
  | false => exact e
theorem pw_or1 (ha : PT X a tA) : PW X (.BoolOp .Or [a] pos) tA := by
  intro wh pins s σ H Q I h
  refine isTrue_or (thn (ha pins s σ H Q I h) fun c s1 e => ?_)
  cases c with
  | false => exact isTrue_or_nil e
  | true => exact e
theorem pw_and (ha : PT X a tA) (hb : PW X (.BoolOp .And (b :: rest) pos) tB') : PW X (.BoolOp .And (a :: b :: rest) pos) (tAnd tA tB') := by
  intro wh pins s σ H Q I h
  refine isTrue_and (thn (ha pins s σ H _ I h) fun c s1 ⟨H1, I1, q1⟩ => ?_)
  cases c with
  | true => exact hb wh pins s1 σ H1 Q I1 q1
  | false => exact ⟨H1, I1, q1⟩
theorem pw_or (ha : PT X a tA) (hb : PW X (.BoolOp .Or (b :: rest) pos) tB') : PW X (.BoolOp .Or (a :: b :: rest) pos) (tOr tA tB') := by
  intro wh pins s σ H Q I h
  refine isTrue_or (thn (ha pins s σ H _ I h) fun c s1 ⟨H1, I1, q1⟩ => ?_)
  cases c with
  | true => exact ⟨H1, I1, q1⟩
  | false => exact hb wh pins s1 σ H1 Q I1 q1
theorem pt_not (ha : PT X a tA) : PT X (.UnaryOp .Not a pos) (tNot tA) := by
  intro pins s σ H Q I h
  exact isTrue_not (ha pins s σ H (fun c H1 => Q (!c) H1) I h)
noncomputable def tAndV (ta tb : TE) : TE := fun σ H Q => ta σ H fun x H1 => ∃ c, x = .bl c /\ if c = true then tb σ H1 Q else Q (.bl false) H1
theorem pe_one {op} {t : TE} (h : PE X a t) : PE X (.BoolOp op [a] pos) t := fun pins s σ H Q I hw => BoolOp_one (h pins s σ H Q I hw)
theorem pe_and (ha : PE X a ta) (hb : PE X (.BoolOp .And (b :: rest) pos) tb) : PE X (.BoolOp .And (a :: b :: rest) pos) (tAndV ta tb) := by
  intro pins s σ H Q I h
  refine BoolOp_and (thn (ha pins s σ H _ I h) fun v s1 ⟨x, H1, I1, r1, q1⟩ => ?_)
  obtain ⟨c, rfl, q1⟩ := q1
  cases r1
  refine wpAny_truthy_bool ?_
  cases c with
  | true => exact hb pins s1 σ H1 Q I1 q1
  | false => exact ⟨.bl false, H1, I1, rfl, q1⟩
noncomputable def tIf (t : TT) (ta tb : TE) : TE := fun σ H Q => t σ H fun c H1 => if c = true then ta σ H1 Q else tb σ H1 Q
theorem pe_ifExp {c : Expr} (hc : PT X c tA) (ha : PE X a ta) (hb : PE X b tb) : PE X (.IfExp c a b pos) (tIf tA ta tb) := by
  intro pins s σ H Q I h
  refine wpAny_IfExp (thn (hc pins s σ H _ I h) fun d s1 ⟨H1, I1, q1⟩ => ?_)
  cases d with
  | true => exact ha pins s1 σ H1 Q I1 q1
  | false => exact hb pins s1 σ H1 Q I1 q1
end
end L2
namespace L2
open PySem PySem.Spec PyProof.Rows
noncomputable def SqL (K : PySem.W.Frag) (H : Hp) (a : Addr) (xs : List V) : Prop :=
  Rd H a (.lst xs) \/
    ∃ (o : Obj) (its : Array Value) (n : Nat), K.lookup a = some o /\ o.cls = .type "list" /\ o.dict = none /\ o.data = .seq its n /\ its.size <= sizeLine /\ Vals xs its.toList
noncomputable def SqT (K : PySem.W.Frag) (H : Hp) (a : Addr) (xs : List V) : Prop :=
  Rd H a (.tup xs) \/
    ∃ (o : Obj) (its : Array Value) (n : Nat), K.lookup a = some o /\ o.cls = .type "tuple" /\ o.data = .seq its n /\ its.size <= sizeLine /\ Vals xs its.toList
noncomputable def absV : Value -> Option V
  | .none => some .non
  | .bool b => some (.bl b)
  | .int i _ => some (.int i)
  | .str x _ => some (.str x)
  | .bytes b _ => some (.byt b)
  | .float b _ => some (.flt b)
  | .ref a => some (.ref a)
  | .type n => some (.ty n)
  | _ => none
theorem RelV.abs {x : V} {u : Value} (r : RelV x u) : absV u = some x := by
  cases x with
  | non => cases r; rfl
  | bl _ => cases r; rfl
  | int _ => obtain ⟨t, rfl⟩ := r; rfl
  | str _ => obtain ⟨t, rfl⟩ := r; rfl
  | byt _ => obtain ⟨t, rfl⟩ := r; rfl
  | flt _ => obtain ⟨t, rfl⟩ := r; rfl
  | ref _ => cases r; rfl
  | ty _ => cases r; rfl
theorem RelV.inj {x y : V} {u : Value} (r : RelV x u) (q : RelV y u) : x = y := Option.some.inj (r.abs.symm.trans q.abs)
theorem Vals.inj : ∀ {xs ys : List V} {us : List Value}, Vals xs us -> Vals ys us -> xs = ys
  | _, _, _, .nil, .nil => rfl
  | _, _, _, .cons r t, .cons r' t' => by rw [r.inj r', Vals.inj t t']
section
variable {X : Cx} {pins : List (Addr × Obj)} {σ : St} {H : Hp} {s : Shared} {a : Addr} {xs ys : List V}
theorem SqL.of {K : PySem.W.Frag} (h : H a = some (.lst xs)) : SqL K H a xs := .inl (.inl h)
theorem SqT.of {K : PySem.W.Frag} (h : H a = some (.tup xs)) : SqT K H a xs := .inl (.inl h)
theorem Inv.list (I : Inv X pins σ H s) (h : SqL X.K H a xs) : ∃ its : List Value, Vals xs its /\ PlainL s.heap a its.toArray /\ xs.length <= sizeLine := by
  rcases h with h | ⟨o, its, n, hk, hc, hd, hs, hz, r⟩
  · obtain ⟨z, its, n, r, e⟩ := h.ok I.hok
    exact ⟨its, r, ⟨_, n, e, rfl, rfl, rfl⟩, z⟩
  · refine ⟨its.toList, r, ⟨o, n, I.kIn a o hk, hc, hd, by simpa using hs⟩, ?_⟩
    have e := r.length
    simp only [Array.length_toList] at e
    lia
theorem Inv.tuple (I : Inv X pins σ H s) (h : SqT X.K H a xs) : ∃ its : List Value, Vals xs its /\ IsTup s.heap a its.toArray /\ xs.length <= sizeLine := by
  rcases h with h | ⟨o, its, n, hk, hc, hs, hz, r⟩
  · obtain ⟨z, its, r, p⟩ := h.ok I.hok
    exact ⟨its, r, p, z.1⟩
  · refine ⟨its.toList, r, ⟨o, I.kIn a o hk, hc, n, by simpa using hs⟩, ?_⟩
    have e := r.length
    simp only [Array.length_toList] at e
    lia
theorem Inv.list_inj (I : Inv X pins σ H s) (h : SqL X.K H a xs) (h' : SqL X.K H a ys) : xs = ys := by
  obtain ⟨its, r, ⟨o, n, e, _, _, d⟩, _⟩ := I.list h
  obtain ⟨its', r', ⟨o', n', e', _, _, d'⟩, _⟩ := I.list h'
  rw [e] at e'; cases e'
  rw [d] at d'
  injection d' with d1 _
  have : its = its' := by simpa using congrArg Array.toList d1
  subst this
  exact r.inj r'
theorem Inv.tuple_inj (I : Inv X pins σ H s) (h : SqT X.K H a xs) (h' : SqT X.K H a ys) : xs = ys := by
  obtain ⟨its, r, ⟨o, e, _, n, d⟩, _⟩ := I.tuple h
  obtain ⟨its', r', ⟨o', e', _, n', d'⟩, _⟩ := I.tuple h'
  rw [e] at e'; cases e'
  rw [d] at d'
  injection d' with d1 _
  have : its = its' := by simpa using congrArg Array.toList d1
  subst this
  exact r.inj r'
end
noncomputable abbrev Cx.wish (X : Cx) (E : Value -> Shared -> Prop) : Cx := { X with xe := E }
noncomputable abbrev Cx.nox (X : Cx) : Cx := X.wish fun _ _ => False
theorem Cx.Ok.wish {X : Cx} (ok : X.Ok) (E : Value -> Shared -> Prop) : (X.wish E).Ok :=
  ⟨ok.mod, ok.kind, ok.glob, ok.blt, ok.above, ok.inj, ok.has, ok.cab, ok.hd, ok.frames, ok.stk, ok.exf, ok.bs, ok.bsz, ok.noex, ok.exfs, ok.funs, ok.frf⟩
theorem Cx.Ok.unwish {X : Cx} {E : Value -> Shared -> Prop} (ok : (X.wish E).Ok) : X.Ok :=
  ⟨ok.mod, ok.kind, ok.glob, ok.blt, ok.above, ok.inj, ok.has, ok.cab, ok.hd, ok.frames, ok.stk, ok.exf, ok.bs, ok.bsz, ok.noex, ok.exfs, ok.funs, ok.frf⟩
section
variable {X : Cx} {pins : List (Addr × Obj)} {σ : St} {H : Hp} {s : Shared} {E : Value -> Shared -> Prop}
theorem Inv.wish (I : Inv X pins σ H s) (E : Value -> Shared -> Prop) : Inv (X.wish E) pins σ H s := ⟨I.ok.wish E, I.os, I.bare, I.base, I.loc, I.cell, I.free, I.freeC, I.pin, I.hok, I.len⟩
theorem Inv.unwish (I : Inv (X.wish E) pins σ H s) : Inv X pins σ H s := ⟨I.ok.unwish, I.os, I.bare, I.base, I.loc, I.cell, I.free, I.freeC, I.pin, I.hok, I.len⟩
theorem SP.unwish {D : Ends} {f : Flow} {s' : Shared} (h : SP (X.wish E) pins D f s') : SP X pins D f s' := by
  cases f with
  | next => obtain ⟨σ', H', I, q⟩ := h; exact ⟨σ', H', I.unwish, q⟩
  | brk => obtain ⟨σ', H', I, q⟩ := h; exact ⟨σ', H', I.unwish, q⟩
  | cont => obtain ⟨σ', H', I, q⟩ := h; exact ⟨σ', H', I.unwish, q⟩
  | ret u => obtain ⟨v, σ', H', I, r, q⟩ := h; exact ⟨v, σ', H', I.unwish, r, q⟩
theorem PSs.nox {st : List Stmt} {t : TS} (h : PSs X.nox st t) : PSs X st t := fun pins s σ H D I hw =>
  wpAny_mono (h pins s σ H D (I.wish _) hw) (fun _ _ q => q.unwish) fun _ _ z => False.elim z
end
section
variable {X : Cx} {st : Stmt} {rest : List Stmt} {t u : TS} {e : Expr} {te : TE} {pos : Pos}
noncomputable def tNext : TS := fun D σ H => D.nx σ H
noncomputable def tSeq (t u : TS) : TS := fun D σ H => t { D with nx := u D } σ H
theorem pss_nil : PSs X [] tNext := fun _ _ σ H _ I h => wpAny_execs_nil ⟨σ, H, I, h⟩
theorem pss_cons (h1 : PS X st t) (h2 : PSs X rest u) : PSs X (st :: rest) (tSeq t u) := by
  intro pins s σ H D I h
  refine wpAny_execs_cons (thn (h1 pins s σ H { D with nx := u D } I h) fun f s1 q => ?_)
  cases f with
  | next =>
    obtain ⟨σ', H', I', q⟩ := q
    exact h2 pins s1 σ' H' D I' q
  | ret v => exact q
  | brk => exact q
  | cont => exact q
theorem pss_one (h1 : PS X st t) : PSs X [st] t := by
  intro pins s σ H D I h
  refine wpAny_execs_cons (thn (h1 pins s σ H D I h) fun f s1 q => ?_)
  cases f with
  | next => exact wpAny_execs_nil q
  | ret v => exact q
  | brk => exact q
  | cont => exact q
theorem Inv.quiet {pins : List (Addr × Obj)} {σ : St} {H : Hp} {s : Shared} (I : Inv X pins σ H s) : interactive X.env = false := by simp [interactive, I.ok.kind]
noncomputable def tDrop (te : TE) : TS := fun D σ H => te σ H fun _ H1 => D.nx σ H1
theorem ps_expr (he : PE X e te) (hs : swapsWith e none pos.line X.env = pure false := by rfl) : PS X (.Expr e pos) (tDrop te) := by
  intro pins s σ H D I h
  exact wpAny_Expr_any (thn (he pins s σ H _ I h) fun v s1 ⟨x, H1, I1, r1, q1⟩ => ⟨σ, H1, I1, q1⟩) I.quiet hs
noncomputable def tRet (te : TE) : TS := fun D σ H => te σ H D.rt
theorem ps_ret (he : PE X e te) : PS X (.Return (some e) pos) (tRet te) := by
  intro pins s σ H D I h
  exact wpAny_Return_some (thn (he pins s σ H _ I h) fun v s1 ⟨x, H1, I1, r1, q1⟩ => ⟨x, σ, H1, I1, r1, q1⟩)
noncomputable def tIfS (c : TT) (t u : TS) : TS := fun D σ H => c σ H fun b H1 => if b = true then t D σ H1 else u D σ H1
theorem ps_if {c : Expr} {a b : List Stmt} {tc : TT} (hc : PT X c tc) (ha : PSs X a t) (hb : PSs X b u) : PS X (.If c a b pos) (tIfS tc t u) := by
  intro pins s σ H D I h
  refine wpAny_If (thn (hc pins s σ H _ I h) fun d s1 ⟨H1, I1, q1⟩ => ?_)
  cases d with
  | true => exact ha pins s1 σ H1 D I1 q1
  | false => exact hb pins s1 σ H1 D I1 q1
end
noncomputable abbrev TG := V -> St -> Hp -> (St -> Hp -> Prop) -> Prop
noncomputable abbrev TGs := List V -> St -> Hp -> (St -> Hp -> Prop) -> Prop
noncomputable def PG (X : Cx) (target : Expr) (t : TG) : Prop :=
  ∀ (pins : List (Addr × Obj)) (s : Shared) (σ : St) (H : Hp) (v : V) (u : Value) (Q : St -> Hp -> Prop), Inv X pins σ H s -> RelV v u -> t v σ H Q ->
    wpAny (model X.prog X.w) X.A (assign target X.env u) (fun _ s' => ∃ σ' H', Inv X pins σ' H' s' /\ Q σ' H') X.xe s
noncomputable def PGs (X : Cx) (ts : List Expr) (t : TGs) : Prop :=
  ∀ (pins : List (Addr × Obj)) (s : Shared) (σ : St) (H : Hp) (vs : List V) (us : List Value) (Q : St -> Hp -> Prop), Inv X pins σ H s -> Vals vs us -> t vs σ H Q ->
    wpAny (model X.prog X.w) X.A (assignInOrder ((assignEach ts X.env).map (·.2)) us) (fun _ s' => ∃ σ' H', Inv X pins σ' H' s' /\ Q σ' H') X.xe s
noncomputable abbrev TSet := V -> V -> V -> Hp -> (Hp -> Prop) -> Prop
noncomputable def PSet (X : Cx) (t : TSet) : Prop :=
  ∀ (pins : List (Addr × Obj)) (s : Shared) (σ : St) (H : Hp) (o i v : V) (ov iv u : Value) (Q : Hp -> Prop), Inv X pins σ H s -> RelV o ov -> RelV i iv -> RelV v u -> t o i v H Q ->
    wpAny (model X.prog X.w) X.A (setItem ov iv u) (fun _ s' => ∃ H', Inv X pins σ H' s' /\ Q H') X.xe s
section
variable {X : Cx} {pos : Pos}
noncomputable def gName (i : Nat) : TG := fun v σ H Q => Q (σ.set i (some v)) H
theorem pg_name {i : Nat} {x : Str} (hN : X.N.Nodup) (hi : X.N[i]? = some x) (hx : Loc X.env.scope x) (hf : X.fn x = true \/ X.env.scope.names.lookup x = some .local := by first | exact .inl rfl | exact .inr rfl | assumption) : PG X (.Name x pos) (gName i) := by
  intro pins s σ H v u Q I r h
  exact wpAny_assign_Name (store_ok I hN hi hx r (fun s' I' => ⟨_, H, I', h⟩) hf)
noncomputable def gNil : TGs := fun vs σ H Q => vs = [] /\ Q σ H
noncomputable def gCons (t : TG) (u : TGs) : TGs := fun vs σ H Q => ∃ v r, vs = v :: r /\ t v σ H fun σ' H' => u r σ' H' Q
theorem pgs_nil : PGs X [] gNil := by
  intro pins s σ H vs us Q I r h
  obtain ⟨e, h⟩ := h
  subst e
  cases r
  exact assignInOrder_nil ⟨σ, H, I, h⟩
theorem pgs_cons {e : Expr} {es : List Expr} {t : TG} {u : TGs} (h1 : PG X e t) (h2 : PGs X es u)
    (hs : (assignEach (e :: es) X.env).map (·.2) = assign e X.env :: (assignEach es X.env).map (·.2) := by rfl) : PGs X (e :: es) (gCons t u) := by
  intro pins s σ H vs us Q I r h
  obtain ⟨v, vr, e1, h⟩ := h
  subst e1
  cases r with
  | cons r rr =>
    rw [hs]
    refine assignInOrder_cons (thn (h1 pins s σ H _ _ _ I r h) fun _ s1 ⟨σ1, H1, I1, q1⟩ => ?_)
    exact h2 pins s1 σ1 H1 _ _ Q I1 rr q1
noncomputable def gTup (K : PySem.W.Frag) (n : Nat) (t : TGs) : TG := fun v σ H Q => ∃ a xs, v = .ref a /\ SqT K H a xs /\ xs.length = n /\ t xs σ H Q
theorem pg_tup {es : List Expr} {k : Nat} {t : TGs} {n : Nat} (hc : X.calm = true) (h : PGs X es t)
    (hn : (assignEach es X.env).length = n := by rfl) (hst : (assignEach es X.env).findIdx? (·.1) = none := by rfl) : PG X (.Tuple es k pos) (gTup X.K n t) := by
  intro pins s σ H v u Q I r hw
  obtain ⟨a, xs, e1, hq, hl, hw⟩ := hw
  subst e1
  cases r
  obtain ⟨its, rv, ht, hz⟩ := I.tuple hq
  refine assign_Tuple_tuple (I.ok.hd hc) ht (by simp [hn, <- hl, rv.length]) hst fun h' hx => ?_
  have I1 : Inv X pins σ H { s with heap := h' } := I.kept (t' := s.toks) fun b o e => hx b o (Nat.ne_of_lt (Heap.lt_size e)) e
  exact h pins _ σ H xs _ Q I1 (by simpa using rv) hw
noncomputable def gSub (to ti : TE) (t : TSet) : TG := fun v σ H Q => to σ H fun o H1 => ti σ H1 fun i H2 => t o i v H2 fun H3 => Q σ H3
theorem pg_sub {o i : Expr} {to ti : TE} {t : TSet} (ho : PE X o to) (hi : PE X i ti) (hs : PSet X t)
    (ha : ∀ v, assign (.Subscript o i pos) X.env v = (do
      let ov <- holding [v] (eval o X.env)
      let iv <- holding [v, ov] (eval i X.env)
      standAt pos
      holding [v, ov, iv] (setItem ov iv v)
      release [v, ov, iv] []) := by intro _; rfl) : PG X (.Subscript o i pos) (gSub to ti t) := by
  intro pins s σ H v u Q I r h
  rw [ha]
  refine wpAny_bind (wpAny_holding (thn (ho pins s σ H _ I h) fun ov s1 ⟨x, H1, I1, r1, q1⟩ => ?_))
  refine wpAny_bind (wpAny_holding (thn (hi pins s1 σ H1 _ I1 q1) fun iv s2 ⟨y, H2, I2, r2, q2⟩ => ?_))
  refine wpAny_bind (wpAny_standAt (wpAny_bind (wpAny_holding (thn (hs pins s2 σ H2 x y v ov iv u _ I2 r1 r2 r q2) fun _ s3 ⟨H3, I3, q3⟩ => ?_))))
  exact wpAny_release ⟨σ, H3, I3, q3⟩
noncomputable def tAsg (te : TE) (g : TG) : TS := fun D σ H => te σ H fun x H1 => g x σ H1 D.nx
theorem ps_asg {tg e : Expr} {te : TE} {g : TG} (he : PE X e te) (hg : PG X tg g) (hs : swapsWithSole [tg] e pos.line X.env = pure false := by rfl) (hw : swappedStores [tg] e X.env = pure none := by rfl)
    (h1 : (assignEach [tg] X.env).map (·.2) = [assign tg X.env] := by rfl) : PS X (.Assign [tg] e pos) (tAsg te g) := by
  intro pins s σ H D I h
  refine wpAny_Assign_stores (thn (he pins s σ H _ I h) fun v s1 ⟨x, H1, I1, r1, q1⟩ => ?_) hs hw
  rw [h1]
  exact thn (hg pins s1 σ H1 x v _ I1 r1 q1) fun _ s2 q => q
theorem ps_set {i : Nat} {x : Str} {e : Expr} {te : TE} {pos' : Pos} (hN : X.N.Nodup) (hi : X.N[i]? = some x) (hx : Loc X.env.scope x) (he : PE X e te) (hs : swapsWith e (some (.Name x pos')) pos.line X.env = pure false := by rfl) (hf : X.fn x = true \/ X.env.scope.names.lookup x = some .local := by first | exact .inl rfl | exact .inr rfl | assumption) :
    PS X (.Assign [.Name x pos'] e pos) (tAsg te (gName i)) := by
  intro pins s σ H D I h
  refine wpAny_Assign_Name (thn (he pins s σ H _ I h) fun v s1 ⟨y, H1, I1, r1, q1⟩ => ?_) hs
  exact store_ok I1 hN hi hx r1 (fun s2 I2 => ⟨_, H1, I2, q1⟩) hf
end
section
variable {X : Cx} {pos : Pos}
noncomputable def tWhile (c : TT) (tb : TS) : TS := fun D σ H => ∃ W : Nat -> St -> Hp -> Prop, (∃ m, W m σ H) /\ ∀ m σ H, W m σ H ->
  c σ H fun b H1 => if b = true then ∃ N : St -> Hp -> Prop, (∀ σ' H', N σ' H' -> ∃ m', m' < m /\ W m' σ' H') /\ tb { D with nx := N, ct := N, bk := D.nx } σ H1 else D.nx σ H1
theorem ps_while {c : Expr} {body : List Stmt} {tc : TT} {tb : TS} (hp : PassesOwn (model X.prog X.w) X.A X.env X.xe) (hc : PT X c tc) (hb : PSs X body tb) : PS X (.While c body [] pos) (tWhile tc tb) := by
  intro pins s σ H D I h
  obtain ⟨W, ⟨m0, w0⟩, turn⟩ := h
  refine wpAny_While (codeAny_whileLoop (fun n s' => ∃ σ' H', Inv X pins σ' H' s' /\ W n σ' H') ?_ m0 ⟨σ, H, I, w0⟩)
  rintro n s1 ⟨σ1, H1, I1, w1⟩
  refine wpAny_passesOwn hp (thn (hc pins s1 σ1 H1 _ I1 (turn n σ1 H1 w1)) fun b s2 ⟨H2, I2, q2⟩ => ?_)
  cases b with
  | true =>
    obtain ⟨N, hN, q2⟩ := q2
    rw [if_pos rfl]
    refine wpAny_passesOwn hp (thn (hb pins s2 σ1 H2 _ I2 q2) fun f s3 q3 => ?_)
    cases f with
    | next =>
      obtain ⟨σ3, H3, I3, n3⟩ := q3
      obtain ⟨m', hm, w3⟩ := hN σ3 H3 n3
      exact ⟨m', hm, σ3, H3, I3, w3⟩
    | cont =>
      obtain ⟨σ3, H3, I3, n3⟩ := q3
      obtain ⟨m', hm, w3⟩ := hN σ3 H3 n3
      exact ⟨m', hm, σ3, H3, I3, w3⟩
    | brk => exact q3
    | ret v => exact q3
  | false =>
    rw [if_neg Bool.false_ne_true]
    exact wpAny_execs_nil ⟨σ1, H2, I2, q2⟩
end
structure It where
  go : Nat -> Hp -> Prop
  yld : Nat -> Hp -> V -> Hp -> Prop
  stop : Nat -> Hp -> Prop
noncomputable def FpOk (X : Cx) (pins : List (Addr × Obj)) (H : Hp) (b : Addr) : Prop :=
  H b = none /\ b ≠ X.env.locals /\ b ∉ X.fs /\ (b ∈ X.ex \/ X.s₀.heap.objs.size <= b) /\ (∀ x c, X.env.cells.lookup x = some c -> c ≠ b) /\ ∀ p ∈ X.pn ++ pins, p.1 ≠ b
theorem Inv.fpOk {X : Cx} {pins : List (Addr × Obj)} {σ : St} {H H' : Hp} {s : Shared} {b : Addr} (I : Inv X pins σ H s) (hb : s.heap.objs.size <= b) (hn : H' b = none) : FpOk X pins H' b := by
  refine ⟨hn, Nat.ne_of_gt (Nat.lt_of_lt_of_le I.lt hb), I.nofs hb, .inr (Nat.le_trans I.sz hb), fun x c e z => ?_, fun p hp z => ?_⟩
  · obtain ⟨v, q⟩ := I.cell x c e
    exact absurd (Nat.lt_of_lt_of_le q.lt (by rw [z]; exact hb)) (Nat.lt_irrefl _)
  · exact absurd (Nat.lt_of_lt_of_le (Heap.lt_size (I.pin p hp).1) (by rw [z]; exact hb)) (Nat.lt_irrefl _)
structure Turn (P : Program) (w : World) (K : PySem.W.Frag) (tg : Expr) (J : It) (fp : List Addr) (it : Addr) (tn : Nat -> Heap -> Prop) : Prop where
  mem : it ∈ fp
  obj : ∀ i h, tn i h -> ∀ b ∈ fp, ∃ o, h.get? b = some o /\ ∀ v, o.data ≠ .cell v
  keep : ∀ i h h', tn i h -> (∀ b ∈ fp, ∀ o, h.get? b = some o -> h'.get? b = some o) -> tn i h'
  item : ∀ (X : Cx), X.prog = P -> X.w = w -> X.K = K -> X.calm = true -> ∀ (i : Nat) (pins : List (Addr × Obj)) (s : Shared) (σ : St) (H : Hp) (E : Value -> Shared -> Prop), Inv X pins σ H s -> (∀ b ∈ fp, FpOk X pins H b) -> tn i s.heap -> J.go i H ->
    wpAny (model P w) X.A (pyNext (.ref it)) (fun r s1 => ∃ u, r = some u /\
      wpAny (model P w) X.A (letOwnedTupleGo tg (.ref it) u) (fun _ s2 => ∃ x H', Inv X pins σ H' s2 /\ RelV x u /\ J.yld i H x H' /\ tn (i + 1) s2.heap /\ ∀ b ∈ fp, H' b = none) E s1) E s
  done : ∀ (X : Cx), X.prog = P -> X.w = w -> X.K = K -> X.calm = true -> ∀ (i : Nat) (pins : List (Addr × Obj)) (s : Shared) (σ : St) (H : Hp) (E : Value -> Shared -> Prop), Inv X pins σ H s -> (∀ b ∈ fp, FpOk X pins H b) -> tn i s.heap -> J.stop i H ->
    wpAny (model P w) X.A (pyNext (.ref it)) (fun r s1 => r = none /\ Inv X pins σ H s1) E s
  self : ∀ (A : Around) (i : Nat) (s : Shared) (Q : Value -> Shared -> Prop) (E : Value -> Shared -> Prop), tn i s.heap -> Q (.ref it) s -> wpAny (model P w) A (pyIter (.ref it)) Q E s
noncomputable abbrev TI := St -> Hp -> (It -> Hp -> Prop) -> Prop
noncomputable def PIE (X : Cx) (pins : List (Addr × Obj)) (σ : St) (tg : Expr) (R : It -> Hp -> Prop) (itv : Value) (s2 : Shared) : Prop :=
  ∃ (it : Addr) (fp : List Addr) (tn : Nat -> Heap -> Prop) (J : It) (H' : Hp), itv = .ref it /\ Inv X pins σ H' s2 /\ Turn X.prog X.w X.K tg J fp it tn /\ tn 0 s2.heap /\ (∀ b ∈ fp, FpOk X pins H' b) /\ R J H'
noncomputable def PI (X : Cx) (tg iter : Expr) (wi : TI) : Prop :=
  ∀ (pins : List (Addr × Obj)) (s : Shared) (σ : St) (H : Hp) (R : It -> Hp -> Prop), Inv X pins σ H s -> wi σ H R ->
    wpAny (model X.prog X.w) X.A (eval iter X.env) (fun v s1 => wpAny (model X.prog X.w) X.A (pyIter v) (PIE X pins σ tg R) X.xe s1) X.xe s
theorem go_of {M : Model} {A : Around} {E : Value -> Shared -> Prop} {s : Shared} {tg : Expr} {it : Addr} {u : Value} {o : Obj} {n : String} {vs : Array Value} {Q : Unit -> Shared -> Prop} (ho : s.heap.get? it = some o) (hc : o.cls = .type n) (hd : o.data = .fields vs)
    (hn : ["enumerate", "zip", "dict_itemiterator", "dict_reverseitemiterator", "odict_iterator", "itertools.zip_longest", "itertools.pairwise"].contains n = false) (hQ : Q () s) : wpAny M A (letOwnedTupleGo tg (.ref it) u) Q E s := by
  unfold letOwnedTupleGo
  cases tg <;> first
    | exact wpAny_pure hQ
    | (cases u <;> first
        | exact wpAny_pure hQ
        | (refine wpAny_bind (wpAny_load ho ?_)
           rw [hc, hd]
           show wpAny M A (if (["enumerate", "zip", "dict_itemiterator", "dict_reverseitemiterator", "odict_iterator", "itertools.zip_longest", "itertools.pairwise"].contains n && vs[0]? == some (rawInt _)) = true then _ else _) Q E s
           rw [if_neg (by intro h; rw [hn, Bool.false_and] at h; cases h)]
           exact wpAny_pure hQ))
noncomputable def Itl (K : PySem.W.Frag) (a : Addr) : It :=
  ⟨fun i H => ∃ xs x, SqL K H a xs /\ xs[i]? = some x, fun i H x H' => H' = H /\ ∀ xs, SqL K H a xs -> xs[i]? = some x, fun i H => ∃ xs, SqL K H a xs /\ xs.length <= i⟩
noncomputable def Itt (K : PySem.W.Frag) (a : Addr) : It :=
  ⟨fun i H => ∃ xs x, SqT K H a xs /\ xs[i]? = some x, fun i H x H' => H' = H /\ ∀ xs, SqT K H a xs -> xs[i]? = some x, fun i H => ∃ xs, SqT K H a xs /\ xs.length <= i⟩
noncomputable def Itr (lo : Int) (n : Nat) : It := ⟨fun i _ => i < n, fun i H x H' => H' = H /\ x = .int (lo + i), fun i _ => n <= i⟩
theorem turn_list {P : Program} {w : World} {K : PySem.W.Frag} {tg : Expr} (a it : Addr) : Turn P w K tg (Itl K a) [it] it (fun i h => h.IsListIter it a i) where
  mem := by simp
  obj := fun i h st b hb => by
    have e : b = it := by simpa using hb
    subst e
    obtain ⟨o, e, c, d⟩ := st
    exact ⟨o, e, fun v z => by rw [d] at z; cases z⟩
  keep := fun i h h' st k => st.at fun o e => k it (by simp) o e
  item := by
    intro X hP hw hK hc i pins s σ H E I hf st hg
    subst hP hw hK
    obtain ⟨xs, x, hq, hx⟩ := hg
    obtain ⟨its, rv, p, hz⟩ := I.list hq
    obtain ⟨u, hu, ru⟩ := rv.get hx
    obtain ⟨f0, f1, f2, f3, f4, f5⟩ := hf it (by simp)
    refine wpAny_pyNext_list_item st p.isList (x := u) (by simpa using hu) fun h' st' sb => ?_
    have I1 : Inv X pins σ H { s with heap := h' } := I.turned (t' := s.toks) (fun b o hb e => (sb.2 b hb).trans e) f0 f1 f3 f4 f5
    obtain ⟨o, e, c, d⟩ := id st'
    exact ⟨u, rfl, go_of (s := { s with heap := h' }) e c d (by decide) ⟨x, H, I1, ru, ⟨rfl, fun ys hy => by rw [I.list_inj hy hq]; exact hx⟩, st', fun b hb => (hf b hb).1⟩⟩
  done := by
    intro X hP hw hK hc i pins s σ H E I hf st hg
    subst hP hw hK
    obtain ⟨xs, hq, hx⟩ := hg
    obtain ⟨its, rv, p, hz⟩ := I.list hq
    obtain ⟨f0, f1, f2, f3, f4, f5⟩ := hf it (by simp)
    have hl := rv.length
    exact wpAny_pyNext_list_end (I.ok.hd hc) st p.isList (by simp; lia) fun h' eb => ⟨rfl, I.turned (t' := s.toks) (fun b o hb e => eb b o hb e) f0 f1 f3 f4 f5⟩
  self := fun _ _ _ _ _ st h => wpAny_pyIter_listiter st h
theorem turn_tuple {P : Program} {w : World} {K : PySem.W.Frag} {tg : Expr} (a it : Addr) : Turn P w K tg (Itt K a) [it] it (fun i h => h.IsTupleIter it a i) where
  mem := by simp
  obj := fun i h st b hb => by
    have e : b = it := by simpa using hb
    subst e
    obtain ⟨o, e, c, d⟩ := st
    exact ⟨o, e, fun v z => by rw [d] at z; cases z⟩
  keep := fun i h h' st k => st.at fun o e => k it (by simp) o e
  item := by
    intro X hP hw hK hc i pins s σ H E I hf st hg
    subst hP hw hK
    obtain ⟨xs, x, hq, hx⟩ := hg
    obtain ⟨its, rv, p, hz⟩ := I.tuple hq
    obtain ⟨u, hu, ru⟩ := rv.get hx
    obtain ⟨f0, f1, f2, f3, f4, f5⟩ := hf it (by simp)
    refine wpAny_pyNext_tuple_item st (show s.heap.IsTuple a its.toArray from p) (x := u) (by simpa using hu) fun h' st' sb => ?_
    have I1 : Inv X pins σ H { s with heap := h' } := I.turned (t' := s.toks) (fun b o hb e => (sb.2 b hb).trans e) f0 f1 f3 f4 f5
    obtain ⟨o, e, c, d⟩ := id st'
    exact ⟨u, rfl, go_of (s := { s with heap := h' }) e c d (by decide) ⟨x, H, I1, ru, ⟨rfl, fun ys hy => by rw [I.tuple_inj hy hq]; exact hx⟩, st', fun b hb => (hf b hb).1⟩⟩
  done := by
    intro X hP hw hK hc i pins s σ H E I hf st hg
    subst hP hw hK
    obtain ⟨xs, hq, hx⟩ := hg
    obtain ⟨its, rv, p, hz⟩ := I.tuple hq
    obtain ⟨f0, f1, f2, f3, f4, f5⟩ := hf it (by simp)
    have hl := rv.length
    exact wpAny_pyNext_tuple_end (I.ok.hd hc) st (show s.heap.IsTuple a its.toArray from p) (by simp; lia) fun h' eb => ⟨rfl, I.turned (t' := s.toks) (fun b o hb e => eb b o hb e) f0 f1 f3 f4 f5⟩
  self := fun _ _ _ _ _ st h => wpAny_pyIter_tupleiter st h
theorem turn_range {P : Program} {w : World} {K : PySem.W.Frag} {tg : Expr} (it : Addr) (lo : Int) (n : Nat) : Turn P w K tg (Itr lo n) [it] it (fun i h => IsRangeIter h it (lo + (i : Nat) * 1) ((n : Int) - (i : Nat)) 1) where
  mem := by simp
  obj := fun i h st b hb => by
    have e : b = it := by simpa using hb
    subst e
    exact ⟨_, st, fun v z => by
      have z' : Data.fields _ = Data.cell v := z
      cases z'⟩
  keep := fun i h h' st k => k it (by simp) _ st
  item := by
    intro X hP hw hK hc i pins s σ H E I hf st hg
    subst hP hw hK
    obtain ⟨f0, f1, f2, f3, f4, f5⟩ := hf it (by simp)
    have W := Walks.range (prog := X.prog) (w := X.w) (I.ok.hd hc) it lo 1 n
    refine W.item i s _ _ hg st fun v h' tk hv st' kk => ?_
    obtain ⟨t, rfl⟩ := hv
    have I1 : Inv X pins σ H { s with heap := h', toks := tk } := I.turned (fun b o hb e => kk b o (by simpa using hb) e) f0 f1 f3 f4 f5
    refine ⟨_, rfl, go_of (s := { s with heap := h', toks := tk }) (n := "range_iterator") st' rfl rfl (by decide) ⟨.int (lo + i), H, I1, ⟨t, ?_⟩, ⟨rfl, rfl⟩, st', fun b hb => (hf b hb).1⟩⟩
    rw [Int.mul_one]
  done := by
    intro X hP hw hK hc i pins s σ H E I hf st hg
    subst hP hw hK
    obtain ⟨f0, f1, f2, f3, f4, f5⟩ := hf it (by simp)
    exact wpAny_pyNext_range_end (I.ok.hd hc) st (by have : n <= i := hg; lia) fun h' eb => ⟨rfl, I.turned (t' := s.toks) (fun b o hb e => eb b o hb e) f0 f1 f3 f4 f5⟩
  self := fun _ _ _ _ _ st h => wpAny_pyIter_rangeiter st h
end L2
namespace L2
open PySem PySem.Spec PyProof.Rows
section
variable {X : Cx} {tg : Expr}
noncomputable def iList (K : PySem.W.Frag) (tl : TE) : TI := fun σ H R => tl σ H fun x H1 => ∃ a, x = .ref a /\ (∃ xs, SqL K H1 a xs) /\ R (Itl K a) H1
noncomputable def iTup (K : PySem.W.Frag) (tl : TE) : TI := fun σ H R => tl σ H fun x H1 => ∃ a, x = .ref a /\ (∃ xs, SqT K H1 a xs) /\ R (Itt K a) H1
theorem pi_list {l : Expr} {tl : TE} (hl : PE X l tl) : PI X tg l (iList X.K tl) := by
  intro pins s σ H R I h
  refine thn (hl pins s σ H _ I h) fun v s1 ⟨x, H1, I1, r1, q1⟩ => ?_
  obtain ⟨a, e, ⟨xs, hq⟩, q⟩ := q1
  subst e
  cases r1
  obtain ⟨its, rv, p, hz⟩ := I1.list hq
  refine wpAny_pyIter_list p.isList ?_
  refine ⟨s1.heap.objs.size, [s1.heap.objs.size], _, _, H1, rfl, I1.kept (t' := s1.toks) fun b o e => Heap.get?_push_of_some _ e, turn_list a _, ⟨_, Heap.get?_push_size _ rfl, rfl, rfl⟩, fun b hb => ?_, q⟩
  have e : b = s1.heap.objs.size := by simpa using hb
  subst e
  exact I1.fpOk (Nat.le_refl _) (I1.hok.fresh (Nat.le_refl _))
theorem pi_tup {l : Expr} {tl : TE} (hl : PE X l tl) : PI X tg l (iTup X.K tl) := by
  intro pins s σ H R I h
  refine thn (hl pins s σ H _ I h) fun v s1 ⟨x, H1, I1, r1, q1⟩ => ?_
  obtain ⟨a, e, ⟨xs, hq⟩, q⟩ := q1
  subst e
  cases r1
  obtain ⟨its, rv, p, hz⟩ := I1.tuple hq
  refine wpAny_pyIter_tuple (show s1.heap.IsTuple a its.toArray from p) ?_
  refine ⟨s1.heap.objs.size, [s1.heap.objs.size], _, _, H1, rfl, I1.kept (t' := s1.toks) fun b o e => Heap.get?_push_of_some _ e, turn_tuple a _, ⟨_, Heap.get?_push_size _ rfl, rfl, rfl⟩, fun b hb => ?_, q⟩
  have e : b = s1.heap.objs.size := by simpa using hb
  subst e
  exact I1.fpOk (Nat.le_refl _) (I1.hok.fresh (Nat.le_refl _))
theorem range_it {pins : List (Addr × Obj)} {σ : St} {H : Hp} {s : Shared} {R : It -> Hp -> Prop} {E : Value -> Shared -> Prop} {lo hi : Int} {t u v : Tok} {tk : Nat} (I : Inv X pins σ H s) (h1 : -(2 ^ 62) <= lo) (h2 : lo < 2 ^ 62) (h3 : -(2 ^ 62) <= hi) (h4 : hi < 2 ^ 62)
    (q : R (Itr lo (hi - lo).toNat) H) : wpAny (model X.prog X.w) X.A (pyIter (.ref s.heap.objs.size)) (PIE X pins σ tg R) E { s with heap := s.heap.push { cls := .type "range", data := .fields #[.int lo t, .int hi u, .int 1 v] }, toks := tk } := by
  refine wpAny_pyIter_range (IsRange.new ..) (small_one h1 h2 h3 h4) ?_
  have I1 : Inv X pins σ H { s with heap := s.heap.push { cls := .type "range", data := .fields #[.int lo t, .int hi u, .int 1 v] }, toks := tk } := I.kept fun b o e => Heap.get?_push_of_some _ e
  refine ⟨(s.heap.push { cls := .type "range", data := .fields #[.int lo t, .int hi u, .int 1 v] }).objs.size, [(s.heap.push { cls := .type "range", data := .fields #[.int lo t, .int hi u, .int 1 v] }).objs.size], _, _, H, rfl,
    I1.kept (t' := tk) fun b o e => Heap.get?_push_of_some _ e, turn_range _ lo (hi - lo).toNat, ?_, fun b hb => ?_, q⟩
  · have e1 : lo + ((0 : Nat) : Int) * 1 = lo := by simp
    have e2 : (((hi - lo).toNat : Nat) : Int) - ((0 : Nat) : Int) = Builtin.Range.rangeSize lo hi 1 := by rw [rangeSize_one]; split <;> lia
    show IsRangeIter _ _ (lo + ((0 : Nat) : Int) * 1) ((((hi - lo).toNat : Nat) : Int) - ((0 : Nat) : Int)) 1
    rw [e1, e2]
    exact Heap.get?_push_size _ rfl
  · have e : b = (s.heap.push { cls := .type "range", data := .fields #[.int lo t, .int hi u, .int 1 v] }).objs.size := by simpa using hb
    subst e
    exact I1.fpOk (Nat.le_refl _) (I1.hok.fresh (Nat.le_refl _))
noncomputable def iRng1 (ta : TA) : TI := fun σ H R => ta σ H fun vs H1 => ∃ j : Int, vs = [.int j] /\ -(2 ^ 62) <= j /\ j < 2 ^ 62 /\ R (Itr 0 j.toNat) H1
theorem pi_range1 {a : Expr} {ta : TA} {p pos : Pos} (hg : Gl X "range") (hm : X.mg "range" = none) (ha : PA X [a] ta) (hs : starEach [a] X.env = [(false, eval a X.env)] := by rfl) : PI X tg (.Call (.Name "range" p) [a] [] pos) (iRng1 ta) := by
  intro pins s σ H R I h
  refine Call_ (ld_blt I hg hm boot_range (PyProof.Rows.callWith_type1 (thn (ha pos pins s σ H _ I h) fun us s1 ⟨vs, H1, I1, r1, q1⟩ => ?_) hs rfl))
  obtain ⟨j, e, q1, q2, q⟩ := q1
  subst e
  cases r1 with
  | cons r rr =>
    cases rr
    obtain ⟨t, rfl⟩ := r
    exact call_range_1 (range_it I1 (by lia) (by lia) q1 q2 (by simpa using q))
noncomputable def tFor (wi : TI) (g : TG) (tb : TS) : TS := fun D σ H => wi σ H fun J H1 => ∃ W : Nat -> Nat -> St -> Hp -> Prop, (∃ m, W 0 m σ H1) /\ ∀ i m σ H, W i m σ H ->
  (J.stop i H /\ D.nx σ H) \/ (J.go i H /\ ∃ N : St -> Hp -> Prop, (∀ σ' H', N σ' H' -> ∃ m', m' < m /\ W (i + 1) m' σ' H') /\ ∀ x H', J.yld i H x H' -> g x σ H' fun σ2 H2 => tb { D with nx := N, ct := N, bk := D.nx } σ2 H2)
noncomputable def pinsAt (fp : List Addr) (h : Heap) : List (Addr × Obj) := fp.filterMap fun b => (h.get? b).map fun o => (b, o)
theorem mem_pinsAt {fp : List Addr} {h : Heap} {b : Addr} {o : Obj} (hb : b ∈ fp) (e : h.get? b = some o) : (b, o) ∈ pinsAt fp h := List.mem_filterMap.mpr ⟨b, hb, by rw [e]; rfl⟩
theorem of_pinsAt {fp : List Addr} {h : Heap} {p : Addr × Obj} (hp : p ∈ pinsAt fp h) : p.1 ∈ fp /\ h.get? p.1 = some p.2 := by
  obtain ⟨b, hb, e⟩ := List.mem_filterMap.mp hp
  cases q : h.get? b with
  | none => rw [q] at e; cases e
  | some o =>
    rw [q] at e
    have e' : (b, o) = p := Option.some.inj e
    subst e'
    exact ⟨hb, q⟩
theorem Inv.pinned {pins : List (Addr × Obj)} {σ : St} {H : Hp} {s : Shared} {fp : List Addr} (I : Inv X pins σ H s) (hf : ∀ b ∈ fp, FpOk X pins H b) (ho : ∀ b ∈ fp, ∃ o, s.heap.get? b = some o /\ ∀ v, o.data ≠ .cell v) : Inv X (pins ++ pinsAt fp s.heap) σ H s :=
  I.pins_of fun p hp => (List.mem_append.mp hp).elim (fun z => I.pin p (List.mem_append_right _ z)) fun z => by
    obtain ⟨hb, e⟩ := of_pinsAt z
    obtain ⟨f0, f1, f2, _⟩ := hf p.1 hb
    obtain ⟨o, e', d⟩ := ho p.1 hb
    rw [e] at e'; cases e'
    exact ⟨e, f0, f1, f2, d⟩
theorem Inv.unpinned {pins pl : List (Addr × Obj)} {σ : St} {H : Hp} {s : Shared} (I : Inv X (pins ++ pl) σ H s) : Inv X pins σ H s := I.pins_of fun p hp => I.pin p (List.mem_append_right _ (List.mem_append_left _ hp))
theorem ps_for {iter : Expr} {body : List Stmt} {wi : TI} {g : TG} {tb : TS} {pos : Pos} (hp : PassesOwn (model X.prog X.w) X.A X.env X.xe) (hc : X.calm = true) (hi : PI X tg iter wi) (hg : PG X tg g) (hb : PSs X body tb)
    (hs : ∀ x, foldedSetIterable iter X.env x = pure x := by intro _; rfl) : PS X (.For tg iter body [] pos) (tFor wi g tb) := by
  intro pins s σ H D I h
  refine wpAny_For (thn (hi pins s σ H _ I h) fun v s1 h1 => thn h1 fun itv s2 h2 => ?_) hs
  obtain ⟨it, fp, tn, J, H2, e, I2, T, st2, f2, W, ⟨m0, w0⟩, turn⟩ := h2
  subst e
  -- what stays true of the iterator's objects through the loop
  have stat : ∀ {H' : Hp}, (∀ b ∈ fp, H' b = none) -> ∀ b ∈ fp, FpOk X pins H' b := fun hn b hb => ⟨hn b hb, (f2 b hb).2⟩
  refine codeAny_forLoop_any (fun n s' => ∃ i σ' H', Inv X pins σ' H' s' /\ tn i s'.heap /\ (∀ b ∈ fp, H' b = none) /\ W i n σ' H') ?_ m0 ⟨0, σ, H2, I2, st2, fun b hb => (f2 b hb).1, w0⟩
  rintro n s3 ⟨i, σ3, H3, I3, st3, fr3, w3⟩
  rcases turn i n σ3 H3 w3 with ⟨stop, qn⟩ | ⟨go, N, hN, step⟩
  · refine wpAny_passesOwn hp (thn (T.done X rfl rfl rfl hc i pins s3 σ3 H3 X.xe I3 (stat fr3) st3 stop) fun r s4 ⟨hr, I4⟩ => ?_)
    subst hr
    exact wpAny_execs_nil ⟨σ3, H3, I4, qn⟩
  · refine wpAny_passesOwn hp (thn (T.item X rfl rfl rfl hc i pins s3 σ3 H3 X.xe I3 (stat fr3) st3 go) fun r s4 ⟨u, hr, h4⟩ => ?_)
    subst hr
    refine wpAny_passesOwn hp (thn h4 fun _ s5 ⟨x, H5, I5, r5, y5, st5, fr5⟩ => ?_)
    have I5' := I5.pinned (stat fr5) (T.obj _ _ st5)
    refine wpAny_passesOwn hp (thn (hg _ s5 σ3 H5 x u _ I5' r5 (step x H5 y5)) fun _ s6 ⟨σ6, H6, I6, q6⟩ => ?_)
    refine wpAny_passesOwn hp (thn (hb _ s6 σ6 H6 _ I6 q6) fun f s7 q7 => ?_)
    have again : ∀ {σ7 : St} {H7 : Hp}, Inv X (pins ++ pinsAt fp s5.heap) σ7 H7 s7 -> N σ7 H7 -> ∃ m, m < n /\ ∃ i σ' H', Inv X pins σ' H' s7 /\ tn i s7.heap /\ (∀ b ∈ fp, H' b = none) /\ W i m σ' H' := fun {σ7 H7} I7 n7 => by
      obtain ⟨m', hm, w7⟩ := hN σ7 H7 n7
      refine ⟨m', hm, i + 1, σ7, H7, I7.unpinned, T.keep _ _ _ st5 fun b hb o e => (I7.pin (b, o) (List.mem_append_right _ (List.mem_append_right _ (mem_pinsAt hb e)))).1, fun b hb => ?_, w7⟩
      obtain ⟨o, e, d⟩ := T.obj _ _ st5 b hb
      exact (I7.pin (b, o) (List.mem_append_right _ (List.mem_append_right _ (mem_pinsAt hb e)))).2.1
    cases f with
    | next => obtain ⟨σ7, H7, I7, n7⟩ := q7; exact again I7 n7
    | cont => obtain ⟨σ7, H7, I7, n7⟩ := q7; exact again I7 n7
    | brk => obtain ⟨σ7, H7, I7, q7⟩ := q7; exact ⟨σ7, H7, I7.unpinned, q7⟩
    | ret v => obtain ⟨x7, σ7, H7, I7, r7, q7⟩ := q7; exact ⟨x7, σ7, H7, I7.unpinned, r7, q7⟩
end
theorem for_range {lo : Int} {n : Nat} {g : TG} {tb : TS} {D : Ends} {σ : St} {H : Hp} (Pv : Nat -> St -> Hp -> Prop) (h0 : Pv 0 σ H)
    (hs : ∀ i σ H, i < n -> Pv i σ H -> g (.int (lo + i)) σ H fun σ2 H2 => tb { D with nx := Pv (i + 1), ct := Pv (i + 1), bk := D.nx } σ2 H2) (hd : ∀ σ H, Pv n σ H -> D.nx σ H) :
    ∃ W : Nat -> Nat -> St -> Hp -> Prop, (∃ m, W 0 m σ H) /\ ∀ i m σ H, W i m σ H ->
      ((Itr lo n).stop i H /\ D.nx σ H) \/ ((Itr lo n).go i H /\ ∃ N : St -> Hp -> Prop, (∀ σ' H', N σ' H' -> ∃ m', m' < m /\ W (i + 1) m' σ' H') /\ ∀ x H', (Itr lo n).yld i H x H' -> g x σ H' fun σ2 H2 => tb { D with nx := N, ct := N, bk := D.nx } σ2 H2) := by
  refine ⟨fun i m σ H => m = n - i /\ i <= n /\ Pv i σ H, ⟨n, by simp, Nat.zero_le _, h0⟩, ?_⟩
  rintro i m σ H ⟨rfl, hi, p⟩
  by_cases hlt : i < n
  · refine .inr ⟨hlt, Pv (i + 1), fun σ' H' p' => ⟨n - (i + 1), by lia, rfl, hlt, p'⟩, fun x H' y => ?_⟩
    obtain ⟨e, y⟩ := y
    subst e y
    exact hs i σ _ hlt p
  · have e : i = n := by lia
    subst e
    exact .inl ⟨Nat.le_refl _, hd σ H p⟩
end L2
namespace L2
open PySem PySem.Spec PyProof.Rows
noncomputable abbrev R2 := V -> V -> Hp -> VK -> Prop
noncomputable def OpR (X : Cx) (f : Value -> Value -> Sem Value) (r : R2) : Prop :=
  ∀ (pins : List (Addr × Obj)) (s : Shared) (σ : St) (H : Hp) (x y : V) (v u : Value) (Q : VK), Inv X pins σ H s -> RelV x v -> RelV y u -> r x y H Q ->
    wpAny (model X.prog X.w) X.A (f v u) (EP X pins σ Q) X.xe s
noncomputable def CallR (X : Cx) (f : Value) (r : List V -> Hp -> VK -> Prop) : Prop :=
  ∀ (pins : List (Addr × Obj)) (s : Shared) (σ : St) (H : Hp) (xs : List V) (us : List Value) (Q : VK), Inv X pins σ H s -> Vals xs us -> r xs H Q ->
    wpAny (model X.prog X.w) X.A (call f us) (EP X pins σ Q) X.xe s
noncomputable def TruR (X : Cx) (r : V -> Hp -> (Bool -> Hp -> Prop) -> Prop) : Prop :=
  ∀ (pins : List (Addr × Obj)) (s : Shared) (σ : St) (H : Hp) (x : V) (v : Value) (Q : Bool -> Hp -> Prop), Inv X pins σ H s -> RelV x v -> r x H Q ->
    wpAny (model X.prog X.w) X.A (truthy v) (TP X pins σ Q) X.xe s
noncomputable def tOp (r : R2) (ta tb : TE) : TE := fun σ H Q => ta σ H fun x H1 => tb σ H1 fun y H2 => r x y H2 Q
noncomputable def rI (C : Int -> Int -> Prop) (g : Int -> Int -> V) : R2 := fun x y H Q => ∃ i j, x = .int i /\ y = .int j /\ C i j /\ Q (g i j) H
noncomputable def rI0 (g : Int -> Int -> V) : R2 := fun x y H Q => ∃ i j, x = .int i /\ y = .int j /\ Q (g i j) H
section
variable {X : Cx} {a b c : Expr} {ta tb tc : TE} {pos : Pos}
theorem binT (ha : PE X a ta) (hb : PE X b tb) {pins : List (Addr × Obj)} {s : Shared} {σ : St} {H : Hp} {R : V -> V -> Hp -> Prop} (I : Inv X pins σ H s)
    (h : ta σ H fun x H1 => tb σ H1 fun y H2 => R x y H2) {Q : Value -> Shared -> Prop} {f : Value -> Value -> Sem Value}
    (hf : ∀ v u s2 x y H2, Inv X pins σ H2 s2 -> RelV x v -> RelV y u -> R x y H2 -> wpAny (model X.prog X.w) X.A (f v u) Q X.xe s2) :
    wpAny (model X.prog X.w) X.A (eval a X.env) (fun v s₁ => wpAny (model X.prog X.w) X.A (eval b X.env) (fun u s₂ => wpAny (model X.prog X.w) X.A (f v u) Q X.xe s₂) X.xe s₁) X.xe s := by
  refine thn (ha pins s σ H _ I h) fun v s1 ⟨x, H1, I1, r1, q1⟩ => ?_
  refine thn (hb pins s1 σ H1 _ I1 q1) fun u s2 ⟨y, H2, I2, r2, q2⟩ => ?_
  exact hf v u s2 x y H2 I2 r1 r2 q2
theorem pe_op {op : Operator} {r : R2} (ho : OpR X (binaryOp op) r) (ha : PE X a ta) (hb : PE X b tb) : PE X (.BinOp a op b pos) (tOp r ta tb) := by
  intro pins s σ H Q I h
  exact wpAny_BinOp (binT ha hb I h fun v u s2 x y H2 I2 rx ry q => ho pins s2 σ H2 x y v u Q I2 rx ry q)
theorem opI {f : Value -> Value -> Sem Value} {C : Int -> Int -> Prop} {g : Int -> Int -> Int}
    (rule : ∀ (i j : Int) (t u : Tok) (s : Shared) (Q : Value -> Shared -> Prop) (E : Value -> Shared -> Prop), C i j -> Q (.int (g i j) s.toks) { s with toks := s.toks + 1 } -> wpAny (model X.prog X.w) X.A (f (.int i t) (.int j u)) Q E s) :
    OpR X f (rI C fun i j => .int (g i j)) := by
  intro pins s σ H x y v u Q I rx ry h
  obtain ⟨i, j, rfl, rfl, hc, q⟩ := h
  obtain ⟨t, rfl⟩ := rx
  obtain ⟨t', rfl⟩ := ry
  exact rule i j t t' s _ _ hc ⟨.int (g i j), H, I.tok _, ⟨_, rfl⟩, q⟩
theorem opI0 {f : Value -> Value -> Sem Value} {g : Int -> Int -> Int}
    (rule : ∀ (i j : Int) (t u : Tok) (s : Shared) (Q : Value -> Shared -> Prop) (E : Value -> Shared -> Prop), Q (.int (g i j) s.toks) { s with toks := s.toks + 1 } -> wpAny (model X.prog X.w) X.A (f (.int i t) (.int j u)) Q E s) :
    OpR X f (rI0 fun i j => .int (g i j)) := by
  intro pins s σ H x y v u Q I rx ry h
  obtain ⟨i, j, rfl, rfl, q⟩ := h
  obtain ⟨t, rfl⟩ := rx
  obtain ⟨t', rfl⟩ := ry
  exact rule i j t t' s _ _ ⟨.int (g i j), H, I.tok _, ⟨_, rfl⟩, q⟩
theorem opB0 {f : Value -> Value -> Sem Value} {g : Int -> Int -> Bool}
    (rule : ∀ (i j : Int) (t u : Tok) (s : Shared) (Q : Value -> Shared -> Prop) (E : Value -> Shared -> Prop), Q (.bool (g i j)) s -> wpAny (model X.prog X.w) X.A (f (.int i t) (.int j u)) Q E s) :
    OpR X f (rI0 fun i j => .bl (g i j)) := by
  intro pins s σ H x y v u Q I rx ry h
  obtain ⟨i, j, rfl, rfl, q⟩ := h
  obtain ⟨t, rfl⟩ := rx
  obtain ⟨t', rfl⟩ := ry
  exact rule i j t t' s _ _ ⟨.bl (g i j), H, I, rfl, q⟩
noncomputable def CPow (i j : Int) : Prop := 0 <= j /\ j <= 1000000 /\ i.natAbs < 2 ^ 64
noncomputable def CMul (i j : Int) : Prop := (-(2 ^ 64) < i /\ i < 2 ^ 64) \/ (-(2 ^ 64) < j /\ j < 2 ^ 64)
theorem CMul.ok {i j : Int} (h : CMul i j) : IntMulOk i j := by
  rcases h with ⟨h1, h2⟩ | ⟨h1, h2⟩
  · exact .of_left (intBits_le_64 h1 h2)
  · exact .of_right (intBits_le_64 h1 h2)
theorem op_add : OpR X (binaryOp .Add) (rI0 fun i j => .int (i + j)) := opI0 fun _ _ _ _ _ _ _ q => add_int q
theorem op_sub : OpR X (binaryOp .Sub) (rI0 fun i j => .int (i - j)) := opI0 fun _ _ _ _ _ _ _ q => sub_int q
theorem op_mul : OpR X (binaryOp .Mult) (rI CMul fun i j => .int (i * j)) := opI fun _ _ _ _ _ _ _ hc q => mul_int q hc.ok
theorem op_mod : OpR X (binaryOp .Mod) (rI (fun _ j => 0 < j) fun i j => .int (i % j)) := opI fun i j _ _ _ _ _ hc q => by
  have h1 : (0 : Int) < j := hc
  exact mod_int' (by lia) (by rw [Int.fmod_eq_emod_of_nonneg i (by lia)]; exact q)
theorem op_pow : OpR X (binaryOp .Pow) (rI CPow fun i j => .int (i ^ j.toNat)) := opI fun _ _ _ _ _ _ _ hc q => pow_int_small hc.1 hc.2.1 hc.2.2 q
end
noncomputable def scal : V -> V -> Bool
  | .non, .non => true | .non, .int _ => true | .int _, .non => true | .non, .bl _ => true | .bl _, .non => true | .non, .str _ => true | .str _, .non => true
  | .int _, .int _ => true | .bl _, .bl _ => true | .str _, .str _ => true | .byt _, .byt _ => true
  | .int _, .str _ => true | .str _, .int _ => true | .bl _, .str _ => true | .str _, .bl _ => true
  | _, _ => false
noncomputable def rEq : R2 := fun x y H Q => scal x y = true /\ Q (.bl (decide (x = y))) H
noncomputable def rNe : R2 := fun x y H Q => scal x y = true /\ Q (.bl (!decide (x = y))) H
theorem dec_int {i j : Int} : decide (V.int i = V.int j) = (i == j) := by
  rw [Bool.eq_iff_iff]
  simp
theorem dec_bl {i j : Bool} : decide (V.bl i = V.bl j) = (i == j) := by
  rw [Bool.eq_iff_iff]
  simp
theorem dec_str {i j : Str} : decide (V.str i = V.str j) = (i == j) := by
  rw [Bool.eq_iff_iff]
  simp
theorem dec_byt {i j : Array UInt8} : decide (V.byt i = V.byt j) = (i.toList == j.toList) := by
  rw [Bool.eq_iff_iff]
  cases i
  cases j
  simp
section
variable {X : Cx} {a b c : Expr} {ta tb tc : TE} {pos : Pos}
theorem fin_bl {pins : List (Addr × Obj)} {σ : St} {H : Hp} {s : Shared} {Q : VK} {k k' : Bool} (I : Inv X pins σ H s) (q : Q (.bl k) H) (e : k = k') : EP X pins σ Q (.bool k') s := by
  subst e
  exact ⟨.bl k, H, I, rfl, q⟩
theorem op_eq : OpR X (compareOp .Eq) rEq := by
  intro pins s σ H x y v u Q I rx ry h
  obtain ⟨hs, q⟩ := h
  cases x with
  | non =>
    cases rx
    cases y with
    | non => cases ry; exact PySem.EqNone.eq_none_none (fin_bl I q (by simp))
    | bl j => cases ry; exact PySem.EqNone.eq_none_bool (fin_bl I q (by simp))
    | int j => obtain ⟨t', rfl⟩ := ry; exact PySem.EqNone.eq_none_int (fin_bl I q (by simp))
    | str j => obtain ⟨t', rfl⟩ := ry; exact PySem.EqNone.eq_none_str (fin_bl I q (by simp))
    | _ => exact absurd (show false = true from hs) Bool.false_ne_true
  | bl i =>
    cases rx
    cases y with
    | non => cases ry; exact PySem.EqNone.eq_bool_none (fin_bl I q (by simp))
    | bl j => cases ry; exact eq_bool (fin_bl I q dec_bl)
    | str j => obtain ⟨t', rfl⟩ := ry; exact PySem.EqMixed.eq_bool_str (fin_bl I q (by simp))
    | _ => exact absurd (show false = true from hs) Bool.false_ne_true
  | int i =>
    obtain ⟨t, rfl⟩ := rx
    cases y with
    | non => cases ry; exact PySem.EqNone.eq_int_none (fin_bl I q (by simp))
    | int j => obtain ⟨t', rfl⟩ := ry; exact eq_int (fin_bl I q dec_int)
    | str j => obtain ⟨t', rfl⟩ := ry; exact PySem.EqMixed.eq_int_str (fin_bl I q (by simp))
    | _ => exact absurd (show false = true from hs) Bool.false_ne_true
  | str i =>
    obtain ⟨t, rfl⟩ := rx
    cases y with
    | non => cases ry; exact PySem.EqNone.eq_str_none (fin_bl I q (by simp))
    | bl j => cases ry; exact PySem.EqMixed.eq_str_bool (fin_bl I q (by simp))
    | int j => obtain ⟨t', rfl⟩ := ry; exact PySem.EqMixed.eq_str_int (fin_bl I q (by simp))
    | str j => obtain ⟨t', rfl⟩ := ry; exact eq_str (fin_bl I q dec_str)
    | _ => exact absurd (show false = true from hs) Bool.false_ne_true
  | byt i =>
    obtain ⟨t, rfl⟩ := rx
    cases y with
    | byt j => obtain ⟨t', rfl⟩ := ry; exact PySem.W.eq_bytes (fin_bl I q dec_byt)
    | _ => exact absurd (show false = true from hs) Bool.false_ne_true
  | _ => cases y <;> exact absurd (show false = true from hs) Bool.false_ne_true
theorem op_ne : OpR X (compareOp .NotEq) rNe := by
  intro pins s σ H x y v u Q I rx ry h
  obtain ⟨hs, q⟩ := h
  cases x with
  | non =>
    cases rx
    cases y with
    | non => cases ry; exact PySem.EqNone.ne_none_none (fin_bl I q (by simp))
    | bl j => cases ry; exact PySem.EqNone.ne_none_bool (fin_bl I q (by simp))
    | int j => obtain ⟨t', rfl⟩ := ry; exact PySem.EqNone.ne_none_int (fin_bl I q (by simp))
    | str j => obtain ⟨t', rfl⟩ := ry; exact PySem.EqNone.ne_none_str (fin_bl I q (by simp))
    | _ => exact absurd (show false = true from hs) Bool.false_ne_true
  | bl i =>
    cases rx
    cases y with
    | non => cases ry; exact PySem.EqNone.ne_bool_none (fin_bl I q (by simp))
    | bl j => cases ry; exact ne_bool (fin_bl I q (congrArg not dec_bl))
    | str j => obtain ⟨t', rfl⟩ := ry; exact PySem.EqMixed.ne_bool_str (fin_bl I q (by simp))
    | _ => exact absurd (show false = true from hs) Bool.false_ne_true
  | int i =>
    obtain ⟨t, rfl⟩ := rx
    cases y with
    | non => cases ry; exact PySem.EqNone.ne_int_none (fin_bl I q (by simp))
    | int j => obtain ⟨t', rfl⟩ := ry; exact ne_int (fin_bl I q (congrArg not dec_int))
    | str j => obtain ⟨t', rfl⟩ := ry; exact PySem.EqMixed.ne_int_str (fin_bl I q (by simp))
    | _ => exact absurd (show false = true from hs) Bool.false_ne_true
  | str i =>
    obtain ⟨t, rfl⟩ := rx
    cases y with
    | non => cases ry; exact PySem.EqNone.ne_str_none (fin_bl I q (by simp))
    | bl j => cases ry; exact PySem.EqMixed.ne_str_bool (fin_bl I q (by simp))
    | int j => obtain ⟨t', rfl⟩ := ry; exact PySem.EqMixed.ne_str_int (fin_bl I q (by simp))
    | str j => obtain ⟨t', rfl⟩ := ry; exact ne_str (fin_bl I q (congrArg not dec_str))
    | _ => exact absurd (show false = true from hs) Bool.false_ne_true
  | byt i =>
    obtain ⟨t, rfl⟩ := rx
    cases y with
    | byt j => obtain ⟨t', rfl⟩ := ry; exact PySem.W.ne_bytes (fin_bl I q (congrArg not dec_byt))
    | _ => exact absurd (show false = true from hs) Bool.false_ne_true
  | _ => cases y <;> exact absurd (show false = true from hs) Bool.false_ne_true
theorem op_lt : OpR X (compareOp .Lt) (rI0 fun i j => .bl (decide (i < j))) := opB0 fun _ _ _ _ _ _ _ q => lt_int q
theorem op_gt : OpR X (compareOp .Gt) (rI0 fun i j => .bl (decide (j < i))) := opB0 fun _ _ _ _ _ _ _ q => gt_int q
theorem op_ge : OpR X (compareOp .GtE) (rI0 fun i j => .bl (decide (j <= i))) := opB0 fun _ _ _ _ _ _ _ q => ge_int q
theorem OpR.or {f : Value -> Value -> Sem Value} {r r' : R2} (h : OpR X f r) (h' : OpR X f r') : OpR X f (fun x y H Q => r x y H Q \/ r' x y H Q) := by
  intro pins s σ H x y v u Q I rx ry q
  rcases q with q | q
  · exact h pins s σ H x y v u Q I rx ry q
  · exact h' pins s σ H x y v u Q I rx ry q
theorem nomark (b : Expr) {op : CmpOp} (h : op ≠ .In := by decide) (h2 : op ≠ .NotIn := by decide) : behindInMarks op b = false := by
  have e1 : (op == CmpOp.In) = false := by cases op <;> first | rfl | exact absurd rfl h
  have e2 : (op == CmpOp.NotIn) = false := by cases op <;> first | rfl | exact absurd rfl h2
  cases b <;> simp [behindInMarks, e1, e2]
theorem pe_cmpR {op : CmpOp} {r : R2} (ho : OpR X (compareOp op) r) (ha : PE X a ta) (hb : PE X b tb) (hm : behindInMarks op b = false) : PE X (.Compare a [op] [b] pos) (tOp r ta tb) := by
  intro pins s σ H Q I h
  exact wpAny_Compare1 (binT ha hb I h fun v u s2 x y H2 I2 rx ry q => ho pins s2 σ H2 x y v u Q I2 rx ry q) hm
noncomputable def tTest (t : TE) : TT := fun σ H Q => t σ H fun x H' => ∃ k, x = .bl k /\ Q k H'
theorem pt_cmpR {op : CmpOp} {r : R2} (ho : OpR X (compareOp op) r) (ha : PE X a ta) (hb : PE X b tb) (hm : behindInMarks op b = false) : PT X (.Compare a [op] [b] pos) (tTest (tOp r ta tb)) := by
  intro pins s σ H Q I h
  refine wpAny_isTrue_Compare1 (thn (ha pins s σ H _ I h) fun v s1 ⟨x, H1, I1, r1, q1⟩ => thn (hb pins s1 σ H1 _ I1 q1) fun u s2 ⟨y, H2, I2, r2, q2⟩ =>
    thn (ho pins s2 σ H2 x y v u _ I2 r1 r2 q2) fun c s3 ⟨z, H3, I3, r3, k, e, q3⟩ => ?_) hm
  subst e
  cases r3
  exact wpAny_truthy_bool ⟨H3, I3, q3⟩
noncomputable def TruV (K : PySem.W.Frag) (x : V) (H : Hp) (k : Bool) : Prop :=
  match x with
  | .non => k = false
  | .bl b => k = b
  | .int i => k = (i != 0)
  | .str y => y.length <= sizeLine /\ k = ((y.length : Int) != 0)
  | .byt y => y.size <= sizeLine /\ k = ((y.size : Int) != 0)
  | .ref p => (∃ xs, SqL K H p xs /\ k = !xs.isEmpty) \/ (∃ xs, SqT K H p xs /\ k = !xs.isEmpty) \/ ∃ kvs, H p = some (.dK kvs) /\ k = !kvs.isEmpty
  | _ => False
theorem isEmpty_kv {κ : Type} {kvs : List (κ × V)} {vs : List (κ × Value)} (r : KV kvs vs) : (!vs.isEmpty) = !kvs.isEmpty := by
  cases r <;> rfl
theorem isEmpty_of {xs : List V} {its : List Value} (r : Vals xs its) : (!its.toArray.isEmpty) = !xs.isEmpty := by
  cases r <;> simp
theorem line63 : (sizeLine : Nat) < 2 ^ 63 := by rw [sizeLine_eq]; decide
theorem tru_ok : TruR X (fun x H Q => ∃ k, TruV X.K x H k /\ Q k H) := by
  intro pins s σ H x v Q I rx h
  obtain ⟨k, e, q⟩ := h
  have hl := line63
  have hs : sizeLine = 16777216 := sizeLine_eq
  cases x with
  | non =>
    cases rx
    have e' : k = false := e
    subst e'
    exact truthy_none ⟨H, I, q⟩
  | bl b =>
    cases rx
    have e' : k = b := e
    subst e'
    exact wpAny_truthy_bool ⟨H, I, q⟩
  | int i =>
    obtain ⟨t, rfl⟩ := rx
    have e' : k = (i != 0) := e
    subst e'
    exact PySem.P.truthy_int ⟨H, I, q⟩
  | str y =>
    obtain ⟨t, rfl⟩ := rx
    obtain ⟨hy, e'⟩ : y.length <= sizeLine /\ k = ((y.length : Int) != 0) := e
    subst e'
    exact PySem.P.truthy_str (by lia) ⟨H, I.tok _, q⟩
  | byt y =>
    obtain ⟨t, rfl⟩ := rx
    obtain ⟨hy, e'⟩ : y.size <= sizeLine /\ k = ((y.size : Int) != 0) := e
    subst e'
    exact PySem.W.truthy_bytes (by lia) ⟨H, I.tok _, q⟩
  | ref p =>
    cases rx
    have e' : (∃ xs, SqL X.K H p xs /\ k = !xs.isEmpty) \/ (∃ xs, SqT X.K H p xs /\ k = !xs.isEmpty) \/ ∃ kvs, H p = some (.dK kvs) /\ k = !kvs.isEmpty := e
    rcases e' with ⟨xs, hx, e'⟩ | ⟨xs, hx, e'⟩ | ⟨kvs, hx, e'⟩
    · subst e'
      obtain ⟨its, r, pl, hz⟩ := I.list hx
      have hlen := r.length
      exact wpAny_truthy_list pl.isList (by simp only [List.size_toArray]; lia) ⟨H, I.tok _, by rw [isEmpty_of r]; exact q⟩
    · subst e'
      obtain ⟨its, r, pl, hz⟩ := I.tuple hx
      have hlen := r.length
      exact truthy_tuple pl (by simp only [List.size_toArray]; lia) ⟨H, I.tok _, by rw [isEmpty_of r]; exact q⟩
    · subst e'
      obtain ⟨hz, hS, vs, r, m⟩ : kvs.length <= sizeLine /\ (p == sysModules) = false /\ ∃ vs, KV kvs vs /\ s.heap.DictOf (mixKind X.prog X.w) p vs := I.hok p _ hx
      have hlen : kvs.length = vs.length := Paired.length r
      exact wpAny_truthy_dict hS m (by lia) ⟨H, I.tok _, by rw [isEmpty_kv r]; exact q⟩
  | _ => exact (show False from e).elim
theorem pt_truth (ha : PE X a ta) (he : ∀ whole, isTrue a X.env whole = (do let v <- whole; standAt a.pos; holding [v] (truthy v))) :
    PT X a (fun σ H Q => ta σ H fun x H' => ∃ k, TruV X.K x H' k /\ Q k H') := by
  intro pins s σ H Q I h
  exact isTrue_plain (thn (ha pins s σ H _ I h) fun v s1 ⟨x, H1, I1, r1, q1⟩ => tru_ok pins s1 σ H1 x v Q I1 r1 q1) (he _)
theorem op_add_str : OpR X (binaryOp .Add) (fun x y H Q => ∃ i j, x = .str i /\ y = .str j /\ i.length + j.length <= sizeLine /\ Q (.str (i ++ j)) H) := by
  intro pins s σ H x y v u Q I rx ry h
  obtain ⟨i, j, rfl, rfl, hz, q⟩ := h
  obtain ⟨t, rfl⟩ := rx
  obtain ⟨t', rfl⟩ := ry
  exact add_str (fun t' tk => ⟨.str (i ++ j), H, I.tok _, ⟨_, rfl⟩, q⟩) hz
theorem vals1 {x : V} {us : List Value} (r : Vals [x] us) : ∃ u, us = [u] /\ RelV x u := by
  cases r with
  | cons r1 r2 => cases r2; exact ⟨_, rfl, r1⟩
theorem vals2 {x y : V} {us : List Value} (r : Vals [x, y] us) : ∃ u w', us = [u, w'] /\ RelV x u /\ RelV y w' := by
  cases r with
  | cons r1 r2 =>
    cases r2 with
    | cons r3 r4 => cases r4; exact ⟨_, _, rfl, r1, r3⟩
theorem call_max2 (hc : X.calm = true) : CallR X (.builtin "max") (fun xs H Q => ∃ i j, xs = [.int i, .int j] /\ Q (.int (if j > i then j else i)) H) := by
  intro pins s σ H xs us Q I r h
  obtain ⟨i, j, rfl, q⟩ := h
  obtain ⟨u, w', rfl, ⟨t, rfl⟩, ⟨t', rfl⟩⟩ := vals2 r
  refine max_two_ints (I.ok.hd hc) fun h' tk k => ⟨_, H, I.kept k, ?_, q⟩
  by_cases hj : j > i
  · rw [if_pos hj, if_pos hj]; exact ⟨_, rfl⟩
  · rw [if_neg hj, if_neg hj]; exact ⟨_, rfl⟩
theorem call_int1 : CallR X (.type "int") (fun xs H Q => (∃ i, xs = [.int i] /\ Q (.int i) H) \/ ∃ k, xs = [.bl k] /\ Q (.int (if k then 1 else 0)) H) := by
  intro pins s σ H xs us Q I r h
  rcases h with ⟨i, rfl, q⟩ | ⟨k, rfl, q⟩
  · obtain ⟨u, rfl, t, rfl⟩ := vals1 r
    exact call_int_int ⟨.int i, H, I, ⟨_, rfl⟩, q⟩
  · obtain ⟨u, rfl, r1⟩ := vals1 r
    cases r1
    exact call_int_bool ⟨.int (if k then 1 else 0), H, I.tok _, ⟨_, rfl⟩, q⟩
end
end L2
namespace L2
open PySem PySem.Spec PyProof.Rows
structure ObjM (h : Heap) (x dx C : Addr) (mA : Str -> Option Value) : Prop where
  obj : h.get? x = some (PySem.W.instObj C dx)
  ns : h.Ns1 dx mA
  ne : dx ≠ x
theorem lookIn_ns {h : Heap} {dx : Addr} {mA : Str -> Option Value} (n : h.Ns1 dx mA) : ∃ od, h.get? dx = some od /\ ∀ name, PySem.W.lookIn name od = some (mA name) := by
  obtain ⟨o, es, ep, ho, hd, hk, _, hm⟩ := n
  refine ⟨o, ho, fun name => ?_⟩
  have e := hm name
  unfold nsFind findBy at e
  rw [<- Array.find?_toList] at e
  unfold PySem.W.lookIn
  rw [hd]
  dsimp only
  split
  · rename_i y q
    rw [q] at e
    exact congrArg some e
  · rename_i q
    rw [q] at e
    have a : es.toList.any (·.refKey) = false := by
      rw [List.any_eq_false]
      intro y hy
      obtain ⟨z, t, hkey⟩ := hk y (Array.mem_toList_iff.mp hy)
      simp [DictEntry.refKey, hkey]
    have a' : ¬ es.toList.any (·.refKey) = true := by rw [a]; exact Bool.false_ne_true
    rw [if_neg a']
    exact congrArg some e
theorem ObjM.look {h : Heap} {x dx C : Addr} {mA : Str -> Option Value} (I : ObjM h x dx C mA) : ∃ od, PySem.W.InstAt h x (PySem.W.instObj C dx) C (some od) /\ ∀ name, PySem.W.lookIn name od = some (mA name) :=
  let ⟨od, ho, hl⟩ := lookIn_ns I.ns
  ⟨od, ⟨I.obj, rfl, rfl, ho⟩, hl⟩
section
variable {prog : Program} {w : World} {A : Around} {E : Value -> Shared -> Prop} {s : Shared} {K : PySem.W.Frag} {x dx C f : Addr} {mA : Str -> Option Value} {name : Str} {v : Value}
end
theorem RelO.some_of {v : V} {o : Option Value} (r : RelO (some v) o) : ∃ u, o = some u /\ RelV v u := by
  cases o with
  | none => exact (show False from r).elim
  | some u => exact ⟨u, rfl, r⟩
section
variable {P : Program} {w : World} {H H' : Hp} {h h' : Heap} {a C dx : Addr} {fs fs' : List (Str × V)}
theorem ins_get (hok : HOk P w H h) (e : H a = some (.ins C dx fs)) : ∃ mA, ObjM h a dx C mA /\ (∀ f, RelO (fs.lookup f) (mA f)) /\ PySem.Within mA (fs.map (·.1)) /\ fs.length <= 1000 /\ H dx = some (.own a) := by
  obtain ⟨d, z, ne, ob, mA, n, r, q⟩ := (show ObjOk P w H h a (.ins C dx fs) from hok a _ e)
  exact ⟨mA, ⟨ob, n, ne⟩, r, q, z, d⟩
end
structure Cls (K : PySem.W.Frag) (C : Addr) : Prop where
  pg : PySem.W.plainGet K C Str.empty = true
  hd : PySem.W.hasDictIn K C = true
  po : PySem.W.plainOver K C = true
  sa : PySem.W.findIn K (.ref C) "__setattr__" = some (some (.builtin "object.__setattr__"))
theorem Cls.get {K : PySem.W.Frag} {C : Addr} (c : Cls K C) (f : Str) : PySem.W.plainGet K C f = true := c.pg
section
variable {X : Cx} {pins : List (Addr × Obj)} {σ : St} {H : Hp} {s : Shared} {a C dx : Addr} {fs : List (Str × V)} {f : Str} {v : V} {A : Around} {E : Value -> Shared -> Prop}
end
section
variable {X : Cx} {o e value : Expr} {f : Str} {pos pos' tpos : Pos} {ta tv : TE}
end
section
variable {X : Cx} {pins : List (Addr × Obj)} {σ : St} {H : Hp} {s : Shared} {A : Around} {E : Value -> Shared -> Prop} {Q : Value -> Shared -> Prop} {c : Value} {b : Bool}
inductive TyOf (K : PySem.W.Frag) (H : Hp) : V -> Value -> Prop where
  | non : TyOf K H .non (.type "NoneType")
  | bl (x : Bool) : TyOf K H (.bl x) (.type "bool")
  | int (i : Int) : TyOf K H (.int i) (.type "int")
  | str (x : Str) : TyOf K H (.str x) (.type "str")
  | flt (x : UInt64) : TyOf K H (.flt x) (.type "float")
  | lst {a : Addr} {xs : List V} (e : H a = some (.lst xs)) : TyOf K H (.ref a) (.type "list")
  | frz {a : Addr} {o : Obj} {xs : List V} (e : H a = some (.frz o (.lst xs))) : TyOf K H (.ref a) (.type "list")
  | tup {a : Addr} {xs : List V} (e : H a = some (.tup xs)) : TyOf K H (.ref a) (.type "tuple")
  | dK {a : Addr} {kvs : List (Key × V)} (e : H a = some (.dK kvs)) : TyOf K H (.ref a) (.type "dict")
  | dT {a : Addr} {kvs : List (List Key × V)} (e : H a = some (.dT kvs)) : TyOf K H (.ref a) (.type "dict")
  | ins {a C dx : Addr} {fs : List (Str × V)} (e : H a = some (.ins C dx fs)) (cl : Cls K C) (ha : PySem.W.findIn K (.ref C) "__class__" = some (some (.builtin "object.__class__")))
      (hn : PySem.W.specialIn K (.builtin "object.__class__") "__get__" = some (some (.builtin "getset_descriptor.__get__"))) (htk : PySem.W.takesIn K (.builtin "object.__class__") = some true)
      (hm : PySem.W.mroIn K C (.type "object") = some true) : TyOf K H (.ref a) (.ref C)
theorem isinst_ok {x : V} {u t : Value} (I : Inv X pins σ H s) (rx : RelV x u) (ty : TyOf X.K H x t) (e : PySem.W.kitOne X.K t c = some b) (h : ∀ tk, Q (.bool b) { s with toks := tk }) :
    wpAny (model X.prog X.w) A (call (.builtin "isinstance") [u, c]) Q E s := by
  cases ty with
  | non => cases (show u = Value.none from rx); exact PySem.W.kia_one PySem.W.kitx_none I.kIn True.intro e (fun z => nomatch z) h
  | bl y => cases (show u = Value.bool y from rx); exact PySem.W.kia_one PySem.W.kitx_bool I.kIn True.intro e (fun z => nomatch z) h
  | int i => obtain ⟨t, q⟩ := (show ∃ t, u = Value.int i t from rx); cases q; exact PySem.W.kia_one PySem.W.kitx_int I.kIn True.intro e (fun z => nomatch z) h
  | str y => obtain ⟨t, q⟩ := (show ∃ t, u = Value.str y t from rx); cases q; exact PySem.W.kia_one PySem.W.kitx_str I.kIn True.intro e (fun z => nomatch z) h
  | flt y => obtain ⟨t, q⟩ := (show ∃ t, u = Value.float y t from rx); cases q; exact PySem.W.kia_one PySem.W.kitx_float I.kIn True.intro e (fun z => nomatch z) h
  | @lst a xs ea =>
    cases (show u = Value.ref a from rx)
    obtain ⟨_, _, n, _, h1⟩ := (show ObjOk X.prog X.w H s.heap a (.lst xs) from I.hok a _ ea)
    exact PySem.W.kia_one PySem.W.kitx_list I.kIn ⟨_, h1, rfl⟩ e (fun z => nomatch z) h
  | @frz a ob xs ea =>
    cases (show u = Value.ref a from rx)
    obtain ⟨_, _, _, n, _, h1⟩ := (show ObjOk X.prog X.w H s.heap a (.frz ob (.lst xs)) from I.hok a _ ea)
    exact PySem.W.kia_one PySem.W.kitx_list I.kIn ⟨_, h1, rfl⟩ e (fun z => nomatch z) h
  | @tup a xs ea =>
    cases (show u = Value.ref a from rx)
    obtain ⟨_, _, _, p⟩ := (show ObjOk X.prog X.w H s.heap a (.tup xs) from I.hok a _ ea)
    obtain ⟨o, h1, h2, _⟩ := p
    exact PySem.W.kia_one PySem.W.kitx_tuple I.kIn ⟨o, h1, h2⟩ e (fun z => nomatch z) h
  | @dK a kvs ea =>
    cases (show u = Value.ref a from rx)
    obtain ⟨_, _, vs, _, p⟩ := (show ObjOk X.prog X.w H s.heap a (.dK kvs) from I.hok a _ ea)
    obtain ⟨o, es, ep, h1, h2, _⟩ := p
    exact PySem.W.kia_one PySem.W.kitx_dict I.kIn ⟨o, h1, h2.1⟩ e (fun z => nomatch z) h
  | @dT a kvs ea =>
    cases (show u = Value.ref a from rx)
    obtain ⟨_, _, xs, _, o, es, ep, h1, h2, _⟩ := (show ObjOk X.prog X.w H s.heap a (.dT kvs) from I.hok a _ ea)
    exact PySem.W.kia_one PySem.W.kitx_dict I.kIn ⟨o, h1, h2.1⟩ e (fun z => nomatch z) h
  | @ins a C dx fs ea cl ha hn htk hm =>
    cases (show u = Value.ref a from rx)
    obtain ⟨mA, O, _⟩ := ins_get I.hok ea
    obtain ⟨od, J, _⟩ := O.look
    exact PySem.W.kia_one (PySem.W.kitx_own (cl.get _) cl.hd ha hn htk hm) I.kIn J e (fun z => nomatch z) h
end
end L2
namespace L2
open PySem PySem.Spec PyProof.Rows
structure Room (k : Nat) (A : Around) : Prop where
  hd : A.handled = none
  dp : A.depth + 3 * k + 5 < recursionLimit
  un : A.units + 16 * k + 200 < cLine
theorem Room.mono {j k : Nat} {A : Around} (r : Room k A) (h : j <= k) : Room j A := ⟨r.hd, by have := r.dp; lia, by have := r.un; lia⟩
theorem Room.deeper {k : Nat} {A : Around} (r : Room (k + 1) A) (env : Env) : Room k (A.deeper env) :=
  ⟨r.hd, by have := r.dp; show A.depth + 1 + 3 * k + 5 < _; lia, by have := r.un; show A.units + 3 + 16 * k + 200 < _; lia⟩
theorem Room.depth {k : Nat} {A : Around} (r : Room k A) : A.depth < recursionLimit := by have := r.dp; lia
theorem Room.units {k : Nat} {A : Around} (r : Room k A) : A.units + 64 < cLine := by have := r.un; lia
noncomputable def tNil : TA := fun _ H Q => Q [] H
noncomputable def tCons (ta : TE) (tr : TA) : TA := fun σ H Q => ta σ H fun x H1 => tr σ H1 fun xs H2 => Q (x :: xs) H2
section
variable {X : Cx} {e : Expr} {es : List Expr} {te : TE} {t : TA} {pos : Pos}
theorem pa_nil : PA X [] tNil := fun _ _ _ _ H Q I h => Calls.spliced_nil ⟨[], H, I, .nil, h⟩
theorem pa_cons (ha : PE X e te) (hr : PA X es t) (hs : starEach (e :: es) X.env = (false, eval e X.env) :: starEach es X.env := by rfl) : PA X (e :: es) (tCons te t) := by
  intro pos pins s σ H Q I h
  rw [hs]
  show wpAny _ _ (spliced ((false, eval e X.env) :: backTo pos (starEach es X.env))) _ _ s
  refine Calls.spliced_cons (thn (ha pins s σ H _ I h) fun u s1 ⟨x, H1, I1, r1, q1⟩ => ?_)
  exact thn (hr pos pins s1 σ H1 _ I1 q1) fun us s2 ⟨xs, H2, I2, r2, q2⟩ => ⟨x :: xs, H2, I2, .cons r1 r2, q2⟩
noncomputable def tTup (t : TA) : TE := fun σ H Q => t σ H fun xs H1 => xs.length <= sizeLine /\ ∀ p, H1 p = none -> Q (.ref p) (upd H1 p (.tup xs))
noncomputable def tLst (t : TA) : TE := fun σ H Q => t σ H fun xs H1 => xs.length <= sizeLine /\ ∀ p, H1 p = none -> Q (.ref p) (upd H1 p (.lst xs))
theorem pe_tup {x1} (h : PA X es t) : PE X (.Tuple es x1 pos) (tTup t) := by
  intro pins s σ H Q I hq
  refine wpAny_Tuple_spliced (thn (h pos pins s σ H _ I hq) fun us s1 ⟨xs, H1, I1, r, z, q⟩ => ⟨by rw [<- r.length]; exact z, ?_⟩)
  have hf : H1 s1.heap.objs.size = none := I1.hok.fresh (Nat.le_refl _)
  refine ⟨.ref s1.heap.objs.size, upd H1 s1.heap.objs.size (.tup xs), I1.laid (t' := s1.toks) (fun b u e => Heap.get?_push_of_some _ e) (Nat.le_refl _) ?_, rfl, q _ hf⟩
  exact ⟨tupD_new z, us, r, ⟨_, Heap.get?_push_size _ rfl, rfl, _, rfl⟩⟩
theorem pe_lst (h : PA X es t) : PE X (.List es pos) (tLst t) := by
  intro pins s σ H Q I hq
  refine wpAny_List_spliced (thn (h pos pins s σ H _ I hq) fun us s1 ⟨xs, H1, I1, r, z, q⟩ => ⟨by rw [<- r.length]; exact z, ?_⟩)
  have hf : H1 s1.heap.objs.size = none := I1.hok.fresh (Nat.le_refl _)
  refine ⟨.ref s1.heap.objs.size, upd H1 s1.heap.objs.size (.lst xs), I1.laid (t' := s1.toks) (fun b u e => Heap.get?_push_of_some _ e) (Nat.le_refl _) ?_, rfl, q _ hf⟩
  exact ⟨z, us, 0, r, Heap.get?_push_size _ rfl⟩
end
noncomputable abbrev Sp := List V -> Hp -> VK -> XK -> Prop
noncomputable abbrev CXT := List Env -> Hp -> Shared -> XK -> Value -> Shared -> Prop
structure Env0 (P : Program) (w : World) (K : PySem.W.Frag) (mg : Str -> Option Value) (base : Heap) (A : Around) (outer : List Env) (s : Shared) (H : Hp) : Prop where
  frames : A.frames = some outer
  mod : Mod K mg base
  bs : ∀ b o, base.get? b = some o -> s.heap.get? b = some o /\ H b = none
  bsz : base.objs.size <= s.heap.objs.size
  funs : s.heap.FunFrames base outer
  frf : ∀ b ∈ frs outer, H b = none
  hok : HOk P w H s.heap
  bare : AllBare s.gens
noncomputable def CE (outer : List Env) (P : Program) (w : World) (H : Hp) (s : Shared) (Q : VK) (u : Value) (s' : Shared) : Prop :=
  ∃ v H', s'.os = s.os /\ AllBare s'.gens /\ Un (frs outer) [] H H' s.heap s'.heap /\ HOk P w H' s'.heap /\ RelV v u /\ Q v H'
noncomputable def CR (CX : CXT) (outer : List Env) (P : Program) (w : World) (H : Hp) (s : Shared) (Q : VK) (E : XK) (r : Result) (s' : Shared) : Prop :=
  match r with
  | .ok (.ret u) => CE outer P w H s Q u s'
  | .ok _ => False
  | .error e => CX outer H s E e s'
structure FnOk (P : Program) (w : World) (K : PySem.W.Frag) (mg : Str -> Option Value) (base : Heap) (CX : CXT) (k : Nat) (f : Addr) (fd : FuncData) (ps : List Str) (sp : Sp) : Prop where
  len : ∀ vs H Q E, sp vs H Q E -> vs.length = ps.length
  run : ∀ (A : Around) (outer : List Env) (s : Shared) (H : Hp) (args : Args) (us : List Value) (vs : List V) (Q : VK) (E : XK), Room k A -> Env0 P w K mg base A outer s H -> BindsTo s fd args (ps.zip us) -> Vals vs us -> sp vs H Q E ->
    codeAny (model P w) A (.call (.ref f) args) (CR CX outer P w H s Q E) s
theorem FnOk.mono {P : Program} {w : World} {K : PySem.W.Frag} {mg : Str -> Option Value} {base : Heap} {CX : CXT} {j k : Nat} {f : Addr} {fd : FuncData} {ps : List Str} {sp : Sp} (F : FnOk P w K mg base CX j f fd ps sp) (h : j <= k) :
    FnOk P w K mg base CX k f fd ps sp := ⟨F.len, fun A outer s H args us vs Q E hr => F.run A outer s H args us vs Q E (hr.mono h)⟩
section
variable {X : Cx} {pins : List (Addr × Obj)} {σ : St} {H : Hp} {s s' : Shared}
theorem Inv.env0 (I : Inv X pins σ H s) : Env0 X.prog X.w X.K X.mg X.base X.A X.stack s H :=
  ⟨I.ok.frames, I.ok.mod, I.bs, Nat.le_trans I.ok.bsz I.sz, I.stack, I.stkFree, I.hok, I.bare⟩
theorem Inv.after {Q : VK} {u : Value} (I : Inv X pins σ H s) (h : CE X.stack X.prog X.w H s Q u s') : EP X pins σ Q u s' := by
  obtain ⟨v, H', os, bare, un, hok, r, q⟩ := h
  obtain ⟨hh, g, d, t, os'⟩ := s'
  obtain rfl : os' = s.os := os
  exact ⟨v, H', I.call (h' := hh) (g' := g) (d' := d) (t' := t) (ch := []) un hok bare (fun b z => absurd z (by simp)), r, q⟩
end
noncomputable def tCall (sp : Sp) (dvs : List V) (E : XK) (t : TA) : TE := fun σ H Q => t σ H fun vs H1 => sp (vs ++ dvs) H1 Q E
noncomputable def Binds (K : PySem.W.Frag) (fd : FuncData) (ps : List Str) (ds : List Value) : Prop :=
  ∀ (s : Shared) (us : List Value), K.In s.heap -> (us ++ ds).length = ps.length -> BindsTo s fd ⟨us, []⟩ (ps.zip (us ++ ds))
theorem Binds.all {K : PySem.W.Frag} {fd : FuncData} {ps : List Str} (h : ∀ us : List Value, us.length = ps.length -> bindArgs fd ⟨us, []⟩ = pure (ps.zip us)) : Binds K fd ps [] := fun s us _ hl => by
  rw [List.append_nil] at hl ⊢
  exact .of_eq (h us hl)
noncomputable def Passes (CX : CXT) (X : Cx) (E : XK) : Prop := ∀ (pins : List (Addr × Obj)) (σ : St) (H : Hp) (s : Shared) (e : Value) (s' : Shared), Inv X pins σ H s -> CX X.stack H s E e s' -> X.xe e s'
section
variable {X : Cx} {CX : CXT} {k : Nat} {f C : Addr} {fd : FuncData} {ps : List Str} {sp : Sp} {dvs : List V} {ds : List Value} {E : XK} {x m : Str} {p pos apos : Pos} {e o : Expr} {es : List Expr} {ta : TE} {t : TA}
theorem run_fn {pins : List (Addr × Obj)} {σ : St} {H : Hp} {s : Shared} {Q : VK} {us : List Value} {vs : List V} (F : FnOk X.prog X.w X.K X.mg X.base CX k f fd ps sp) (hr : Room k X.A) (hb : Binds X.K fd ps ds) (hd : Vals dvs ds) (hx : Passes CX X E)
    (I : Inv X pins σ H s) (r : Vals vs us) (h : sp (vs ++ dvs) H Q E) : wpAny (model X.prog X.w) X.A (call (.ref f) us) (EP X pins σ Q) X.xe s := by
  have r2 : Vals (vs ++ dvs) (us ++ ds) := r.append hd
  have hl : (us ++ ds).length = ps.length := by rw [<- r2.length]; exact F.len _ _ _ _ h
  refine wpAny_call (codeAny_mono (F.run X.A X.stack s H ⟨us, []⟩ (us ++ ds) (vs ++ dvs) Q E hr I.env0 (hb s us I.kIn hl) r2 h) fun r s' hq => ?_)
  cases r with
  | error e => exact hx pins σ H s e s' I hq
  | ok fl =>
    cases fl with
    | ret u => exact I.after hq
    | next => exact False.elim hq
    | brk => exact False.elim hq
    | cont => exact False.elim hq
theorem pe_call (F : FnOk X.prog X.w X.K X.mg X.base CX k f fd ps sp) (hr : Room k X.A) (hg : Gl X x) (hm : X.mg x = some (.ref f)) (hk : PySem.W.keepIn X.K (.ref f) = true) (hb : Binds X.K fd ps ds) (hd : Vals dvs ds) (hx : Passes CX X E)
    (ha : PA X (e :: es) t) (hdb : (x == ("__debug__" : Str)) = false := by decide) (he : starEach (e :: es) X.env = (false, eval e X.env) :: starEach es X.env := by rfl) (hpl : (backTo pos (starEach es X.env)).any (·.1) = false := by rfl) :
    PE X (.Call (.Name x p) (e :: es) [] pos) (tCall sp dvs E t) := by
  intro pins s σ H Q I h
  refine wpAny_Call_Name_kw (ld_glob I hg hm ?_ hdb)
  refine PySem.W.callWith_K (h₀ := X.base) I.ok.mod.kin hk (thn (ha pos pins s σ H _ I h) fun us s1 ⟨vs, H1, I1, r, q⟩ => ⟨I1.kIn, ?_⟩) he hpl
  exact run_fn F hr hb hd hx I1 r q
end
section
variable {X : Cx} {CX : CXT} {k : Nat} {f C : Addr} {fd : FuncData} {ps ks : List Str} {sp : Sp} {E : XK} {x m : Str} {p pos apos kpos : Pos} {e o : Expr} {es : List Expr} {kws : List Keyword} {te ta : TE} {t tk : TA} {nm : Option Str}
variable {g : List Value -> List Value -> List Value} {gV : List V -> List V -> List V}
end
structure FnScope (N P : List Str) (sc : Scope) : Prop where
  kind : sc.kind = .function
  co : sc.isCoroutine = false
  gen : sc.isGenerator = false
  nd : N.Nodup
  pre : N.take P.length = P
  par : ∀ x ∈ P, sc.names.lookup x = some .local \/ sc.names.lookup x = some .cell
  nofree : ∀ y ∈ sc.names, y.2 ≠ .free
theorem bindL_out {kindOf : Str -> Option NameKind} {x : Str} : ∀ {binds : List (Str × Value)} {m : Str -> Option Value}, (∀ v, (x, v) ∉ binds) -> bindL kindOf binds m x = m x
  | [], _, _ => rfl
  | (n, v) :: r, m, h => by
    unfold bindL
    rw [bindL_out fun w hw => h w (List.mem_cons_of_mem _ hw)]
    split
    · have : x ≠ n := by rintro rfl; exact h v List.mem_cons_self
      simp [this]
    · rfl
theorem bindC_out {kindOf : Str -> Option NameKind} {x : Str} : ∀ {binds : List (Str × Value)} {m : Str -> Option Value}, (∀ v, (x, v) ∉ binds) -> bindC kindOf binds m x = m x
  | [], _, _ => rfl
  | (n, v) :: r, m, h => by
    unfold bindC
    rw [bindC_out fun w hw => h w (List.mem_cons_of_mem _ hw)]
    split
    · rfl
    · have : x ≠ n := by rintro rfl; exact h v List.mem_cons_self
      simp [this]
theorem bindL_get {kindOf : Str -> Option NameKind} {x : Str} {v : Value} : ∀ {P : List Str} {vs : List Value} {i : Nat} {m : Str -> Option Value}, P.Nodup -> P[i]? = some x -> vs[i]? = some v -> kindOf x = some .local ->
    bindL kindOf (P.zip vs) m x = some v
  | [], _, _, _, _, h, _, _ => by simp at h
  | _ :: _, [], _, _, _, _, h, _ => by simp at h
  | p :: P, w :: vs, 0, m, nd, h1, h2, hk => by
    simp at h1 h2; subst h1; subst h2
    show bindL kindOf ((p, w) :: P.zip vs) m p = _
    unfold bindL
    rw [bindL_out fun v hv => (List.nodup_cons.mp nd).1 (List.of_mem_zip hv).1, if_pos hk]
    simp
  | p :: P, w :: vs, i + 1, m, nd, h1, h2, hk => by
    show bindL kindOf ((p, w) :: P.zip vs) m x = _
    unfold bindL
    exact bindL_get (i := i) (List.nodup_cons.mp nd).2 (by simpa using h1) (by simpa using h2) hk
theorem bindC_get {kindOf : Str -> Option NameKind} {x : Str} {v : Value} : ∀ {P : List Str} {vs : List Value} {i : Nat} {m : Str -> Option Value}, P.Nodup -> P[i]? = some x -> vs[i]? = some v -> kindOf x ≠ some .local ->
    bindC kindOf (P.zip vs) m x = some v
  | [], _, _, _, _, h, _, _ => by simp at h
  | _ :: _, [], _, _, _, _, h, _ => by simp at h
  | p :: P, w :: vs, 0, m, nd, h1, h2, hk => by
    simp at h1 h2; subst h1; subst h2
    show bindC kindOf ((p, w) :: P.zip vs) m p = _
    unfold bindC
    rw [bindC_out fun v hv => (List.nodup_cons.mp nd).1 (List.of_mem_zip hv).1, if_neg hk]
    simp
  | p :: P, w :: vs, i + 1, m, nd, h1, h2, hk => by
    show bindC kindOf ((p, w) :: P.zip vs) m x = _
    unfold bindC
    exact bindC_get (i := i) (List.nodup_cons.mp nd).2 (by simpa using h1) (by simpa using h2) hk
noncomputable def start (N : List Str) (vs : List V) : St := vs.map some ++ List.replicate (N.length - vs.length) none
noncomputable def cxOf (CX : CXT) (P : Program) (w : World) (K : PySem.W.Frag) (mg : Str -> Option Value) (base : Heap) (N : List Str) (qual : Str) (scope : Scope) (f : Addr) (cd : Value) (A : Around) (outer : List Env) (s : Shared) (H : Hp) (E : XK) : Cx where
  prog := P
  w := w
  K := K
  mg := mg
  base := base
  A := A.deeper (envOfC qual scope s.heap.objs.size f cd)
  N := N
  s₀ := s
  H₀ := H
  env := envOfC qual scope s.heap.objs.size f cd
  outer := outer
  stack := envOfC qual scope s.heap.objs.size f cd :: outer
  ex := []
  calm := true
  fn := fun _ => true
  pn := []
  xe := fun e s' => wpAny (model P w) (A.deeper (envOfC qual scope s.heap.objs.size f cd)) (leaving (envOfC qual scope s.heap.objs.size f cd) e) (fun _ s'' => CX outer H s E e s'') (fun e' s'' => CX outer H s E e' s'') s'
theorem cell_has {sc : Scope} {n : Nat} {x : Str} (h : sc.names.lookup x = some .cell) : ∃ c, (cellsFrom n sc.names []).lookup x = some c := by
  have q := PySem.W.cellsFrom_some sc.names n [] (.inl h)
  exact Option.isSome_iff_exists.mp q
theorem inv_start {CX : CXT} {P : Program} {w : World} {K : PySem.W.Frag} {mg : Str -> Option Value} {base : Heap} {N ps : List Str} {qual : Str} {scope : Scope} {f : Addr} {cd : Value} {A : Around} {outer : List Env} {s s1 : Shared} {H : Hp} {E : XK} {us : List Value} {vs : List V}
    (S : FnScope N ps scope) (hd : A.handled = none) (e0 : Env0 P w K mg base A outer s H) (hl : vs.length = ps.length) (r : Vals vs us)
    (x : InCallC s s.heap.objs.size (bindL (envOfC qual scope s.heap.objs.size f cd).kindOf (ps.zip us) fun _ => none) (cellsFrom (s.heap.objs.size + 1) scope.names []) (bindC (envOfC qual scope s.heap.objs.size f cd).kindOf (ps.zip us) fun _ => none) s1) :
    Inv (cxOf CX P w K mg base N qual scope f cd A outer s H E) [] (start N vs) H s1 := by
  have hpl : ps.length <= N.length := by have := congrArg List.length S.pre; rw [List.length_take] at this; lia
  obtain ⟨h1, tk, rfl, hk⟩ := x.done
  have noA : ∀ b : Addr, b ∉ (cxOf CX P w K mg base N qual scope f cd A outer s H E).ex := fun b z => absurd (show b ∈ ([] : List Addr) from z) (by simp)
  refine ⟨⟨e0.mod, S.kind, rfl, rfl, Nat.le_refl _, fun y z c h1 h2 => ?_, fun y hy => ?_, fun y c _ h => ?_, fun _ => hd, Around.frames_deeper e0.frames, .inr ⟨rfl, rfl⟩, fun b z => absurd z (noA b), e0.bs, e0.bsz, fun b _ _ => noA b, fun b z => absurd z (noA b), e0.funs, e0.frf⟩,
    rfl, e0.bare, Un.kept hk, ⟨_, x.toInCall.ns, fun i y v h1 h2 h3 => ?_⟩, fun y c h => ⟨_, x.cell y c h⟩, e0.hok.fresh (Nat.le_refl _), fun y c h => ?_, fun p hp => absurd (show p ∈ ([] : List (Addr × Obj)) from hp) (by simp), e0.hok.kept hk, ?_⟩
  · exact name_of_addr x.apart (PySem.mem_of_lookup h1) (PySem.mem_of_lookup h2)
  · have hy : scope.names.lookup y = some .cell \/ scope.names.lookup y = some .free := hy
    rcases hy with hy | hy
    · exact cell_has hy
    · exact absurd rfl (S.nofree _ (PySem.mem_of_lookup hy))
  · exact Nat.le_of_lt (x.above y c (PySem.mem_of_lookup h))
  · have hi : i < vs.length := by
      unfold start at h2
      by_cases hi : i < vs.length
      · exact hi
      · rw [List.getElem?_append_right (by simpa using hi)] at h2
        rw [List.getElem?_replicate] at h2
        split at h2 <;> cases h2
    have ha : vs[i]? = some v := by
      unfold start at h2
      rw [List.getElem?_append_left (by simpa using hi), List.getElem?_map] at h2
      cases e : vs[i]? with
      | none => rw [e] at h2; cases h2
      | some a => rw [e] at h2; cases h2; rfl
    obtain ⟨u, hu, rv⟩ := r.get ha
    have hp : ps[i]? = some y := by
      rw [<- S.pre, List.getElem?_take_of_lt (by lia)]; exact h1
    have ndP : ps.Nodup := by rw [<- S.pre]; exact S.nd.sublist (List.take_sublist _ _)
    refine ⟨u, rv, ?_⟩
    rcases S.par y (List.mem_of_getElem? hp) with k | k
    · exact .inl ⟨k, bindL_get ndP hp hu k⟩
    · obtain ⟨c, e⟩ := cell_has (n := s.heap.objs.size + 1) k
      refine .inr ⟨.inl k, c, e, ?_⟩
      have q := x.cell y c e
      rw [bindC_get ndP hp hu (by show scope.names.lookup y ≠ _; rw [k]; decide)] at q
      exact q
  · exact e0.hok.fresh (Nat.le_of_lt (x.above y c (PySem.mem_of_lookup h)))
  · unfold start
    show _ = N.length
    rw [List.length_append, List.length_map, List.length_replicate]
    lia
theorem fn_of {CX : CXT} {P : Program} {w : World} {K : PySem.W.Frag} {mg : Str -> Option Value} {base : Heap} {k : Nat} {f : Addr} {name qual : Str} {params : Arguments} {body : List Stmt} {scope : Scope} {dV kV doc pm cdv ct oc : Value} {an od : Option Addr}
    {osl : Array (Option Value)} {N ps : List Str} {sp : Sp} (lk : K.lookup f = some ⟨oc, od, .func (PySem.W.fnOf name qual params body scope dV kV doc pm an cdv ct), osl⟩) (hcd : PySem.W.codeIn K cdv qual = true) (S : FnScope N ps scope)
    (len : ∀ vs H Q E, sp vs H Q E -> vs.length = ps.length)
    (hbody : ∀ (A : Around) (outer : List Env) (s : Shared) (H : Hp) (vs : List V) (Q : VK) (E : XK), Room k (A.deeper (envOfC qual scope s.heap.objs.size f cdv)) -> sp vs H Q E ->
      ∃ t, PSs (cxOf CX P w K mg base N qual scope f cdv A outer s H E) body t /\ t { nx := fun _ H' => Q .non H', rt := Q } (start N vs) H) :
    FnOk P w K mg base CX (k + 1) f (PySem.W.fnOf name qual params body scope dV kV doc pm an cdv ct) ps sp := by
  refine ⟨len, fun A outer s H args us vs Q E hr e0 hb r hsp => ?_⟩
  have hl := len _ _ _ _ hsp
  have KX : K.In s.heap := e0.mod.kin.keeps fun b o e => (e0.bs b o e).1
  have lim : s.heap.NoLimit := e0.mod.nolimit.keeps fun b o e => (e0.bs b o e).1
  have hkind : ∀ y ∈ ps.zip us, scope.names.lookup y.1 = some .local \/ (scope.names.lookup y.1 = some .cell /\ ((cellsFrom (s.heap.objs.size + 1) scope.names []).lookup y.1).isSome = true) := fun ⟨n, v⟩ hy => by
    rcases S.par n (List.of_mem_zip hy).1 with q | q
    · exact .inl q
    · exact .inr ⟨q, PySem.W.cellsFrom_some _ _ _ (.inl q)⟩
  refine codeAny_call_function hr.depth (KX _ _ lk) rfl S.co S.gen rfl (PySem.W.codeRec_of KX hcd) (hb _ _ _ _ ?_)
  refine wpAny_newFunctionEnv_cells S.kind hkind fun env he s1 x => ?_
  subst he
  refine ⟨lim.keeps x.toInCall.keep, codeAny_func ?_⟩
  obtain ⟨t, ht, hq⟩ := hbody A outer s H vs Q E (hr.deeper _) hsp
  have I : Inv (cxOf CX P w K mg base N qual scope f cdv A outer s H E) [] (start N vs) H s1 := inv_start S hr.hd e0 hl r x
  refine wpAny_mono (ht [] s1 (start N vs) H _ I hq) (fun fl s' hs => ?_) fun e s' hs => hs
  have fin : ∀ {σ' : St} {H' : Hp} {v : V} {u : Value}, Inv (cxOf CX P w K mg base N qual scope f cdv A outer s H E) [] σ' H' s' -> RelV v u -> Q v H' -> CE outer P w H s Q u s' :=
    fun {σ' H' v u} J rv q => ⟨v, H', J.os, J.bare, J.base, J.hok, rv, q⟩
  cases fl with
  | ret u =>
    obtain ⟨v, σ', H', J, rv, q⟩ := hs
    exact fin J rv q
  | next =>
    obtain ⟨σ', H', J, q⟩ := hs
    exact fin (v := V.non) (u := Value.none) J rfl q
  | brk =>
    obtain ⟨_, _, _, q⟩ := hs
    exact False.elim q
  | cont =>
    obtain ⟨_, _, _, q⟩ := hs
    exact False.elim q
end L2
namespace L2
open PySem PySem.Spec PyProof.Rows
section
variable {X : Cx} {x : Str} {p pos : Pos} {e : Expr} {es : List Expr} {t : TA} {id T : String} {r : List V -> Hp -> VK -> Prop}
noncomputable def tCB (r : List V -> Hp -> VK -> Prop) (t : TA) : TE := fun σ H Q => t σ H fun vs H1 => r vs H1 Q
theorem pe_callB (hc : CallR X (.builtin id) r) (hg : Gl X x) (hm : X.mg x = none) (hv : bootBuiltins x = some (.builtin id)) (ha : PA X (e :: es) t) (hn : x ≠ "__name__" := by decide) (hdb : (x == ("__debug__" : Str)) = false := by decide)
    (he : starEach (e :: es) X.env = (false, eval e X.env) :: starEach es X.env := by rfl) (hpl : (backTo pos (starEach es X.env)).any (·.1) = false := by rfl) : PE X (.Call (.Name x p) (e :: es) [] pos) (tCB r t) := by
  intro pins s σ H Q I h
  refine wpAny_Call_Name_kw (ld_blt I hg hm hv ?_ hn hdb)
  exact PyProof.Rows.callWith_builtin1 (thn (ha pos pins s σ H _ I h) fun us s1 ⟨vs, H1, I1, r1, q1⟩ => hc pins s1 σ H1 vs us Q I1 r1 q1) he hpl
theorem pe_callTy (hc : CallR X (.type T) r) (hg : Gl X x) (hm : X.mg x = none) (hv : bootBuiltins x = some (.type T)) (ha : PA X (e :: es) t) (hn : x ≠ "__name__" := by decide) (hdb : (x == ("__debug__" : Str)) = false := by decide)
    (he : starEach (e :: es) X.env = (false, eval e X.env) :: starEach es X.env := by rfl) (hpl : (backTo pos (starEach es X.env)).any (·.1) = false := by rfl) : PE X (.Call (.Name x p) (e :: es) [] pos) (tCB r t) := by
  intro pins s σ H Q I h
  refine wpAny_Call_Name_kw (ld_blt I hg hm hv ?_ hn hdb)
  exact PyProof.Rows.callWith_type1 (thn (ha pos pins s σ H _ I h) fun us s1 ⟨vs, H1, I1, r1, q1⟩ => hc pins s1 σ H1 vs us Q I1 r1 q1) he hpl
end
end L2
namespace L2
open PySem PySem.Spec PyProof.Rows
section
variable {κ : Type} [DecidableEq κ]
noncomputable def valV (kvs : List (κ × V)) (k : κ) : Option V := (kvs.find? fun kv => decide (kv.1 = k)).map (·.2)
noncomputable def putK (kvs : List (κ × V)) (k : κ) (v : V) : List (κ × V) :=
  if (kvs.any fun kv => decide (kv.1 = k)) = true then kvs.map (fun kv => if kv.1 = k then (kv.1, v) else kv) else kvs ++ [(k, v)]
theorem valV_pos {p : κ × V} {r : List (κ × V)} {k : κ} (e : p.1 = k) : valV (p :: r) k = some p.2 := by simp [valV, List.find?_cons, e]
theorem valV_neg {p : κ × V} {r : List (κ × V)} {k : κ} (e : ¬ p.1 = k) : valV (p :: r) k = valV r k := by simp [valV, List.find?_cons, e]
theorem valV_any (k : κ) : ∀ kvs : List (κ × V), (kvs.any fun kv => decide (kv.1 = k)) = (valV kvs k).isSome
  | [] => rfl
  | p :: r => by
    rw [List.any_cons]
    by_cases e : p.1 = k
    · simp only [valV_pos e, decide_eq_true e, Bool.true_or, Option.isSome_some]
    · rw [valV_neg e, decide_eq_false e, Bool.false_or]; exact valV_any k r
theorem valV_map (k j : κ) (y : V) : ∀ kvs : List (κ × V), valV (kvs.map fun kv => if kv.1 = k then (kv.1, y) else kv) j = (valV kvs j).map fun x => if j = k then y else x
  | [] => rfl
  | p :: r => by
    have ih := valV_map k j y r
    rw [List.map_cons]
    by_cases h : p.1 = k
    · rw [if_pos h]
      by_cases e : p.1 = j
      · rw [valV_pos (p := (p.1, y)) e, valV_pos e, Option.map_some, if_pos (e.symm.trans h)]
      · rw [valV_neg (p := (p.1, y)) e, valV_neg e, ih]
    · rw [if_neg h]
      by_cases e : p.1 = j
      · rw [valV_pos (p := p) e, valV_pos e, Option.map_some, if_neg (fun z => h (e.trans z))]
      · rw [valV_neg (p := p) e, valV_neg e, ih]
theorem valV_snoc (k j : κ) (y : V) : ∀ kvs : List (κ × V), valV kvs k = none -> valV (kvs ++ [(k, y)]) j = if j = k then some y else valV kvs j
  | [], _ => by
    by_cases e : k = j
    · rw [if_pos e.symm]; exact valV_pos (p := (k, y)) e
    · rw [if_neg (fun z => e z.symm)]; exact valV_neg (p := (k, y)) e
  | p :: r, hn => by
    rw [List.cons_append]
    have hk : ¬ p.1 = k := fun z => by rw [valV_pos z] at hn; cases hn
    rw [valV_neg hk] at hn
    have ih := valV_snoc k j y r hn
    by_cases e : p.1 = j
    · rw [valV_pos e, valV_pos e, if_neg (fun z => hk (e.trans z))]
    · rw [valV_neg e, valV_neg e, ih]
theorem valV_put (kvs : List (κ × V)) (k j : κ) (y : V) : valV (putK kvs k y) j = if j = k then some y else valV kvs j := by
  unfold putK
  by_cases a : (kvs.any fun kv => decide (kv.1 = k)) = true
  · rw [if_pos a, valV_map]
    rw [valV_any] at a
    by_cases e : j = k
    · obtain ⟨x, hx⟩ := Option.isSome_iff_exists.mp a
      rw [if_pos e, e, hx, Option.map_some, if_pos rfl]
    · rw [if_neg e]
      cases valV kvs j with
      | none => rfl
      | some x => rw [Option.map_some, if_neg e]
  · rw [if_neg a]
    refine valV_snoc k j y kvs ?_
    rw [valV_any] at a
    cases q : valV kvs k with
    | none => rfl
    | some x => rw [q] at a; exact (a rfl).elim
theorem length_putK (kvs : List (κ × V)) (k : κ) (v : V) : (putK kvs k v).length <= kvs.length + 1 := by
  unfold putK
  split
  · rw [List.length_map]; lia
  · rw [List.length_append, List.length_cons, List.length_nil]; lia
theorem putK_new {kvs : List (κ × V)} {k : κ} (v : V) (h : valV kvs k = none) : putK kvs k v = kvs ++ [(k, v)] := by
  unfold putK
  rw [valV_any, h]
  exact if_neg (by decide)
theorem RelO.isSome_eq {o : Option V} {u : Option Value} (r : RelO o u) : o.isSome = u.isSome := by
  cases o with
  | none => cases u with
    | none => rfl
    | some _ => exact (show False from r).elim
  | some _ => cases u with
    | none => exact (show False from r).elim
    | some _ => rfl
theorem KV.val {kvs : List (κ × V)} {vs : List (κ × Value)} (r : KV kvs vs) (k : κ) : RelO (valV kvs k) (valueAt vs k) := by
  unfold KV at r
  induction r with
  | nil => exact True.intro
  | @cons p q ps qs h t ih =>
    obtain ⟨h1, h2⟩ := h
    by_cases e : p.1 = k
    · have e' : q.1 = k := h1.symm.trans e
      have b : valueAt (q :: qs) k = some q.2 := by simp [valueAt, List.find?_cons, e']
      rw [valV_pos e, b]; exact h2
    · have e' : ¬ q.1 = k := fun z => e (h1.trans z)
      have b : valueAt (q :: qs) k = valueAt qs k := by simp [valueAt, List.find?_cons, e']
      rw [valV_neg e, b]; exact ih
theorem KV.any {kvs : List (κ × V)} {vs : List (κ × Value)} (r : KV kvs vs) (k : κ) : (kvs.any fun kv => decide (kv.1 = k)) = vs.any fun kv => decide (kv.1 = k) := by
  unfold KV at r
  induction r with
  | nil => rfl
  | cons h t ih => rw [List.any_cons, List.any_cons, ih, h.1]
theorem KV.repl {kvs : List (κ × V)} {vs : List (κ × Value)} (r : KV kvs vs) (k : κ) {y : V} {u : Value} (ry : RelV y u) :
    KV (kvs.map fun kv => if kv.1 = k then (kv.1, y) else kv) (vs.map fun kv => if kv.1 = k then (kv.1, u) else kv) := by
  unfold KV at r ⊢
  induction r with
  | nil => exact .nil
  | @cons p q ps qs h t ih =>
    rw [List.map_cons, List.map_cons]
    refine .cons ?_ ih
    obtain ⟨h1, h2⟩ := h
    by_cases e : p.1 = k
    · rw [if_pos e, if_pos (h1.symm.trans e)]; exact ⟨h1, ry⟩
    · rw [if_neg e, if_neg (fun z => e (h1.trans z))]; exact ⟨h1, h2⟩
theorem KV.put {kvs : List (κ × V)} {vs : List (κ × Value)} (r : KV kvs vs) (k : κ) {y : V} {u : Value} (ry : RelV y u) : KV (putK kvs k y) (stored vs k u) := by
  unfold putK stored
  rw [r.any k]
  by_cases e : (vs.any fun kv => decide (kv.1 = k)) = true
  · rw [if_pos e, if_pos e]; exact r.repl k ry
  · rw [if_neg e, if_neg e]; exact Paired.snoc r ⟨rfl, ry⟩
theorem KV.length {kvs : List (κ × V)} {vs : List (κ × Value)} (r : KV kvs vs) : kvs.length = vs.length := Paired.length r
end
theorem kV_is {P : Program} {w : World} {k : Key} {u : Value} (r : RelV (kV k) u) : (mixKind P w).is k u = true := by
  cases k with
  | inl i => obtain ⟨t, e⟩ := (show ∃ t, u = Value.int i t from r); subst e; exact mixKind_int P w i t
  | inr x => obtain ⟨t, e⟩ := (show ∃ t, u = Value.str x t from r); subst e; exact mixKind_str P w x t
theorem items_are {P : Program} {w : World} : ∀ {ks : List Key} {us : List Value}, Vals (ks.map kV) us -> ItemsAre (mixKind P w) ks us
  | [], _, r => by rw [List.map_nil] at r; cases r; exact .nil
  | k :: ks, _, r => by
    rw [List.map_cons] at r
    cases r with
    | cons h t => exact .cons (kV_is h) (items_are t)
noncomputable abbrev KT (H : Hp) : List (List Key × V) -> List (List Key × Addr × Value) -> Prop := Paired fun p q => p.1 = q.1 /\ H q.2.1 = some (.tup (p.1.map kV)) /\ RelV p.2 q.2.2
theorem KT.val {H : Hp} {kvs : List (List Key × V)} {xs : List (List Key × Addr × Value)} (r : KT H kvs xs) (k : List Key) : RelO (valV kvs k) ((atKey xs k).map (·.2)) := by
  induction r with
  | nil => exact True.intro
  | @cons p q ps qs h t ih =>
    obtain ⟨h1, _, h2⟩ := h
    by_cases e : p.1 = k
    · have e' : q.1 = k := h1.symm.trans e
      have b : atKey (q :: qs) k = some q.2 := by simp [atKey, List.find?_cons, e']
      rw [valV_pos e, b]; exact h2
    · have e' : ¬ q.1 = k := fun z => e (h1.trans z)
      have b : atKey (q :: qs) k = atKey qs k := by simp [atKey, List.find?_cons, e']
      rw [valV_neg e, b]; exact ih
theorem KT.repl {H : Hp} {kvs : List (List Key × V)} {xs : List (List Key × Addr × Value)} (r : KT H kvs xs) (k : List Key) {y : V} {u : Value} (ry : RelV y u) :
    KT H (kvs.map fun kv => if kv.1 = k then (kv.1, y) else kv) (xs.map (putAt k u)) := by
  induction r with
  | nil => exact .nil
  | @cons p q ps qs h t ih =>
    rw [List.map_cons, List.map_cons]
    refine .cons ?_ ih
    obtain ⟨h1, h2, h3⟩ := h
    unfold putAt
    by_cases e : p.1 = k
    · rw [if_pos e, if_pos (h1.symm.trans e)]; exact ⟨h1, h2, ry⟩
    · rw [if_neg e, if_neg (fun z => e (h1.trans z))]; exact ⟨h1, h2, h3⟩
theorem KT.put {H : Hp} {kvs : List (List Key × V)} {xs : List (List Key × Addr × Value)} (r : KT H kvs xs) (k : List Key) {b : Addr} {y : V} {u : Value} (hb : H b = some (.tup (k.map kV))) (ry : RelV y u) :
    KT H (putK kvs k y) (storedH xs k b u) := by
  have e : (kvs.any fun kv => decide (kv.1 = k)) = (atKey xs k).isSome := by
    rw [valV_any, (r.val k).isSome_eq, Option.isSome_map]
  unfold putK storedH
  rw [e]
  by_cases q : (atKey xs k).isSome = true
  · rw [if_pos q, if_pos q]; exact r.repl k ry
  · rw [if_neg q, if_neg q]; exact Paired.snoc r ⟨rfl, hb, ry⟩
theorem KT.keeps {H H' : Hp} {kvs : List (List Key × V)} {xs : List (List Key × Addr × Value)} (r : KT H kvs xs) (ht : ∀ b ys, H b = some (.tup ys) -> H' b = some (.tup ys)) : KT H' kvs xs :=
  Paired.mapP r fun _ _ z => ⟨z.1, ht _ _ z.2.1, z.2.2⟩
section
variable {P : Program} {w : World} {H : Hp} {h : Heap} {a : Addr}
theorem rd_of {u : HO} (ok : HOk P w H h) (e : Rd H a u) : ObjOk P w H h a u := e.ok ok
theorem dk_rd {kvs : List (Key × V)} (ok : HOk P w H h) (e : Rd H a (.dK kvs)) : kvs.length <= sizeLine /\ (a == sysModules) = false /\ ∃ vs, KV kvs vs /\ h.DictOf (mixKind P w) a vs :=
  show ObjOk P w H h a (.dK kvs) from rd_of ok e
theorem dk_of {kvs : List (Key × V)} (ok : HOk P w H h) (e : H a = some (.dK kvs)) : kvs.length <= sizeLine /\ (a == sysModules) = false /\ ∃ vs, KV kvs vs /\ h.DictOf (mixKind P w) a vs := dk_rd ok (.inl e)
theorem key_of {ks : List Key} (ok : HOk P w H h) (e : H a = some (.tup (ks.map kV))) : (tupleKind (mixKind P w)).is h ks a := by
  obtain ⟨_, its, r, o, h1, h2, n, h3⟩ := (show ObjOk P w H h a (.tup (ks.map kV)) from ok a _ e)
  exact ⟨o, its.toArray, n, h1, h2, h3, by simpa using items_are r⟩
theorem dt_rd {kvs : List (List Key × V)} (ok : HOk P w H h) (e : Rd H a (.dT kvs)) : kvs.length <= sizeLine /\ (a == sysModules) = false /\
    ∃ xs, KT H kvs xs /\ h.DictOfH (tupleKind (mixKind P w)) a xs := by
  obtain ⟨z, y, xs, r, o, es, ep, h1, h2, h3, h4, h5⟩ := (show ObjOk P w H h a (.dT kvs) from rd_of ok e)
  refine ⟨z, y, xs, r, o, es, ep, h1, h2, h3, h4, fun x hx => ?_, h5⟩
  have all : ∀ {l : List (List Key × V)} {m : List (List Key × Addr × Value)}, KT H l m -> ∀ x ∈ m, (tupleKind (mixKind P w)).is h x.1 x.2.1 := by
    intro l m q
    induction q with
    | nil => intro x hx; exact nomatch hx
    | @cons p q ps qs hq t ih =>
      intro x hx
      rcases List.mem_cons.mp hx with e | hx
      · subst e
        exact key_of ok (by rw [<- hq.1]; exact hq.2.1)
      · exact ih x hx
  exact all r x hx
theorem dt_of {kvs : List (List Key × V)} (ok : HOk P w H h) (e : H a = some (.dT kvs)) : kvs.length <= sizeLine /\ (a == sysModules) = false /\
    ∃ xs, KT H kvs xs /\ h.DictOfH (tupleKind (mixKind P w)) a xs := dt_rd ok (.inl e)
end
noncomputable def DGet (H : Hp) (a : Addr) (y : V) (r : Option V) : Prop :=
  (∃ kvs k, Rd H a (.dK kvs) /\ y = kV k /\ r = valV kvs k) \/ ∃ kvs k b, Rd H a (.dT kvs) /\ y = .ref b /\ H b = some (.tup (k.map kV)) /\ r = valV kvs k
noncomputable def DPut (H : Hp) (a : Addr) (y v : V) (H' : Hp) : Prop :=
  (∃ kvs k, H a = some (.dK kvs) /\ y = kV k /\ kvs.length < sizeLine /\ H' = upd H a (.dK (putK kvs k v))) \/
  ∃ kvs k b, H a = some (.dT kvs) /\ y = .ref b /\ H b = some (.tup (k.map kV)) /\ kvs.length < sizeLine /\ H' = upd H a (.dT (putK kvs k v))
theorem DGet.k {H : Hp} {a : Addr} {kvs : List (Key × V)} {k : Key} (e : H a = some (.dK kvs)) : DGet H a (kV k) (valV kvs k) := .inl ⟨kvs, k, .inl e, rfl, rfl⟩
theorem DPut.k {H : Hp} {a : Addr} {kvs : List (Key × V)} {k : Key} {v : V} (e : H a = some (.dK kvs)) (hl : kvs.length < sizeLine) : DPut H a (kV k) v (upd H a (.dK (putK kvs k v))) := .inl ⟨kvs, k, e, rfl, hl, rfl⟩
section
variable {X : Cx} {pins : List (Addr × Obj)} {σ : St} {H : Hp} {s : Shared} {a : Addr} {y v : V} {u r : Value} {o : Option V} {A : Around} {E : Value -> Shared -> Prop}
theorem Inv.big (I : Inv X pins σ H s) : sysModules < s.heap.objs.size := by
  have h : mainGlobals < s.heap.objs.size := (I.mod.glob.keeps I.bk).lt
  exact Nat.lt_trans (by decide) h
theorem d_getItem {Q : Value -> Shared -> Prop} (hu : A.units + 1 < cLine) (I : Inv X pins σ H s) (g : DGet H a y (some v)) (ry : RelV y u) (h : ∀ w' s', Inv X pins σ H s' -> RelV v w' -> Q w' s') :
    wpAny (model X.prog X.w) A (getItem (.ref a) u) Q E s := by
  rcases g with ⟨kvs, k, e, ey, l⟩ | ⟨kvs, k, b, e, ey, eb, l⟩
  · subst ey
    obtain ⟨z, hd, vs, rel, dd⟩ := dk_rd I.hok e
    obtain ⟨w', hw, rw'⟩ := RelO.some_of (v := v) (o := valueAt vs k) (by rw [l]; exact rel.val k)
    exact wpAny_getItem_of (kV_is ry) dd.mapOf hw (h w' _ (I.tok _) rw')
  · subst ey
    cases (show u = Value.ref b from ry)
    obtain ⟨z, hd, xs, rel, dd⟩ := dt_rd I.hok e
    obtain ⟨w', hw, rw'⟩ := RelO.some_of (v := v) (o := (atKey xs k).map (·.2)) (by rw [l]; exact rel.val k)
    obtain ⟨p, hp, hp2⟩ := Option.map_eq_some_iff.mp hw
    refine wpAny_getItem_heap (tupleKind_room_in1 hu) (key_of I.hok eb) dd hp ?_
    rw [hp2]
    exact h w' _ (I.tok _) rw'
theorem d_write {h' : Heap} {t' : Nat} {ob : HO} (I : Inv X pins σ H s) (mu : Mut (H a)) (hs : Heap.SameBut a s.heap h') (he : ∃ q, h'.get? a = some q) (new : ObjOk X.prog X.w (upd H a ob) h' a ob) :
    Inv X pins σ (upd H a ob) { s with heap := h', toks := t' } :=
  I.write (x := a) (e := a) mu (.inl rfl) (fun b q hb z => (hs.2 b hb).trans z) he new
theorem dk_new {P : Program} {w : World} {H' : Hp} {h' : Heap} {kvs : List (Key × V)} {vs : List (Key × Value)} (z : kvs.length <= sizeLine) (hd : (a == sysModules) = false) (rel : KV kvs vs) (dd : h'.DictOf (mixKind P w) a vs) :
    ObjOk P w H' h' a (.dK kvs) := ⟨z, hd, vs, rel, dd⟩
theorem d_setItem {H' : Hp} {Q : Unit -> Shared -> Prop} (hu : A.units + 1 < cLine) (I : Inv X pins σ H s) (g : DPut H a y v H') (ry : RelV y u) (rv : RelV v r) (h : ∀ s', Inv X pins σ H' s' -> Q () s') :
    wpAny (model X.prog X.w) A (setItem (.ref a) u r) Q E s := by
  rcases g with ⟨kvs, k, e, ey, l, eH⟩ | ⟨kvs, k, b, e, ey, eb, l, eH⟩
  · subst ey eH
    obtain ⟨z, hd, vs, rel, dd⟩ := dk_of I.hok e
    have hz : vs.length <= sizeLine := by rw [<- rel.length]; exact z
    have hl : (putK kvs k v).length <= sizeLine := by have := length_putK kvs k v; lia
    refine wpAny_setItem_pairs (hsz := hz) (kV_is ry) dd fun h' dd' hs => h _ ?_
    have he : ∃ q, h'.get? a = some q := let ⟨q, _, _, hq, _⟩ := dd'; ⟨q, hq⟩
    exact d_write I (by rw [e]; exact True.intro) hs he (dk_new hl hd (rel.put k rv) dd')
  · subst ey eH
    cases (show u = Value.ref b from ry)
    obtain ⟨z, hd, xs, rel, dd⟩ := dt_of I.hok e
    have hz : xs.length <= sizeLine := by rw [<- Paired.length rel]; exact z
    have hl : (putK kvs k v).length <= sizeLine := by have := length_putK kvs k v; lia
    refine wpAny_setItem_heap (hsz := hz) (tupleKind_room_in1 hu) (key_of I.hok eb) dd fun h' dd' hs => h _ ?_
    obtain ⟨q, es, ep, hq, h2, h3, h4, _, h5⟩ := dd'
    refine d_write I (by rw [e]; exact True.intro) hs ⟨q, hq⟩ ⟨hl, hd, _, (rel.put k eb rv).keeps fun c ys ec => ?_, q, es, ep, hq, h2, h3, h4, h5⟩
    rw [upd_ne (ne_of ec e (fun z => nomatch z))]
    exact ec
end
section
variable {X : Cx} {pins : List (Addr × Obj)} {σ : St} {H : Hp} {s : Shared} {a : Addr} {kvs : List (Key × V)} {k : Key} {u : Value} {A : Around} {E : Value -> Shared -> Prop}
end
theorem dict_typeIs {X : Cx} {pins : List (Addr × Obj)} {σ : St} {H : Hp} {s : Shared} {a : Addr} {y : V} {o : Option V} (I : Inv X pins σ H s) (g : DGet H a y o) : s.TypeIs (.ref a) "dict" := by
  rcases g with ⟨kvs, k, e, _, _⟩ | ⟨kvs, k, b, e, _, _, _⟩
  · obtain ⟨_, _, vs, _, dd⟩ := dk_rd I.hok e
    exact dd.typeIs
  · obtain ⟨_, _, xs, _, dd⟩ := dt_rd I.hok e
    exact dd.typeIs
section
variable {X : Cx} {o i e value : Expr} {pos pos' tpos : Pos} {td ty tv : TE}
end
theorem dk_empty {P : Program} {w : World} {H : Hp} (h : Heap) (hb : sysModules < h.objs.size) : ObjOk P w H (h.push { cls := .type "dict", data := .dict #[] }) h.objs.size (.dK []) :=
  ⟨Nat.zero_le _, beq_eq_false_iff_ne.mpr (Ne.symm (Nat.ne_of_lt hb)), [], .nil, Heap.DictOf.new h⟩
noncomputable def tDNewK : TE := fun _ H Q => ∀ p, H p = none -> Q (.ref p) (upd H p (.dK []))
section
variable {X : Cx} {pos : Pos}
theorem pe_dnewK : PE X (.Dict [] [] pos) tDNewK := fun pins s σ H Q I h =>
  wpAny_Dict_empty ⟨.ref s.heap.objs.size, _, I.laid (a := s.heap.objs.size) (o := .dK []) (t' := s.toks) (fun _ _ q => Heap.get?_push_of_some _ q) (Nat.le_refl _) (dk_empty s.heap I.big), rfl, h _ (I.hok.fresh (Nat.le_refl _))⟩
end
noncomputable def tPairs : List (TE × TE) -> St -> Hp -> (List (V × V) -> Hp -> Prop) -> Prop
  | [], _, H, Q => Q [] H
  | (tk, tv) :: r, σ, H, Q => tk σ H fun x H1 => tv σ H1 fun y H2 => tPairs r σ H2 fun ps H3 => Q ((x, y) :: ps) H3
noncomputable abbrev VV : List (V × V) -> List (Value × Value) -> Prop := Paired fun p q => RelV p.1 q.1 /\ RelV p.2 q.2
noncomputable def PPs (X : Cx) (pos : Pos) (keys : List (Option Expr)) (values : List Expr) (trs : List (TE × TE)) : Prop :=
  ∀ (pins : List (Addr × Obj)) (s : Shared) (σ : St) (H : Hp) (Q : List (V × V) -> Hp -> Prop), Inv X pins σ H s -> tPairs trs σ H Q ->
    wpAny (model X.prog X.w) X.A (evalPairs (pairTrees keys values X.env pos)) (fun vs s' => ∃ ps H', Inv X pins σ H' s' /\ VV ps vs /\ Q ps H') X.xe s
theorem pps_nil {X : Cx} {pos : Pos} : PPs X pos [] [] [] := fun pins s σ H Q I h => pairTrees_nil_walk ⟨[], H, I, .nil, h⟩
theorem pps_cons {X : Cx} {pos : Pos} {k v : Expr} {ks : List (Option Expr)} {vs : List Expr} {tk tv : TE} {trs : List (TE × TE)} (hk : PE X k tk) (hv : PE X v tv) (hr : PPs X pos ks vs trs) :
    PPs X pos (some k :: ks) (v :: vs) ((tk, tv) :: trs) := fun pins s σ H Q I h =>
  pairTrees_cons_walk (thn (hk pins s σ H _ I h) fun u s1 ⟨x, H1, I1, rx, q1⟩ => thn (hv pins s1 σ H1 _ I1 q1) fun w2 s2 ⟨y, H2, I2, ry, q2⟩ =>
    thn (hr pins s2 σ H2 _ I2 q2) fun ws s3 ⟨ps, H3, I3, rel, q3⟩ => ⟨(x, y) :: ps, H3, I3, .cons ⟨rx, ry⟩ rel, q3⟩)
noncomputable def mergeK (kvs more : List (Key × V)) : List (Key × V) := more.foldl (fun acc kv => putK acc kv.1 kv.2) kvs
theorem KV.merge : ∀ {more : List (Key × V)} {rs : List (Key × Value)} {kvs : List (Key × V)} {vs : List (Key × Value)}, KV more rs -> KV kvs vs -> KV (mergeK kvs more) (merged vs rs) := by
  intro more rs kvs vs r
  unfold KV at r
  induction r generalizing kvs vs with
  | nil => intro q; exact q
  | @cons p q ps qs h t ih =>
    intro r0
    have e : KV (putK kvs p.1 p.2) (stored vs q.1 q.2) := by
      have := r0.put p.1 h.2
      rw [<- h.1]; exact this
    exact ih e
theorem length_mergeK : ∀ (more kvs : List (Key × V)), (mergeK kvs more).length <= kvs.length + more.length
  | [], kvs => by show kvs.length <= kvs.length + 0; lia
  | p :: r, kvs => by
    have h1 := length_mergeK r (putK kvs p.1 p.2)
    have h2 := length_putK kvs p.1 p.2
    show (mergeK (putK kvs p.1 p.2) r).length <= _
    rw [List.length_cons]; lia
theorem carries_of {P : Program} {w : World} : ∀ {kvs : List (Key × V)} {ws : List (Value × Value)}, VV (kvs.map fun kv => (kV kv.1, kv.2)) ws -> ∃ rs, Carries (mixKind P w) ws rs /\ KV kvs rs
  | [], _, r => by rw [List.map_nil] at r; cases r; exact ⟨[], True.intro, .nil⟩
  | p :: kvs, _, r => by
    rw [List.map_cons] at r
    cases r with
    | @cons a b as bs h t =>
      obtain ⟨rs, c, q⟩ := carries_of (P := P) (w := w) t
      obtain ⟨b1, b2⟩ := b
      exact ⟨(p.1, b2) :: rs, ⟨kV_is h.1, rfl, c⟩, .cons ⟨rfl, h.2⟩ q⟩
noncomputable def tDisp (trs : List (TE × TE)) : TE := fun σ H Q => ∀ p, H p = none -> tPairs trs σ (upd H p (.dK [])) fun ps H2 => H2 p = some (.dK []) /\ ∃ kvs : List (Key × V), ps = kvs.map (fun kv => (kV kv.1, kv.2)) /\ kvs.length <= 15 /\ Q (.ref p) (upd H2 p (.dK (mergeK [] kvs)))
theorem pe_disp {X : Cx} {pos : Pos} {keys : List (Option Expr)} {values : List Expr} {trs : List (TE × TE)} (h : PPs X pos keys values trs) (hall : keys.all (·.isSome) = true) (hl : keys.length = values.length) (h0 : keys ≠ [])
    (h15 : keys.length <= 15) : PE X (.Dict keys values pos) (tDisp trs) := by
  intro pins s σ H Q I q
  have hn := I.hok.fresh (Nat.le_refl s.heap.objs.size)
  have I1 := I.laid (a := s.heap.objs.size) (o := .dK []) (h' := s.heap.push { cls := .type "dict", data := .dict #[] }) (t' := s.toks) (fun _ _ q => Heap.get?_push_of_some _ q) (Nat.le_refl _) (dk_empty s.heap I.big)
  refine wpAny_Dict_walk (knd := mixKind X.prog X.w) hall hl h0 h15 (thn (h pins _ σ _ _ I1 (q _ hn)) fun ws s2 ⟨ps, H2, I2, rel, e, kvs, ep, lk, q2⟩ => ?_)
  subst ep
  obtain ⟨rs, c, rk⟩ := carries_of (P := X.prog) (w := X.w) rel
  obtain ⟨z, hd, vs0, r0, dd⟩ := dk_of I2.hok e
  cases r0
  refine ⟨rs, c, dd, fun h' dd' hs => ⟨.ref s.heap.objs.size, _, ?_, rfl, q2⟩⟩
  have hz : (mergeK [] kvs).length <= sizeLine := by
    have h1 := length_mergeK kvs []
    rw [List.length_nil] at h1
    rw [sizeLine_eq]; lia
  have he : ∃ q, h'.get? s.heap.objs.size = some q := let ⟨q, _, _, hq, _⟩ := dd'; ⟨q, hq⟩
  exact d_write I2 (by rw [e]; exact True.intro) hs he (dk_new hz hd (rk.merge .nil) dd')
section
variable {X : Cx} {pins : List (Addr × Obj)} {σ : St} {H : Hp} {s : Shared} {a : Addr} {y d : V} {u r : Value} {o : Option V} {A : Around} {E : Value -> Shared -> Prop}
end
section
variable {X : Cx} {o e f : Expr} {apos cpos : Pos} {td ty tx : TE}
end
section
variable {X : Cx} {pins : List (Addr × Obj)} {σ : St} {H : Hp} {s : Shared} {a : Addr} {kvs : List (Key × V)} {A : Around} {E : Value -> Shared -> Prop}
end
section
variable {X : Cx} {pins : List (Addr × Obj)} {σ : St} {H : Hp} {s : Shared} {a : Addr} {y : V} {u : Value} {A : Around} {E : Value -> Shared -> Prop}
end
end L2
namespace HT
open PySem PyProof.Rows
theorem rcLt_int (A : Around) (s : Shared) (a : Int) (t : Tok) (c : Int) (u : Tok) (prog : Program) (w : World) (E : Value -> Shared -> Prop) (Q : Value -> Shared -> Prop) (h : Q (.bool (decide (a < c))) s) :
    wpAny (model prog w) A (richCompare .Lt (.int a t) (.int c u)) Q E s :=
  (PyProof.Rows.lt_int h : wpAny (model prog w) A (compareOp .Lt (.int a t) (.int c u)) Q E s)
section
open PySem.SeqAt
open PySem.AutoSeq1 (wpAny_loadPart')
open PySem.MeetsSeq PySem.MeetsSeq2 PySem.MeetsSeq3
end
section
variable {prog : Program} {w : World} {A : Around} {E : Value -> Shared -> Prop} {s : Shared}
theorem cat_tup {t b : Addr} {vs ws : List Value} {Q : Value -> Shared -> Prop} (ht : IsTup s.heap t vs.toArray) (hb : IsTup s.heap b ws.toArray) (hv : vs ≠ [])
    (h1 : ws = [] -> Q (.ref t) s) (h2 : ws ≠ [] -> Q (.ref s.heap.objs.size) { s with heap := s.heap.push { cls := .type "tuple", data := .seq (vs ++ ws).toArray } })
    (hsz : vs.length + ws.length <= sizeLine) : wpAny (model prog w) A (binaryOp .Add (.ref t) (.ref b)) Q E s := by
  obtain ⟨⟨cls, dd, data, sl⟩, ho, hc, n, hd⟩ := id ht
  obtain ⟨⟨cls2, dd2, data2, sl2⟩, ho2, hc2, n2, hd2⟩ := id hb
  simp only at hc hd hc2 hd2
  subst hc hd hc2 hd2
  have e : vs.toArray ++ ws.toArray = (vs ++ ws).toArray := by simp
  by_cases hw : ws = []
  · exact concat_meets ⟨_, ho, rfl⟩ ⟨_, ho2, rfl⟩ noFill_tuple_add seq_tuple_add PySem.F.slot_tuple_add PySem.F.entry_tuple_add (PySem.F.args_tuple_add_2 _ _)
      (tuple_addW1 t b vs.toArray ws.toArray n n2 dd dd2 sl sl2 (by simpa using hv) (by simp [hw])) ⟨ho, ho2, h1 hw⟩
  · refine concat_meets ⟨_, ho, rfl⟩ ⟨_, ho2, rfl⟩ noFill_tuple_add seq_tuple_add PySem.F.slot_tuple_add PySem.F.entry_tuple_add (PySem.F.args_tuple_add_2 _ _)
      (tuple_addW2 t b vs.toArray ws.toArray n n2 dd dd2 sl sl2 (by simpa using hv) (by simpa using hw) (by rw [List.size_toArray, List.size_toArray]; exact hsz)) ⟨ho, ho2, ?_⟩
    rw [e]
    exact h2 hw
noncomputable def sIx (n d : Nat) : Option Int -> Nat
  | none => d
  | some v => if v < 0 then (v + (n : Int)).toNat else min v.toNat n
theorem sIx_nat (n d k : Nat) : sIx n d (some (k : Int)) = min k n := by
  show (if (k : Int) < 0 then ((k : Int) + (n : Int)).toNat else min (k : Int).toNat n) = min k n
  rw [if_neg (by lia), Int.toNat_natCast]
theorem sIx_le (n d : Nat) (hd : d <= n) (o : Option Int) : sIx n d o <= n := by
  cases o with
  | none => exact hd
  | some v =>
    show (if v < 0 then (v + (n : Int)).toNat else min v.toNat n) <= n
    by_cases hv : v < 0
    · rw [if_pos hv]; lia
    · rw [if_neg hv]; exact Nat.min_le_right _ _
theorem clip_eq (v : Int) (n d : Nat) : (if v < 0 then max (v + (n : Int)) 0 else min v (n : Int)) = ((sIx n d (some v) : Nat) : Int) := by
  show (if v < 0 then max (v + (n : Int)) 0 else min v (n : Int)) = (((if v < 0 then (v + (n : Int)).toNat else min v.toNat n) : Nat) : Int)
  by_cases hv : v < 0
  · simp only [if_pos hv]; lia
  · simp only [if_neg hv]; lia
theorem adjust_gen (lo hi : Option Int) (n : Nat) : Builtin.Slice.sliceAdjust lo hi 1 (n : Int) = (((sIx n 0 lo : Nat) : Int), ((sIx n n hi : Nat) : Int)) := by
  have h1 : ¬ ((1 : Int) < 0) := by lia
  unfold Builtin.Slice.sliceAdjust
  simp only [h1, if_false]
  refine Prod.ext ?_ ?_
  · cases lo with
    | none => rfl
    | some v => exact clip_eq v n 0
  · cases hi with
    | none => rfl
    | some v => exact clip_eq v n n
theorem places_gen (i j : Nat) : Builtin.Slice.slicePlaces (i : Int) (j : Int) 1 = j - i := by
  unfold Builtin.Slice.slicePlaces
  have h1 : (1 : Int) > 0 := by lia
  simp only [h1, if_true, Int.ediv_one]
  split <;> lia
theorem slicePart_ {v : Value} {o : Option Int} {Q : Option Int -> Shared -> Prop} (p : IsPart v o) (h : Q o s) : wpAny (model prog w) A (Builtin.Slice.slicePartIndex v) Q E s := by
  cases p with
  | none => exact slicePart_none h
  | int i t => exact slicePart_int h
theorem sliceApplied_gen {sl : Addr} {vl vu : Value} {lo hi : Option Int} {n : Nat} {Q : Int × Int × Nat -> Shared -> Prop} (hs : s.heap.IsSliceOf sl vl vu .none) (pl : IsPart vl lo) (pu : IsPart vu hi)
    (h : Q (((sIx n 0 lo : Nat) : Int), 1, sIx n n hi - sIx n 0 lo) s) : wpAny (model prog w) A (Builtin.Slice.sliceApplied (.ref sl) (pure (n : Int))) Q E s := by
  obtain ⟨os, hos, hcs, hds⟩ := id hs
  unfold Builtin.Slice.sliceApplied Builtin.Slice.sliceFields
  refine wpAny_bind (wpAny_bind (wpAny_field hos hds (x := vl) rfl (wpAny_bind (wpAny_field hos hds (x := vu) rfl (wpAny_bind (wpAny_field hos hds (x := .none) rfl (wpAny_pure ?_)))))))
  refine wpAny_bind (slicePart_none ?_)
  show wpAny _ _ (if ((1 : Int) == 0) = true then _ else _) _ _ s
  rw [if_neg (by decide)]
  refine wpAny_bind (slicePart_ pl (wpAny_bind (slicePart_ pu (wpAny_bind (wpAny_pure ?_)))))
  show wpAny _ _ (match Builtin.Slice.sliceAdjust lo hi 1 (n : Int) with | (lo, hi) => pure (lo, (1 : Int), Builtin.Slice.slicePlaces lo hi 1)) _ _ s
  rw [adjust_gen lo hi n]
  show wpAny _ _ (pure (((sIx n 0 lo : Nat) : Int), (1 : Int), Builtin.Slice.slicePlaces ((sIx n 0 lo : Nat) : Int) ((sIx n n hi : Nat) : Int) 1)) _ _ s
  rw [places_gen]
  exact wpAny_pure h
theorem pick_gen (xs : Array Value) (i k : Nat) : ((List.range k).filterMap fun (m : Nat) => xs[((i : Int) + (m : Int) * 1).toNat]?).toArray = ((xs.toList.drop i).take k).toArray := by
  have e : (fun (m : Nat) => xs[((i : Int) + (m : Int) * 1).toNat]?) = fun m => xs[i + m]? := by
    funext m
    have : ((i : Int) + (m : Int) * 1).toNat = i + m := by lia
    rw [this]
  rw [e]
  have := pick_run xs i k
  rw [List.filterMap_map] at this
  have e2 : ((fun x => xs[x]?) ∘ fun x => i + x) = fun m => xs[i + m]? := rfl
  rw [e2] at this
  rw [this]
theorem getItem_tuple_cut {t sl : Addr} {items : Array Value} {vl vu : Value} {lo hi : Option Int} {Q : Value -> Shared -> Prop} (ht : IsTup s.heap t items) (hs : s.heap.IsSliceOf sl vl vu .none) (pl : IsPart vl lo) (pu : IsPart vu hi)
    (hw : ¬ (sIx items.size 0 lo = 0 /\ sIx items.size items.size hi = items.size))
    (h : Q (.ref s.heap.objs.size) { s with heap := s.heap.push { cls := .type "tuple", data := .seq ((items.toList.drop (sIx items.size 0 lo)).take (sIx items.size items.size hi - sIx items.size 0 lo)).toArray } })
    (hsz : items.size <= sizeLine) : wpAny (model prog w) A (getItem (.ref t) (.ref sl)) Q E s := by
  have htake : sizeOk (.seq ((items.toList.drop (sIx items.size 0 lo)).take (sIx items.size items.size hi - sIx items.size 0 lo)).toArray) := by
    show ((items.toList.drop (sIx items.size 0 lo)).take (sIx items.size items.size hi - sIx items.size 0 lo)).toArray.size <= sizeLine
    rw [List.size_toArray, List.length_take, List.length_drop, Array.length_toList]
    lia
  have hj : sIx items.size items.size hi <= items.size := sIx_le _ _ (Nat.le_refl _) hi
  obtain ⟨os, hos, hcs, hds⟩ := id hs
  have hTs : s.TypeIs (.ref sl) "slice" := ⟨os, hos, hcs⟩
  unfold getItem
  try with_reducible refine wpAny_holding ?_
  first | refine wpAny_bind (wpAny_pure ?_) | skip
  refine wpAny_bind (wpAny_sequenceKey ht.typeIs (by decide) ?_)
  refine wpAny_bind (wpAny_callSpecial?_slot (name := Str.ofString "__getitem__") ht.typeIs PyProof.Rows.slot_tuple_getitem
    (wpAny_call_entry PyProof.Rows.slot_tuple_getitem ht.typeIs entry_tuple_getitem ?_ (args_tuple_getitem _ _)))
  show wpAny _ _ (Builtin.Tuple.tupleItemsOf (.ref t) >>= _) _ _ s
  refine wpAny_bind (tupleItemsOf_ ht ?_)
  refine wpAny_bind (wpAny_typeOf hTs ?_)
  rw [if_pos (by decide)]
  refine wpAny_bind (sliceApplied_gen hs pl pu ?_)
  have hno : ¬ ((((sIx items.size 0 lo : Nat) : Int) == 0 && (1 : Int) == 1 && (sIx items.size items.size hi - sIx items.size 0 lo) == items.size) = true) := by
    intro q
    rw [Bool.and_eq_true, Bool.and_eq_true] at q
    have q1 : ((sIx items.size 0 lo : Nat) : Int) = 0 := eq_of_beq q.1.1
    have q2 : sIx items.size items.size hi - sIx items.size 0 lo = items.size := eq_of_beq q.2
    exact hw ⟨by lia, by lia⟩
  show wpAny _ _ (if (((sIx items.size 0 lo : Nat) : Int) == 0 && (1 : Int) == 1 && (sIx items.size items.size hi - sIx items.size 0 lo) == items.size) = true then _ else _) _ _ s
  rw [if_neg hno, pick_gen]
  first
    | exact wpAny_bind (m := Builtin.Tuple.tupleExact _) (wpAny_newObj_type (wpAny_pure ⟨_, rfl, wpAny_pure h⟩) htake)
    | exact wpAny_bind (m := Builtin.Tuple.tupleExact _) (wpAny_newObj_type (wpAny_bind (wpAny_pure (wpAny_pure ⟨_, rfl, wpAny_pure h⟩))) htake)
    | exact wpAny_bind (wpAny_bind (m := Builtin.Tuple.tupleExact _) (wpAny_newObj_type (wpAny_pure (wpAny_pure ⟨_, rfl, wpAny_pure h⟩)) htake))
    | exact wpAny_bind (wpAny_bind (m := Builtin.Tuple.tupleExact _) (wpAny_newObj_type (wpAny_pure ⟨_, rfl, wpAny_pure h⟩) htake))
end
end HT
namespace L2
open PySem PySem.Spec PyProof.Rows
noncomputable abbrev TO := St -> Hp -> (Option Int -> Hp -> Prop) -> Prop
noncomputable def PO (X : Cx) (e : Option Expr) (t : TO) : Prop :=
  ∀ (pins : List (Addr × Obj)) (s : Shared) (σ : St) (H : Hp) (Q : Option Int -> Hp -> Prop), Inv X pins σ H s -> t σ H Q ->
    wpAny (model X.prog X.w) X.A (evalPart e X.env) (fun u s' => ∃ o H', Inv X pins σ H' s' /\ IsPart u o /\ Q o H') X.xe s
noncomputable def tNoPart : TO := fun _ H Q => Q none H
noncomputable def tPart (t : TE) : TO := fun σ H Q => t σ H fun x H1 => ∃ i, x = .int i /\ Q (some i) H1
section
variable {X : Cx} {e : Expr} {te : TE} {lo hi : Option Expr} {tl th : TO} {pos p2 : Pos}
theorem po_none : PO X none tNoPart := by
  intro pins s σ H Q I h
  rw [evalPart_none]
  exact wpAny_pure ⟨none, H, I, .none, h⟩
theorem po_some (h : PE X e te) : PO X (some e) (tPart te) := by
  intro pins s σ H Q I hw
  rw [evalPart_some]
  refine thn (h pins s σ H _ I hw) fun u s1 ⟨x, H1, I1, r1, q1⟩ => ?_
  obtain ⟨i, rfl, q⟩ := q1
  obtain ⟨t, rfl⟩ := r1
  exact ⟨some i, H1, I1, .int i t, q⟩
noncomputable def SlR (X : Cx) (r : V -> Option Int -> Option Int -> Hp -> VK -> Prop) : Prop :=
  ∀ (pins : List (Addr × Obj)) (s : Shared) (σ : St) (H : Hp) (x : V) (v vl vu : Value) (lo hi : Option Int) (sl : Addr) (Q : VK), Inv X pins σ H s -> RelV x v -> s.heap.IsSliceOf sl vl vu .none -> IsPart vl lo -> IsPart vu hi -> r x lo hi H Q ->
    ∃ T id, typeLookup (.type T) "__getitem__" = pure (some (.builtin id)) /\ s.TypeIs v T /\ wpAny (model X.prog X.w) X.A (getItem v (.ref sl)) (EP X pins σ Q) X.xe s
theorem SlR.or {r r' : V -> Option Int -> Option Int -> Hp -> VK -> Prop} (h : SlR X r) (h' : SlR X r') : SlR X (fun x lo hi H Q => r x lo hi H Q \/ r' x lo hi H Q) := by
  intro pins s σ H x v vl vu lo hi sl Q I rx hs pl pu q
  rcases q with q | q
  · exact h pins s σ H x v vl vu lo hi sl Q I rx hs pl pu q
  · exact h' pins s σ H x v vl vu lo hi sl Q I rx hs pl pu q
noncomputable def tSl (r : V -> Option Int -> Option Int -> Hp -> VK -> Prop) (te : TE) (tl th : TO) : TE := fun σ H Q => te σ H fun x H1 => tl σ H1 fun l H2 => th σ H2 fun u H3 => r x l u H3 Q
theorem pe_slice {r : V -> Option Int -> Option Int -> Hp -> VK -> Prop} (hr : SlR X r) (he : PE X e te) (hl : PO X lo tl) (hu : PO X hi th) : PE X (.Subscript e (.Slice lo hi none p2) pos) (tSl r te tl th) := by
  intro pins s σ H Q I h
  refine Subscript_ (thn (he pins s σ H _ I h) fun v s1 ⟨x, H1, I1, r1, q1⟩ => ?_)
  refine wpAny_Slice (thn (hl pins s1 σ H1 _ I1 q1) fun vl s2 ⟨l, H2, I2, pl, q2⟩ => thn (hu pins s2 σ H2 _ I2 q2) fun vu s3 ⟨u, H3, I3, pu, q3⟩ => ?_)
  rw [evalPart_none]
  refine wpAny_pure ?_
  have I4 : Inv X pins σ H3 { s3 with heap := s3.heap.push { cls := .type "slice", data := .fields #[vl, vu, .none] } } := I3.kept (t' := s3.toks) fun b ob q => Heap.get?_push_of_some _ q
  obtain ⟨T, id, hT, ht, hg⟩ := hr pins { s3 with heap := s3.heap.push { cls := .type "slice", data := .fields #[vl, vu, .none] } } σ H3 x v vl vu l u s3.heap.objs.size Q I4 r1 (Heap.IsSliceOf.new ..) pl pu q3
  show wpAny (model X.prog X.w) X.A (subscriptTail e (.Slice lo hi none p2) v (.ref s3.heap.objs.size)) (EP X pins σ Q) X.xe { s3 with heap := s3.heap.push { cls := .type "slice", data := .fields #[vl, vu, .none] } }
  exact tail_any (ops := [.ref s3.heap.objs.size, v]) ht hT hg (by with_unfolding_all rfl)
noncomputable def cutV (xs : List V) (lo hi : Option Int) : List V := (xs.drop (HT.sIx xs.length 0 lo)).take (HT.sIx xs.length xs.length hi - HT.sIx xs.length 0 lo)
theorem cutV_length (xs : List V) (lo hi : Option Int) : (cutV xs lo hi).length <= xs.length := by
  unfold cutV
  rw [List.length_take, List.length_drop]
  lia
noncomputable def rSlT (K : PySem.W.Frag) : V -> Option Int -> Option Int -> Hp -> VK -> Prop := fun x lo hi H Q => ∃ a xs, x = .ref a /\ SqT K H a xs /\
  ¬ (HT.sIx xs.length 0 lo = 0 /\ HT.sIx xs.length xs.length hi = xs.length) /\ ∀ p, H p = none -> Q (.ref p) (upd H p (.tup (cutV xs lo hi)))
theorem sl_tup : SlR X (rSlT X.K) := by
  intro pins s σ H x v vl vu lo hi sl Q I rx hs pl pu h
  obtain ⟨a, xs, rfl, hx, hw, q⟩ := h
  cases rx
  obtain ⟨its, r, ht, hz⟩ := I.tuple hx
  have hlen : its.toArray.size = xs.length := by rw [List.size_toArray]; exact r.length.symm
  refine ⟨"tuple", _, PyProof.Rows.slot_tuple_getitem.lookup, ht.typeIs, ?_⟩
  refine HT.getItem_tuple_cut ht hs pl pu (by rw [hlen]; exact hw) ?_ (by rw [hlen]; exact hz)
  rw [hlen]
  refine ⟨.ref s.heap.objs.size, _, I.laid (t' := s.toks) (o := .tup (cutV xs lo hi)) (fun b ob q => Heap.get?_push_of_some _ q) (Nat.le_refl _) ?_, rfl, q _ (I.hok.fresh (Nat.le_refl _))⟩
  exact ⟨tupD_new (Nat.le_trans (cutV_length xs lo hi) hz), _, (r.drop (HT.sIx xs.length 0 lo)).take (HT.sIx xs.length xs.length hi - HT.sIx xs.length 0 lo), IsTup.new _ _⟩
noncomputable def rCatT (K : PySem.W.Frag) : R2 := fun x y H Q => ∃ a b xs ys, x = .ref a /\ y = .ref b /\ SqT K H a xs /\ SqT K H b ys /\ xs ≠ [] /\ xs.length + ys.length <= sizeLine /\
  (ys = [] -> Q (.ref a) H) /\ (ys ≠ [] -> ∀ p, H p = none -> Q (.ref p) (upd H p (.tup (xs ++ ys))))
theorem Vals.nil_iff {xs : List V} {us : List Value} (r : Vals xs us) : us = [] ↔ xs = [] := by
  cases r with
  | nil => simp
  | cons _ _ => simp
theorem op_catT : OpR X (binaryOp .Add) (rCatT X.K) := by
  intro pins s σ H x y v u Q I rx ry h
  obtain ⟨a, b, xs, ys, rfl, rfl, ha, hb, hx, hz, q1, q2⟩ := h
  cases rx
  cases ry
  obtain ⟨its, r1, p1, _⟩ := I.tuple ha
  obtain ⟨its2, r2, p2, _⟩ := I.tuple hb
  refine HT.cat_tup p1 p2 (fun z => hx (r1.nil_iff.mp z)) (fun z => ⟨.ref a, H, I, rfl, q1 (r2.nil_iff.mp z)⟩) (fun z => ?_) (by rw [<- r1.length, <- r2.length]; exact hz)
  refine ⟨.ref s.heap.objs.size, _, I.laid (t' := s.toks) (o := .tup (xs ++ ys)) (fun b ob q => Heap.get?_push_of_some _ q) (Nat.le_refl _) ?_, rfl, q2 (fun w => z (r2.nil_iff.mpr w)) _ (I.hok.fresh (Nat.le_refl _))⟩
  exact ⟨tupD_new (by rw [List.length_append]; exact hz), _, r1.append r2, IsTup.new _ _⟩
end
end L2
namespace L2
open PySem PySem.Spec PyProof.Rows
noncomputable def ixN (n : Nat) (i : Int) : Option Nat := if 0 <= i then (if i < n then some i.toNat else none) else if -(n : Int) <= i then some (i + n).toNat else none
noncomputable def atI {α : Type} (xs : List α) (i : Int) : Option α := (ixN xs.length i).bind fun j => xs[j]?
theorem ixN_seq {n : Nat} {i : Int} {j : Nat} (h : ixN n i = some j) : seqIndex? i n = some j /\ j < n /\ -(n : Int) <= i /\ i < n := by
  unfold ixN at h
  by_cases h0 : 0 <= i
  · rw [if_pos h0] at h
    by_cases h1 : i < n
    · rw [if_pos h1] at h
      have e : i.toNat = j := Option.some.inj h
      exact ⟨by rw [seqIndex_of h0 h1, e], by lia, by lia, h1⟩
    · rw [if_neg h1] at h; cases h
  · rw [if_neg h0] at h
    by_cases h1 : -(n : Int) <= i
    · rw [if_pos h1] at h
      have e : (i + n).toNat = j := Option.some.inj h
      exact ⟨by rw [seqIndex_neg (by lia) h1, e], by lia, h1, by lia⟩
    · rw [if_neg h1] at h; cases h
theorem atI_get {α : Type} {xs : List α} {i : Int} {v : α} (h : atI xs i = some v) : ∃ j, seqIndex? i xs.length = some j /\ xs[j]? = some v /\ j < xs.length /\ -(xs.length : Int) <= i /\ i < xs.length := by
  unfold atI at h
  cases e : ixN xs.length i with
  | none => rw [e] at h; cases h
  | some j =>
    rw [e] at h
    obtain ⟨h1, h2, h3, h4⟩ := ixN_seq e
    exact ⟨j, h1, h, h2, h3, h4⟩
theorem atI_nat {α : Type} {xs : List α} {j : Nat} {v : α} (h : xs[j]? = some v) : atI xs (j : Int) = some v := by
  have hj : j < xs.length := (List.getElem?_eq_some_iff.mp h).1
  have e : ixN xs.length (j : Int) = some j := by
    unfold ixN
    rw [if_pos (by lia), if_pos (by lia)]; simp
  unfold atI; rw [e]; exact h
noncomputable def PlainIx (b : Expr) : Prop := ∀ o i, subscripted b false o i = operate [o, i] (getItem o i)
noncomputable def IxR (X : Cx) (r : R2) : Prop :=
  ∀ (value slice : Expr) (pins : List (Addr × Obj)) (s : Shared) (σ : St) (H : Hp) (x y : V) (v u : Value) (Q : VK), Inv X pins σ H s -> RelV x v -> RelV y u -> r x y H Q ->
    subscripted slice false v u = operate [v, u] (getItem v u) -> wpAny (model X.prog X.w) X.A (subscriptTail value slice v u) (EP X pins σ Q) X.xe s
noncomputable def MtR (X : Cx) (id : String) (r : V -> List V -> Hp -> VK -> Prop) : Prop :=
  ∀ (pins : List (Addr × Obj)) (s : Shared) (σ : St) (H : Hp) (x : V) (xs : List V) (v : Value) (us : List Value) (Q : VK), Inv X pins σ H s -> RelV x v -> Vals xs us -> r x xs H Q ->
    wpAny (model X.prog X.w) X.A (call (.builtin id) (v :: us)) (EP X pins σ Q) X.xe s
section
variable {X : Cx} {a b : Expr} {ta tb : TE} {pos : Pos}
theorem IxR.or {r r' : R2} (h : IxR X r) (h' : IxR X r') : IxR X (fun x y H Q => r x y H Q \/ r' x y H Q) := by
  intro value slice pins s σ H x y v u Q I rx ry q hs
  rcases q with q | q
  · exact h value slice pins s σ H x y v u Q I rx ry q hs
  · exact h' value slice pins s σ H x y v u Q I rx ry q hs
theorem pe_ix {r : R2} (hr : IxR X r) (ha : PE X a ta) (hb : PE X b tb) (hs : PlainIx b) : PE X (.Subscript a b pos) (tOp r ta tb) := by
  intro pins s σ H Q I h
  exact Subscript_ (binT ha hb I h fun v u s2 x y H2 I2 rx ry q => hr a b pins s2 σ H2 x y v u Q I2 rx ry q (hs _ _))
noncomputable def rIxL (K : PySem.W.Frag) : R2 := fun x y H Q => ∃ p xs i v, x = .ref p /\ y = .int i /\ SqL K H p xs /\ atI xs i = some v /\ Q v H
noncomputable def rIxT (K : PySem.W.Frag) : R2 := fun x y H Q => ∃ p xs i v, x = .ref p /\ y = .int i /\ SqT K H p xs /\ atI xs i = some v /\ Q v H
noncomputable def rIxS : R2 := fun x y H Q => ∃ z i c, x = .str z /\ y = .int i /\ z.length <= sizeLine /\ atI z.cps.toList i = some c /\ Q (.str ⟨#[c]⟩) H
theorem ix_list : IxR X (rIxL X.K) := by
  intro value slice pins s σ H x y v u Q I rx ry h hs
  obtain ⟨p, xs, i, z, rfl, rfl, hq, he, q⟩ := h
  cases rx
  obtain ⟨t, rfl⟩ := ry
  obtain ⟨its, r, pl, hz⟩ := I.list hq
  obtain ⟨j, h1, h2, h3, h4, h5⟩ := atI_get he
  obtain ⟨w, ew, rw'⟩ := r.get h2
  have hl := r.length
  have hn := line63
  have fin : EP X pins σ Q w s := ⟨z, H, I, rw', q⟩
  by_cases h0 : 0 <= i
  · have hj : i.toNat = j := by
      rw [seqIndex_of h0 h5] at h1
      exact Option.some.inj h1
    exact item_listR pl.isList h0 (by lia) (by rw [hj]; simpa using ew) fin hs
  · have hj : (i + (its.toArray.size : Int)).toNat = j := by
      rw [seqIndex_neg (by lia) h4] at h1
      rw [List.size_toArray, <- hl]
      exact Option.some.inj h1
    exact subscriptTail_builtinR (x := w) pl.isList.typeIs slot_list_getitem.lookup
      (wpAny_getItem_list_neg (Q := fun r s' => r = w /\ EP X pins σ Q r s') pl.isList (by lia) (by rw [List.size_toArray] <;> lia) (by lia) (by rw [hj]; simpa using ew) ⟨rfl, fin⟩) hs
theorem ix_tup : IxR X (rIxT X.K) := by
  intro value slice pins s σ H x y v u Q I rx ry h hs
  obtain ⟨p, xs, i, z, rfl, rfl, hq, he, q⟩ := h
  cases rx
  obtain ⟨t, rfl⟩ := ry
  obtain ⟨its, r, pl, hz⟩ := I.tuple hq
  obtain ⟨j, h1, h2, h3, h4, h5⟩ := atI_get he
  obtain ⟨w, ew, rw'⟩ := r.get h2
  have hl := r.length
  have hn := line63
  have fin : EP X pins σ Q w s := ⟨z, H, I, rw', q⟩
  exact subscriptTail_builtinR (x := w) pl.typeIs slot_tuple_getitem.lookup
    (getItem_tuple (j := j) (Q := fun r s' => r = w /\ EP X pins σ Q r s') pl (by lia) (by lia) (by rw [List.size_toArray, <- hl]; exact h1) (by simpa using ew) ⟨rfl, fin⟩) hs
theorem ix_str : IxR X rIxS := by
  intro value slice pins s σ H x y v u Q I rx ry h hs
  obtain ⟨z, i, c, rfl, rfl, hz, he, q⟩ := h
  obtain ⟨t, rfl⟩ := rx
  obtain ⟨t', rfl⟩ := ry
  obtain ⟨j, h1, h2, h3, h4, h5⟩ := atI_get he
  have hl : z.cps.toList.length = z.length := by simp [Str.length]
  rw [hl] at h1 h4 h5
  have hn := line63
  exact tail_any (typeIs_str s z t) slot_str_getitem.lookup (getItem_str (c := c) (by
    have e1 : decide (i < -(2 ^ 63 : Int)) = false := decide_eq_false (by lia)
    have e2 : decide (i ≥ 2 ^ 63) = false := decide_eq_false (by lia)
    rw [e1, e2, Bool.or_false]) (by rw [h1]; simpa using h2) ⟨.str ⟨#[c]⟩, H, I.tok _, ⟨_, rfl⟩, q⟩) hs
theorem mapSeq_set (its : List Value) (n j : Nat) (u : Value) : Obj.mapSeq (·.setIfInBounds j u) { cls := .type "list", data := .seq its.toArray n } = { cls := .type "list", data := .seq (its.set j u).toArray n } := by
  simp [Obj.mapSeq]
theorem Inv.lst {pins : List (Addr × Obj)} {σ : St} {H : Hp} {s : Shared} {p : Addr} {xs : List V} (I : Inv X pins σ H s) (h : H p = some (.lst xs)) :
    ∃ (its : List Value) (n : Nat), Vals xs its /\ s.heap.get? p = some { cls := .type "list", data := .seq its.toArray n } /\ xs.length <= sizeLine := by
  obtain ⟨z, its, n, r, e⟩ := I.hok p _ h
  exact ⟨its, n, r, e, z⟩
theorem Inv.lstUpd {pins : List (Addr × Obj)} {σ : St} {H : Hp} {s : Shared} {p : Addr} {xs ys : List V} {its its' : List Value} {n n' : Nat} {f : Obj -> Obj} (I : Inv X pins σ H s) (h : H p = some (.lst xs))
    (ho : s.heap.get? p = some { cls := .type "list", data := .seq its.toArray n }) (hf : f { cls := .type "list", data := .seq its.toArray n } = { cls := .type "list", data := .seq its'.toArray n' }) (r : Vals ys its') (hz : ys.length <= sizeLine) (t : Nat) :
    Inv X pins σ (upd H p (.lst ys)) { s with heap := s.heap.update p f, toks := t } := by
  have e : (s.heap.update p f).get? p = some { cls := .type "list", data := .seq its'.toArray n' } := by
    rw [Heap.get?_update_self f ho (by rw [hf] <;> rfl), hf]
  refine I.write (x := p) (e := p) (by rw [h]; trivial) (.inl rfl) (fun b u hb q => (Heap.get?_update_other _ _ (Ne.symm hb)).trans q) ⟨_, e⟩ ?_
  exact ⟨hz, its', n', r, e⟩
noncomputable def rSetL : V -> V -> V -> Hp -> (Hp -> Prop) -> Prop := fun o i v H Q => ∃ p xs k j, o = .ref p /\ i = .int k /\ H p = some (.lst xs) /\ ixN xs.length k = some j /\ Q (upd H p (.lst (xs.set j v)))
theorem set_list : PSet X rSetL := by
  intro pins s σ H o i v ov iv u Q I ro ri rv h
  obtain ⟨p, xs, k, j, rfl, rfl, hp, hj, q⟩ := h
  cases ro
  obtain ⟨t, rfl⟩ := ri
  obtain ⟨its, n, r, ho, hz⟩ := I.lst hp
  obtain ⟨h1, h2, h3, h4⟩ := ixN_seq hj
  have hl := r.length
  have hn := line63
  have I' : Inv X pins σ (upd H p (.lst (xs.set j v))) { s with heap := s.heap.update p (Obj.mapSeq (·.setIfInBounds j u)) } :=
    I.lstUpd hp ho (mapSeq_set its n j u) (r.set rv j) (by rw [List.length_set]; exact hz) s.toks
  by_cases h0 : 0 <= k
  · have hk : k.toNat = j := by
      rw [seqIndex_of h0 h4] at h1
      exact Option.some.inj h1
    exact PySem.W.ki_setAt ho h0 (by lia) (by rw [List.size_toArray, <- hl]; exact h4) (by rw [hk]; exact ⟨_, I', q⟩)
  · have hk : (k + (its.toArray.size : Int)).toNat = j := by
      rw [seqIndex_neg (by lia) h3] at h1
      rw [List.size_toArray, <- hl]
      exact Option.some.inj h1
    exact PySem.W.ki_setBack ho (by lia) (by rw [List.size_toArray, <- hl]; exact h3) (by lia) (by rw [hk]; exact ⟨_, I', q⟩)
theorem slice_bounds (lo hi : Option Int) (n : Nat) : (sliceBounds lo hi none n).1 = ((HT.sIx n 0 lo : Nat) : Int) /\ (sliceBounds lo hi none n).2.1 = ((HT.sIx n n hi : Nat) : Int) /\ (sliceBounds lo hi none n).2.2 = 1 := by
  refine ⟨?_, ?_, rfl⟩
  · cases lo with
    | none => simp [sliceBounds, HT.sIx]
    | some i =>
      simp only [sliceBounds, HT.sIx, Option.getD_none, show (1 : Int) > 0 by decide, if_true]
      by_cases h : i < 0
      · simp only [h, if_true] <;> lia
      · simp only [h, if_false] <;> lia
  · cases hi with
    | none => simp [sliceBounds, HT.sIx]
    | some i =>
      simp only [sliceBounds, HT.sIx, Option.getD_none, show (1 : Int) > 0 by decide, if_true]
      by_cases h : i < 0
      · simp only [h, if_true] <;> lia
      · simp only [h, if_false] <;> lia
theorem slicePick_cut (its : List Value) (lo hi : Option Int) : slicePick its.toArray lo hi none = ((its.drop (HT.sIx its.length 0 lo)).take (HT.sIx its.length its.length hi - HT.sIx its.length 0 lo)).toArray := by
  obtain ⟨h1, h2, h3⟩ := slice_bounds lo hi its.toArray.size
  unfold slicePick
  rw [h1, h2, h3]
  simp only [sliceRange_one, pick_run, List.size_toArray] <;> rfl
noncomputable def rSlL (K : PySem.W.Frag) : V -> Option Int -> Option Int -> Hp -> VK -> Prop := fun x lo hi H Q => ∃ a xs, x = .ref a /\ SqL K H a xs /\ ∀ p, H p = none -> Q (.ref p) (upd H p (.lst (cutV xs lo hi)))
theorem sl_list : SlR X (rSlL X.K) := by
  intro pins s σ H x v vl vu lo hi sl Q I rx hs pl pu h
  obtain ⟨a, xs, rfl, hx, q⟩ := h
  cases rx
  obtain ⟨its, r, ht, hz⟩ := I.list hx
  have hlen := r.length
  refine ⟨"list", _, slot_list_getitem.lookup, ht.isList.typeIs, ?_⟩
  refine wpAny_getItem_list_slice ht.isList hs pl pu .none (by simp) ?_ (by rw [List.size_toArray] <;> lia)
  rw [slicePick_cut, <- hlen]
  refine ⟨.ref s.heap.objs.size, _, I.laid (t' := s.toks) (o := .lst (cutV xs lo hi)) (fun b ob q => Heap.get?_push_of_some _ q) (Nat.le_refl _) ?_, rfl, q _ (I.hok.fresh (Nat.le_refl _))⟩
  exact ⟨Nat.le_trans (cutV_length xs lo hi) hz, _, 0, (r.drop (HT.sIx xs.length 0 lo)).take (HT.sIx xs.length xs.length hi - HT.sIx xs.length 0 lo), Heap.get?_push_size _ rfl⟩
noncomputable def flatV : V -> Bool
  | .non => true
  | .bl _ => true
  | .int _ => true
  | .str _ => true
  | _ => false
noncomputable def eqV : V -> V -> Bool
  | .non, .non => true
  | .bl a, .bl b => a == b
  | .bl a, .int b => (if a then 1 else 0) == b
  | .int a, .bl b => a == (if b then 1 else 0)
  | .int a, .int b => a == b
  | .str a, .str b => a == b
  | _, _ => false
theorem eqAt_V {A : Around} {s : Shared} {y x : V} {u v : Value} (ry : RelV y u) (rx : RelV x v) (fy : flatV y = true) (fx : flatV x = true) : SeqAt.EqAt A s u v (eqV y x) := by
  cases y with
  | non =>
    cases ry
    cases x with
    | non => cases rx; exact SeqAt.EqAt.same _
    | bl b => cases rx; exact SeqAt.EqAt.none_bool b
    | int b => obtain ⟨t, rfl⟩ := rx; exact SeqAt.EqAt.none_int b t
    | str b => obtain ⟨t, rfl⟩ := rx; exact SeqAt.EqAt.none_str b t
    | _ => exact absurd (show false = true from fx) Bool.false_ne_true
  | bl a =>
    cases ry
    cases x with
    | non => cases rx; exact SeqAt.EqAt.bool_none a
    | bl b => cases rx; exact SeqAt.EqAt.bool_bool a b
    | int b => obtain ⟨t, rfl⟩ := rx; exact SeqAt.EqAt.bool_int a b t
    | str b => obtain ⟨t, rfl⟩ := rx; exact SeqAt.EqAt.bool_str a b t
    | _ => exact absurd (show false = true from fx) Bool.false_ne_true
  | int a =>
    obtain ⟨t', rfl⟩ := ry
    cases x with
    | non => cases rx; exact SeqAt.EqAt.int_none a t'
    | bl b => cases rx; exact SeqAt.EqAt.int_bool a t' b
    | int b => obtain ⟨t, rfl⟩ := rx; exact SeqAt.EqAt.int_int a t' b t
    | str b => obtain ⟨t, rfl⟩ := rx; exact SeqAt.EqAt.int_str a t' b t
    | _ => exact absurd (show false = true from fx) Bool.false_ne_true
  | str a =>
    obtain ⟨t', rfl⟩ := ry
    cases x with
    | non => cases rx; exact SeqAt.EqAt.str_none a t'
    | bl b => cases rx; exact SeqAt.EqAt.str_bool a t' b
    | int b => obtain ⟨t, rfl⟩ := rx; exact SeqAt.EqAt.str_int a t' b t
    | str b => obtain ⟨t, rfl⟩ := rx; exact SeqAt.EqAt.str_str a t' b t
    | _ => exact absurd (show false = true from fx) Bool.false_ne_true
  | _ => exact absurd (show false = true from fy) Bool.false_ne_true
noncomputable def eqU (x : V) (u : Value) : Bool := match u with
  | .none => eqV .non x
  | .bool b => eqV (.bl b) x
  | .int i _ => eqV (.int i) x
  | .str z _ => eqV (.str z) x
  | _ => false
theorem eqU_of {x y : V} {u : Value} (r : RelV y u) (f : flatV y = true) : eqU x u = eqV y x := by
  cases y with
  | non => cases r; rfl
  | bl b => cases r; rfl
  | int i => obtain ⟨t, rfl⟩ := r; rfl
  | str z => obtain ⟨t, rfl⟩ := r; rfl
  | _ => exact absurd (show false = true from f) Bool.false_ne_true
theorem any_eqU {x : V} : ∀ {xs : List V} {us : List Value}, Vals xs us -> xs.all flatV = true -> us.any (eqU x) = xs.any fun y => eqV y x
  | _, _, .nil, _ => rfl
  | y :: xs, u :: us, .cons r t, f => by
    rw [List.all_cons, Bool.and_eq_true] at f
    rw [List.any_cons, List.any_cons, eqU_of r f.1, any_eqU t f.2]
theorem mem_eqAt {A : Around} {s : Shared} {x : V} {v : Value} (rx : RelV x v) (fx : flatV x = true) : ∀ {xs : List V} {us : List Value}, Vals xs us -> xs.all flatV = true -> ∀ u ∈ us, SeqAt.EqAt A s u v (eqU x u)
  | _, _, .nil, _ => fun u hu => by cases hu
  | y :: xs, u :: us, .cons r t, f => fun u' hu => by
    rw [List.all_cons, Bool.and_eq_true] at f
    rcases List.mem_cons.mp hu with rfl | hu
    · rw [eqU_of r f.1]; exact eqAt_V r rx f.1 fx
    · exact mem_eqAt rx fx t f.2 u' hu
noncomputable def inV (x : V) (xs : List V) : Bool := xs.any fun y => eqV y x
noncomputable def rIn (K : PySem.W.Frag) (neg : Bool) : R2 := fun x y H Q => ∃ p xs, y = .ref p /\ (SqL K H p xs \/ SqT K H p xs) /\ flatV x = true /\ xs.all flatV = true /\ Q (.bl (if neg then !inV x xs else inV x xs)) H
theorem op_in_seq : OpR X (compareOp .In) (rIn X.K false) := by
  intro pins s σ H x y v u Q I rx ry h
  obtain ⟨p, xs, rfl, hq, fx, fs, q⟩ := h
  cases ry
  rcases hq with hq | hq
  · obtain ⟨its, r, pl, hz⟩ := I.list hq
    refine SeqAt.in_listAt (eqU x) pl.isList (fun w hw => mem_eqAt rx fx r fs w (by simpa using hw)) ⟨.bl _, H, I, rfl, ?_⟩
    rw [show its.toArray.any (eqU x) = its.any (eqU x) by simp, any_eqU r fs]
    exact q
  · obtain ⟨its, r, pl, hz⟩ := I.tuple hq
    refine SeqAt.in_tupleAt (eqU x) pl (fun w hw => mem_eqAt rx fx r fs w (by simpa using hw)) ⟨.bl _, H, I, rfl, ?_⟩
    rw [show its.toArray.any (eqU x) = its.any (eqU x) by simp, any_eqU r fs]
    exact q
theorem op_notIn_seq : OpR X (compareOp .NotIn) (rIn X.K true) := by
  intro pins s σ H x y v u Q I rx ry h
  obtain ⟨p, xs, rfl, hq, fx, fs, q⟩ := h
  cases ry
  rcases hq with hq | hq
  · obtain ⟨its, r, pl, hz⟩ := I.list hq
    refine SeqAt.notIn_listAt (eqU x) pl.isList (fun w hw => mem_eqAt rx fx r fs w (by simpa using hw)) ⟨.bl _, H, I, rfl, ?_⟩
    rw [show its.toArray.any (eqU x) = its.any (eqU x) by simp, any_eqU r fs]
    exact q
  · obtain ⟨its, r, pl, hz⟩ := I.tuple hq
    refine SeqAt.notIn_tupleAt (eqU x) pl (fun w hw => mem_eqAt rx fx r fs w (by simpa using hw)) ⟨.bl _, H, I, rfl, ?_⟩
    rw [show its.toArray.any (eqU x) = its.any (eqU x) by simp, any_eqU r fs]
    exact q
theorem call_len_seq : CallR X (.builtin "len") (fun xs H Q => ∃ p ys, xs = [.ref p] /\ (SqL X.K H p ys \/ SqT X.K H p ys) /\ Q (.int ys.length) H) := by
  intro pins s σ H xs us Q I r h
  obtain ⟨p, ys, rfl, hq, q⟩ := h
  obtain ⟨u, rfl, rx⟩ := vals1 r
  cases rx
  have hn := line63
  rcases hq with hq | hq
  · obtain ⟨its, r', pl, hz⟩ := I.list hq
    have hlen := r'.length
    exact Calls.call_len_list pl.isList (by simp only [List.size_toArray] <;> lia) ⟨.int ys.length, H, I.tok _, ⟨s.toks + 1, by rw [List.size_toArray, hlen]⟩, q⟩
  · obtain ⟨its, r', pl, hz⟩ := I.tuple hq
    have hlen := r'.length
    exact len_tuple pl (by simp only [List.size_toArray] <;> lia) ⟨.int ys.length, H, I.tok _, ⟨s.toks + 1, by rw [List.size_toArray, hlen]⟩, q⟩
theorem call_len_str : CallR X (.builtin "len") (fun xs H Q => ∃ z, xs = [.str z] /\ z.length <= sizeLine /\ Q (.int z.length) H) := by
  intro pins s σ H xs us Q I r h
  obtain ⟨z, rfl, hz, q⟩ := h
  obtain ⟨u, rfl, t, rfl⟩ := vals1 r
  have hn := line63
  exact len_str (by lia) ⟨.int z.length, H, I.tok _, ⟨_, rfl⟩, q⟩
theorem CallR.or {f : Value} {r r' : List V -> Hp -> VK -> Prop} (h : CallR X f r) (h' : CallR X f r') : CallR X f (fun xs H Q => r xs H Q \/ r' xs H Q) := by
  intro pins s σ H xs us Q I rs q
  rcases q with q | q
  · exact h pins s σ H xs us Q I rs q
  · exact h' pins s σ H xs us Q I rs q
theorem call_list_of : CallR X (.type "list") (fun xs H Q => ∃ p ys, xs = [.ref p] /\ (SqL X.K H p ys \/ SqT X.K H p ys) /\ ∀ l, H l = none -> Q (.ref l) (upd H l (.lst ys))) := by
  intro pins s σ H xs us Q I r h
  obtain ⟨p, ys, rfl, hq, q⟩ := h
  obtain ⟨u, rfl, rx⟩ := vals1 r
  cases rx
  have fin : ∀ (its : List Value), Vals ys its -> ys.length <= sizeLine -> ∀ (h' : Heap) (c' : Nat), (∀ b o', s.heap.get? b = some o' -> h'.get? b = some o') ->
      h'.get? s.heap.objs.size = some { cls := .type "list", dict := none, data := .seq its.toArray c', slots := #[] } -> EP X pins σ Q (.ref s.heap.objs.size) { s with heap := h' } := fun its r' hz h' c' kp e =>
    ⟨.ref s.heap.objs.size, _, I.laid (t' := s.toks) kp (Nat.le_refl _) (show ObjOk X.prog X.w _ h' _ (.lst ys) from ⟨hz, its, c', r', e⟩), rfl, q _ (I.hok.fresh (Nat.le_refl _))⟩
  rcases hq with hq | hq
  · obtain ⟨its, r', pl, hz⟩ := I.list hq
    have hlen := r'.length
    obtain ⟨o, ho, hc, n, hd⟩ := pl.isList
    exact call_list_seq p (.inl rfl) ho hc hd (fun h' c' kp e => fin its r' hz h' c' kp e) (by simp only [List.size_toArray] <;> lia)
  · obtain ⟨its, r', pl, hz⟩ := I.tuple hq
    have hlen := r'.length
    obtain ⟨o, ho, hc, n, hd⟩ := pl
    exact call_list_seq p (.inr rfl) ho hc hd (fun h' c' kp e => fin its r' hz h' c' kp e) (by simp only [List.size_toArray] <;> lia)
theorem call_tuple_of : CallR X (.type "tuple") (fun xs H Q => ∃ p ys, xs = [.ref p] /\ ((SqL X.K H p ys /\ ∀ l, H l = none -> Q (.ref l) (upd H l (.tup ys))) \/ (SqT X.K H p ys /\ Q (.ref p) H))) := by
  intro pins s σ H xs us Q I r h
  obtain ⟨p, ys, rfl, h⟩ := h
  obtain ⟨u, rfl, rx⟩ := vals1 r
  cases rx
  rcases h with ⟨hq, q⟩ | ⟨hq, q⟩
  · obtain ⟨its, r', pl, hz⟩ := I.list hq
    have hlen := r'.length
    refine call_tuple_list pl.isList (fun h' kp => ?_) (by simp only [List.size_toArray] <;> lia)
    have I1 : Inv X pins σ H { s with heap := h' } := I.kept (t' := s.toks) kp
    have I2 : Inv X pins σ (upd H h'.objs.size (.tup ys)) { s with heap := h'.push { cls := .type "tuple", data := .seq its.toArray } } :=
      I1.laid (t' := s.toks) (fun b o e => Heap.get?_push_of_some _ e) (Nat.le_refl _) (show ObjOk X.prog X.w _ _ _ (.tup ys) from ⟨tupD_new hz, its, r', IsTup.new _ _⟩)
    exact ⟨.ref h'.objs.size, _, I2, rfl, q _ (I1.hok.fresh (Nat.le_refl _))⟩
  · obtain ⟨its, r', pl, hz⟩ := I.tuple hq
    exact call_tuple_same pl ⟨.ref p, H, I, rfl, q⟩
noncomputable def tyV (K : PySem.W.Frag) (T : String) (x : V) (H : Hp) : Prop := match x with
  | .str _ => T = "str"
  | .int _ => T = "int"
  | .ref p => (T = "list" /\ ∃ xs, SqL K H p xs) \/ (T = "tuple" /\ ∃ o, K.lookup p = some o /\ o.cls = .type "tuple" /\ o.dict = none) \/
      (T = "dict" /\ ((∃ kvs, H p = some (.dK kvs)) \/ ∃ kvs, H p = some (.dT kvs))) \/ (T = "set" /\ ∃ S n, H p = some (.set S n))
  | _ => False
theorem tyV_is {pins : List (Addr × Obj)} {σ : St} {H : Hp} {s : Shared} {T : String} {x : V} {v : Value} (I : Inv X pins σ H s) (r : RelV x v) (ty : tyV X.K T x H) :
    s.TypeIs v T /\ ∀ a, v = .ref a -> ∃ ob, s.heap.get? a = some ob /\ ob.dict = none := by
  cases x with
  | str z =>
    obtain ⟨t, rfl⟩ := r
    cases (show T = "str" from ty)
    exact ⟨typeIs_str s z t, fun _ e => nomatch e⟩
  | int i =>
    obtain ⟨t, rfl⟩ := r
    cases (show T = "int" from ty)
    exact ⟨typeIs_int s i t, fun _ e => nomatch e⟩
  | ref p =>
    cases r
    rcases ty with ⟨rfl, xs, hq⟩ | ⟨rfl, o, hk, hc, hd⟩ | ⟨rfl, hk⟩ | ⟨rfl, S, n, hk⟩
    · obtain ⟨its, _, pl, _⟩ := I.list hq
      refine ⟨pl.isList.typeIs, fun a e => ?_⟩
      cases e
      obtain ⟨o, n, e, c, hd, _⟩ := pl
      exact ⟨o, e, hd⟩
    · refine ⟨⟨o, I.kIn p o hk, hc⟩, fun a e => ?_⟩
      cases e
      exact ⟨o, I.kIn _ o hk, hd⟩
    · have z : ∃ o, s.heap.get? p = some o /\ o.ExactDict := by
        rcases hk with ⟨kvs, hk⟩ | ⟨kvs, hk⟩
        · obtain ⟨_, _, _, _, o, _, _, e, ex, _⟩ := I.hok p _ hk
          exact ⟨o, e, ex⟩
        · obtain ⟨_, _, _, _, o, _, _, e, ex, _⟩ := I.hok p _ hk
          exact ⟨o, e, ex⟩
      obtain ⟨o, e, ex⟩ := z
      refine ⟨⟨o, e, ex.1⟩, fun a e2 => ?_⟩
      cases e2
      exact ⟨o, e, ex.2.1⟩
    · obtain ⟨o, _, _, _, e, ex, _⟩ := I.hok p _ hk
      refine ⟨⟨o, e, ex.1⟩, fun a e2 => ?_⟩
      cases e2
      exact ⟨o, e, ex.2.1⟩
  | _ => exact False.elim ty
noncomputable def tBM0 (K : PySem.W.Frag) (T : String) (r : V -> List V -> Hp -> VK -> Prop) (to : TE) : TE := fun σ H Q => to σ H fun x H1 => tyV K T x H1 /\ r x [] H1 Q
noncomputable def tBM (K : PySem.W.Frag) (T : String) (r : V -> List V -> Hp -> VK -> Prop) (to : TE) (t : TA) : TE := fun σ H Q => to σ H fun x H1 => tyV K T x H1 /\ t σ H1 fun xs H2 => r x xs H2 Q
variable {o e : Expr} {es : List Expr} {to : TE} {t : TA} {name : Str} {apos cpos : Pos} {T id : String} {r : V -> List V -> Hp -> VK -> Prop}
theorem pe_bm0 (pa : PlainAttrs T) (slot : Slot T name id) (hty : typeOf (.builtin id) = pure (.type "method_descriptor")) (hm : MtR X id r) (ho : PE X o to)
    (hbase : attributeBase o name X.env (eval o X.env) = eval o X.env := by rfl) (hline : (apos.endLine == cpos.line) = true := by rfl) : PE X (.Call (.Attribute o name apos) [] [] cpos) (tBM0 X.K T r to) := by
  intro pins s σ H Q I h
  refine wpAny_Call_method0_late hbase hline (thn (ho pins s σ H _ I h) fun v s1 ⟨x, H1, I1, r1, ty, q1⟩ => ?_)
  obtain ⟨h1, h2⟩ := tyV_is I1 r1 ty
  exact ⟨T, id, pa, slot, hty, h1, h2, Calls.callWith_builtin rfl (PySem.evalArgs_none (hm pins s1 σ H1 x [] v [] Q I1 r1 .nil q1))⟩
theorem pe_bm (pa : PlainAttrs T) (slot : Slot T name id) (hty : typeOf (.builtin id) = pure (.type "method_descriptor")) (hm : MtR X id r) (ho : PE X o to) (ha : PA X (e :: es) t)
    (hbase : attributeBase o name X.env (eval o X.env) = eval o X.env := by rfl)
    (hfew : ((backTo cpos (starEach (e :: es) X.env)).all (fun x => !x.1) && (backToKw cpos (keywordEach [] X.env)).all (fun x => x.1.isSome)
      && decide ((e :: es).length + ([] : List Keyword).length + (if ([] : List Keyword).isEmpty then 0 else 1) < 30)) = true := by rfl)
    (hline : (apos.endLine == cpos.line) = true := by rfl) (hs : starEach (e :: es) X.env = (false, eval e X.env) :: starEach es X.env := by rfl) (hplain : (backTo cpos (starEach es X.env)).any (·.1) = false := by rfl) :
    PE X (.Call (.Attribute o name apos) (e :: es) [] cpos) (tBM X.K T r to t) := by
  intro pins s σ H Q I h
  refine wpAny_Call_method_late hbase hfew hline rfl (thn (ho pins s σ H _ I h) fun v s1 ⟨x, H1, I1, r1, ty, q1⟩ => ?_)
  obtain ⟨h1, h2⟩ := tyV_is I1 r1 ty
  refine ⟨T, id, pa, slot, hty, h1, h2, ?_⟩
  have hA := ha cpos pins s1 σ H1 _ I1 q1
  rw [hs] at hA ⊢
  refine Calls.callWith_builtin (by show (false || (backTo cpos (starEach es X.env)).any (·.1)) = false; rw [hplain] <;> rfl) (Calls.evalArgs_plain ?_)
  exact thn hA fun us s2 ⟨vs, H2, I2, r2, q2⟩ => hm pins s2 σ H2 x vs v us Q I2 r1 r2 q2
/- xs.append(e), list.index on a module's tuple .. are MtR facts of 06m -/
end
end L2
namespace L2
open PySem PySem.Spec PyProof.Rows
noncomputable def MtM (X : Cx) (id : String) (r : V -> List V -> Hp -> VK -> Prop) : Prop :=
  ∀ (pins : List (Addr × Obj)) (s : Shared) (σ : St) (H : Hp) (x : V) (xs : List V) (v : Value) (us : List Value) (Q : VK), Inv X pins σ H s -> RelV x v -> Vals xs us -> r x xs H Q ->
    wpAny (model X.prog X.w) X.A (call (.builtin id) (v :: us)) (EP X pins σ Q) X.xe s
theorem Vals.one {x : V} {us : List Value} (h : Vals [x] us) : ∃ u, us = [u] /\ RelV x u := by
  cases h with
  | cons r t => cases t; exact ⟨_, rfl, r⟩
theorem Vals.two {x y : V} {us : List Value} (h : Vals [x, y] us) : ∃ u v, us = [u, v] /\ RelV x u /\ RelV y v := by
  cases h with
  | cons r t =>
    obtain ⟨v, rfl, q⟩ := Vals.one t
    exact ⟨_, _, rfl, r, q⟩
theorem Vals.zero : ∀ {us : List Value}, Vals [] us -> us = []
  | _, .nil => rfl
theorem Vals.dropLast {xs : List V} {us : List Value} (h : Vals xs us) : Vals xs.dropLast us.dropLast := by
  induction h with
  | nil => exact .nil
  | cons r t ih =>
    cases t with
    | nil => exact .nil
    | cons q t' => exact .cons r ih
theorem Vals.rep {xs : List V} {us : List Value} (h : Vals xs us) : ∀ k : Nat, Vals (List.replicate k xs).flatten (List.replicate k us).flatten
  | 0 => .nil
  | k + 1 => by
    rw [List.replicate_succ, List.replicate_succ, List.flatten_cons, List.flatten_cons]
    exact Vals.append h (Vals.rep h k)
theorem erase_last {α : Type} (l : List α) : l.eraseIdx (l.length - 1) = l.dropLast := by
  induction l with
  | nil => rfl
  | cons a r ih =>
    cases r with
    | nil => rfl
    | cons b r =>
      have e : (a :: b :: r).length - 1 = ((b :: r).length - 1) + 1 := by
        have h1 : (a :: b :: r).length = r.length + 2 := rfl
        have h2 : (b :: r).length = r.length + 1 := rfl
        lia
      rw [e, List.eraseIdx_cons_succ, ih]
      all_goals rfl
theorem foldl_rep (its : List Value) : ∀ (k : Nat) (acc : List Value),
    List.foldl (fun x1 x2 => x1 ++ x2) acc.toArray (List.replicate k its.toArray) = (acc ++ (List.replicate k its).flatten).toArray
  | 0, acc => by simp
  | k + 1, acc => by
    have e : acc.toArray ++ its.toArray = (acc ++ its).toArray := by simp
    have e2 : (acc ++ its) ++ (List.replicate k its).flatten = acc ++ (List.replicate (k + 1) its).flatten := by
      rw [List.replicate_succ, List.flatten_cons, List.append_assoc]
    rw [<- e2, <- foldl_rep its k (acc ++ its), <- e, List.replicate_succ, List.foldl_cons]
section
variable {X : Cx} {pins : List (Addr × Obj)} {σ : St} {H : Hp} {s : Shared} {l b : Addr} {xs ys zs : List V}
theorem Inv.lset {its its' : List Value} {n : Nat} {f : Array Value -> Array Value} {t' : Nat} (I : Inv X pins σ H s) (hH : H l = some (.lst xs))
    (e : s.heap.get? l = some { cls := .type "list", data := .seq its.toArray n }) (hf : f its.toArray = its'.toArray) (hv : Vals ys its') (hz : ys.length <= sizeLine) :
    Inv X pins σ (upd H l (.lst ys)) { s with heap := s.heap.update l (Obj.mapSeq f), toks := t' } := by
  have q := PySem.IsL.update e f
  rw [hf] at q
  refine I.write (x := l) (e := l) (by rw [hH]; exact trivial) (.inl rfl) (fun b' u hb hu => (Heap.get?_update_other s.heap (Obj.mapSeq f) (Ne.symm hb)).trans hu) ⟨_, q⟩ ?_
  exact ⟨hz, its', _, hv, q⟩
theorem Inv.lnew {its : List Value} {t' : Nat} (I : Inv X pins σ H s) (hv : Vals ys its) (hz : ys.length <= sizeLine) :
    Inv X pins σ (upd H s.heap.objs.size (.lst ys)) { s with heap := s.heap.push { cls := .type "list", data := .seq its.toArray }, toks := t' } :=
  I.laid (fun _ _ q => Heap.get?_push_of_some _ q) (Nat.le_refl _) ⟨hz, its, 0, hv, Heap.get?_push_size _ rfl⟩
theorem Inv.fresh (I : Inv X pins σ H s) : H s.heap.objs.size = none := I.hok.fresh (Nat.le_refl _)
theorem Inv.lstM (I : Inv X pins σ H s) (hH : H l = some (.lst xs)) : xs.length <= sizeLine /\ ∃ (its : List Value) (n : Nat), Vals xs its /\ xs.length = its.length /\ s.heap.get? l = some { cls := .type "list", data := .seq its.toArray n } := by
  obtain ⟨z, its, n, r, e⟩ := I.hok l _ hH
  exact ⟨z, its, n, r, r.length, e⟩
theorem notLongL {n : Nat} (h : n <= sizeLine) : Builtin.List.listTooLong n = false := by
  unfold Builtin.List.listTooLong
  exact decide_eq_false (by lia)
end
section
variable {X : Cx}
noncomputable def rAppend : V -> List V -> Hp -> VK -> Prop := fun x vs H Q => ∃ l xs y, x = .ref l /\ vs = [y] /\ H l = some (.lst xs) /\ xs.length < sizeLine /\ Q .non (upd H l (.lst (xs ++ [y])))
theorem mt_append : MtM X "list.append" rAppend := by
  intro pins s σ H x vs v us Q I rx rv h
  obtain ⟨l, xs, y, rfl, rfl, hH, hz, q⟩ := h
  cases rx
  obtain ⟨u, rfl, ru⟩ := rv.one
  obtain ⟨z, its, n, r, hl, e⟩ := I.lstM hH
  refine call_meets F.slot_list_append ⟨_, e, rfl⟩ F.entry_list_append (F.args_list_append_2 _ _) (PySem.list_append l its.toArray n u (by rw [List.size_toArray]; lia)) ⟨e, ?_⟩
  refine ⟨.non, _, I.lset (its' := its ++ [u]) hH e (by simp) (r.append (.cons ru .nil)) ?_, rfl, q⟩
  rw [List.length_append, List.length_singleton]
  lia
noncomputable def rExtend : V -> List V -> Hp -> VK -> Prop := fun x vs H Q => ∃ l b xs zs, x = .ref l /\ vs = [.ref b] /\ H l = some (.lst xs) /\ H b = some (.lst zs) /\ xs.length + zs.length <= sizeLine /\ Q .non (upd H l (.lst (xs ++ zs)))
theorem mt_extend : MtM X "list.extend" rExtend := by
  intro pins s σ H x vs v us Q I rx rv h
  obtain ⟨l, b, xs, zs, rfl, rfl, hH, hB, hz, q⟩ := h
  cases rx
  obtain ⟨u, rfl, ru⟩ := rv.one
  cases ru
  obtain ⟨z, its, n, r, hl, e⟩ := I.lstM hH
  obtain ⟨z2, its2, n2, r2, hl2, e2⟩ := I.lstM hB
  have hsz : its.toArray.size + its2.toArray.size <= sizeLine := by rw [List.size_toArray, List.size_toArray]; lia
  have hlong : ¬ (!its.toArray.isEmpty && Builtin.List.listTooLong (its.toArray.size + its2.toArray.size)) = true := by
    rw [notLongL hsz, Bool.and_false]
    exact Bool.false_ne_true
  refine call_meets F.slot_list_extend ⟨_, e, rfl⟩ F.entry_list_extend (F.args_list_extend_2 _ _)
    (AutoSeq1.list_extend_list_list_0 l its.toArray n b its2.toArray n2 hlong (by rw [List.size_toArray]; lia) (by lia)) ⟨e, e2, ?_⟩
  refine ⟨.non, _, I.lset (its' := its ++ its2) hH e (by simp) (r.append r2) ?_, rfl, q⟩
  rw [List.length_append]
  lia
noncomputable def rPop : V -> List V -> Hp -> VK -> Prop := fun x vs H Q => ∃ l xs y, x = .ref l /\ vs = [] /\ H l = some (.lst xs) /\ xs[xs.length - 1]? = some y /\ Q y (upd H l (.lst xs.dropLast))
theorem mt_pop : MtM X "list.pop" rPop := by
  intro pins s σ H x vs v us Q I rx rv h
  obtain ⟨l, xs, y, rfl, rfl, hH, hy, q⟩ := h
  cases rx
  have hus := rv.zero
  subst hus
  obtain ⟨z, its, n, r, hl, e⟩ := I.lstM hH
  obtain ⟨u, hu, ru⟩ := r.get hy
  have hy' : its.toArray[its.toArray.size - 1]? = some u := by
    show its.toArray[its.length - 1]? = some u
    rw [<- Array.getElem?_toList, <- hl]
    exact hu
  refine call_meets F.slot_list_pop ⟨_, e, rfl⟩ F.entry_list_pop (F.args_list_pop_1 _) (MeetsSeq.list_pop_last l its.toArray n u hy' (by rw [List.size_toArray]; lia)) ⟨e, ?_⟩
  refine ⟨y, _, I.lset (its' := its.dropLast) hH e ?_ r.dropLast ?_, ru, q⟩
  · show its.toArray.eraseIdxIfInBounds (its.toArray.size - 1) = its.dropLast.toArray
    rw [List.size_toArray, List.eraseIdxIfInBounds_toArray, erase_last]
  · rw [List.length_dropLast]
    lia
noncomputable def rCat : R2 := fun x y H Q => ∃ l b xs zs, x = .ref l /\ y = .ref b /\ H l = some (.lst xs) /\ H b = some (.lst zs) /\ xs.length + zs.length <= sizeLine /\ ∀ p, H p = none -> Q (.ref p) (upd H p (.lst (xs ++ zs)))
theorem op_cat : OpR X (binaryOp .Add) rCat := by
  intro pins s σ H x y v u Q I rx ry h
  obtain ⟨l, b, xs, zs, rfl, rfl, hH, hB, hz, q⟩ := h
  cases rx
  cases ry
  obtain ⟨z, its, n, r, hl, e⟩ := I.lstM hH
  obtain ⟨z2, its2, n2, r2, hl2, e2⟩ := I.lstM hB
  refine PySem.P.add_list e e2 ?_ (by rw [List.size_toArray, List.size_toArray]; lia)
  have ea : its.toArray ++ its2.toArray = (its ++ its2).toArray := by simp
  rw [ea]
  exact ⟨.ref _, _, I.lnew (t' := s.toks) (r.append r2) (by rw [List.length_append]; lia), rfl, q _ I.fresh⟩
noncomputable def rRep : R2 := fun x y H Q => ∃ l k xs, x = .ref l /\ y = .int k /\ H l = some (.lst xs) /\ -(2 ^ 63) <= k /\ k < 2 ^ 63 /\ xs.length * k.toNat <= sizeLine /\
  ∀ p, H p = none -> Q (.ref p) (upd H p (.lst (List.replicate k.toNat xs).flatten))
theorem len_rep {α : Type} (xs : List α) (k : Nat) : (List.replicate k xs).flatten.length = k * xs.length := by
  induction k with
  | zero => simp
  | succ k ih => rw [List.replicate_succ, List.flatten_cons, List.length_append, ih, Nat.succ_mul, Nat.add_comm]
theorem op_rep : OpR X (binaryOp .Mult) rRep := by
  intro pins s σ H x y v u Q I rx ry h
  obtain ⟨l, k, xs, rfl, rfl, hH, h1, h2, hz, q⟩ := h
  cases rx
  obtain ⟨t, rfl⟩ := ry
  obtain ⟨z, its, n, r, hl, e⟩ := I.lstM hH
  have hlen : its.toArray.size * k.toNat <= sizeLine := by rw [List.size_toArray, <- hl]; exact hz
  have hcap : ¬ its.toArray.size * k.toNat > (2 ^ 63 - 1) / 8 := by
    have : (sizeLine : Nat) <= (2 ^ 63 - 1) / 8 := by decide
    lia
  have hfit : ¬ (!Builtin.List.listFitsIndex k) = true := by
    rw [fitsIndex_both h1 h2]
    exact Bool.false_ne_true
  have hlong : ¬ Builtin.List.listTooLong (its.toArray.size * k.toNat) = true := by
    rw [notLongL hlen]
    exact Bool.false_ne_true
  have hnew : List.foldl (fun x1 x2 => x1 ++ x2) #[] (List.replicate (if its.toArray.isEmpty = true then 0 else k.toNat) its.toArray) = (List.replicate k.toNat its).flatten.toArray := by
    have f0 : ∀ m : Nat, List.foldl (fun x1 x2 => x1 ++ x2) #[] (List.replicate m its.toArray) = (List.replicate m its).flatten.toArray := fun m => by
      have := foldl_rep its m []
      rw [List.nil_append] at this
      exact this
    rw [f0]
    cases its with
    | nil => simp
    | cons a r' => rw [if_neg (by simp)]
  refine wpAny_binaryOp_repeat_ref (T := "list") (U := "int") (by decide) ⟨_, e, rfl⟩ (fun s' => typeIs_int s' k t) noFill_list_mul F.fills_int_mul F.slot_int_rmul repeat_list F.slot_int_index.lookup
    (call_meets F.slot_int_rmul (typeIs_int s k t) F.entry_int_rmul (F.args_int_rmul_2 _ _) (int___rmul___int_list k t l its.toArray n)
      ⟨e, rfl, ⟨_, e, rfl⟩, call_meets F.slot_list_mul ⟨_, e, rfl⟩ F.entry_list_mul (F.args_list_mul_2 _ _) (AutoListH.list___mul___list_int_3 l its.toArray n k t hfit hcap hlong) ⟨e, ?_⟩⟩)
  rw [hnew]
  exact ⟨.ref _, _, I.lnew (t' := s.toks) (r.rep k.toNat) (by rw [len_rep, Nat.mul_comm]; exact hz), rfl, q _ I.fresh⟩
end
section
variable {prog : Program} {w : World} {A : Around} {E : Value -> Shared -> Prop} {s : Shared}
set_option maxRecDepth 100000 in
end
section
variable {X : Cx}
end
end L2
namespace Att
open PySem PySem.W PySem.Calls PyProof.Rows
theorem ints_of_wellAll {P : Params} {h : Heap} : ∀ (ns : List Int) (vs : List Value), WellAll P h vs (ns.map WData.int) -> IntsAre vs ns := by
  intro ns
  induction ns with
  | nil =>
    intro vs w
    rw [List.map_nil] at w
    cases w
    exact .nil
  | cons n ns ih =>
    intro vs w
    rw [List.map_cons] at w
    cases w with
    | cons a b =>
      cases a
      exact .cons _ _ (ih _ b)
theorem script_of {l : OpenLaw} {n : Nat} (hn : l.most = some n) {P : Params} {h : Heap} {args : List WData} {vals : List Value}
    (hpre : l.row.toRowW.claim.pre args = true) (hwl : WellAll P h vals args) :
    ∃ a vs ns, vals = [Value.ref a] /\ args = [WData.list (ns.map WData.int)] /\ h.get? a = some { cls := .type "list", data := .seq vs.toArray } /\ IntsAre vs ns /\ ns.length <= n := by
  have hsh : WShape.hasAll [] args [.list .int] = true := (pre_splitW hpre).1
  have hc : l.pre.holds [] { args := args } = true := (pre_splitW hpre).2
  obtain ⟨d, r, rfl, h1, h2⟩ := hasAllW_cons hsh
  obtain rfl := hasAllW_nil h2
  obtain ⟨xs, rfl, h3⟩ := hasW_list h1
  obtain ⟨ns, rfl⟩ := items_int h3
  have hlen : ns.length <= n := by
    unfold OpenLaw.pre at hc
    have h4 : (WTm.not (.lt (.lit (.int (n : Int))) (.len (.arg 0)))).holds [] { args := [.list (ns.map .int)] } = true := by
      have h4 := (holds_andW hc).1
      rw [hn] at h4
      exact h4
    have h5 := condW_of h4 (w_not (w_lt w_lit (w_len_list (w_arg rfl))))
    rw [List.length_map] at h5
    refine Nat.le_of_not_lt fun q => ?_
    have q' : (n : Int) < ((ns.length : Nat) : Int) := by lia
    first
      | (rw [decide_eq_true q'] at h5; exact absurd h5 (by decide))
      | (simp at h5; lia)
  cases hwl with
  | cons w1 w2 =>
    cases w2
    cases w1 with
    | list ho hall => exact ⟨_, _, ns, rfl, rfl, ho, ints_of_wellAll ns _ hall, hlen⟩
theorem post_true (l : OpenLaw) (args : List WData) : l.row.toRowW.claim.post args (.bool true) args = true :=
  postW_of (r := l.row.toRowW) (X := (true == true))
    (show WShape.has [] (.bool true) .bool = true by first | rfl | decide | simp [WShape.has, WShape.arms, WShape.armsAll])
    (show (WTm.eq .res (.lit (.bool true))).value [] { args := args, res := some (.bool true), after := args } = some (.bool (true == true)) from w_eq_bool (w_res rfl) w_lit) rfl
theorem attach_call {l : OpenLaw} {n : Nat} {q : Program} {loose : List Str} {XP : (Str -> Option Value) -> Heap -> Prop} {YP : World -> Heap -> Prop} {d : DefRec}
    (hn : l.most = some n) (hdf : d.params.defaults = [])
    (call : ∀ (w : World) (s₀ s₁ : Shared) (mg mb : Str -> Option Value) (fa : Addr) (o : Obj) (pm cd doc : Value) (a : Addr) (vs : List Value) (ns : List Int),
      Ground q loose [] XP w s₀ mg mb s₁.heap -> YP w s₁.heap ->
      s₁.heap.get? fa = some o -> o.data = .func (docDef d.name d.params d.body d.scope pm cd doc) -> s₁.heap.CodeRec cd d.name -> mg d.name = some (.ref fa) ->
      s₁.heap.get? a = some { cls := .type "list", data := .seq vs.toArray } -> IntsAre vs ns -> ns.length <= n -> s₁.gens = #[] ->
      codeAny (model l.prog w) callerA (.call (.ref fa) ⟨[.ref a], []⟩) (fun r s' => r = .ok (.ret (.bool true)) /\ OldK s₁.heap s'.heap /\ s'.os = s₁.os /\ AllBare s'.gens) s₁) :
    WalkO q loose XP YP l.row.toRowW d [] (fun f vs => PySem.call f vs) := by
  intro w s₀ s₁ mg mb G Y fa o pm cd doc dV kV ho hd hcd hD hmg hg args vals as hpre hlay hrd hwl hlo
  obtain rfl : dV = .none := Dflts.none hD hdf
  obtain rfl : kV = .none := Dflts.noKw hD
  obtain ⟨a, vs, ns, rfl, rfl, hobj, hints, hlen⟩ := script_of hn hpre hwl
  refine enter_call (codeAny_mono (call w s₀ s₁ mg mb fa o pm cd doc a vs ns G Y ho (fd_plain hd) hcd hmg hobj hints hlen hg) fun r s' hq => ?_)
  obtain ⟨rfl, h2, h3, h4⟩ := hq
  exact ⟨.inl ⟨.bool true, .bool true, [], rfl, fun _ => rfl, .bool true, post_true l _, fun _ => ⟨List.Pairwise.nil, fun _ hm => (nomatch hm)⟩⟩, h2, h3, h4⟩
section
variable {prog : Program} {w : World} {A : Around} {E : Value -> Shared -> Prop} {s : Shared} {K : Frag}
end
end Att
namespace L2
open PySem PySem.Spec PyProof.Rows
theorem vals_ints : ∀ {vs : List Value} {ns : List Int}, IntsAre vs ns -> Vals (ns.map V.int) vs
  | _, _, .nil => .nil
  | _, _, .cons n t h => .cons ⟨t, rfl⟩ (vals_ints h)
noncomputable def Only (H : Hp) : Prop := ∀ b, H b = none \/ ∃ o xs, H b = some (.frz o (.lst xs))
theorem law_call {P : Program} {w : World} {K : PySem.W.Frag} {mg mb : Str -> Option Value} {CX : CXT} {k : Nat} {fa a : Addr} {fd : FuncData} {x : Str} {sp : Sp} {s₁ : Shared} {vs : List Value} {ns : List Int}
    (KX : K.In s₁.heap) (hns : s₁.heap.Ns mainGlobals mg) (hb : s₁.heap.Ns builtinsNs mb) (hbb : ∀ x : Str, x ≠ "__name__" -> mb x = bootBuiltins x) (hlim : s₁.heap.NoLimit) (hg : s₁.gens = #[])
    (ha : s₁.heap.get? a = some { cls := .type "list", data := .seq vs.toArray }) (hi : IntsAre vs ns) (hl : ns.length <= sizeLine) (hr : Room k callerA)
    (F : ∀ base : Heap, K.In base -> base.Ns mainGlobals mg -> FnOk P w K mg base CX k fa fd [x] sp) (hbind : ∀ (s : Shared) (u : Value), BindsTo s fd ⟨[u], []⟩ [(x, u)])
    (hsp : ∀ H : Hp, Only H -> SqL K H a (ns.map V.int) -> sp [.ref a] H (fun v _ => v = .bl true) fun _ _ _ => False)
    (hCX : ∀ H e s', CX [] H s₁ (fun _ _ _ => False) e s' -> False) :
    codeAny (model P w) callerA (.call (.ref fa) ⟨[.ref a], []⟩) (fun r s' => r = .ok (.ret (.bool true)) /\ OldK s₁.heap s'.heap /\ s'.os = s₁.os /\ AllBare s'.gens) s₁ := by
  have rv := vals_ints hi
  have lenV := hi.length
  -- from an abstract heap in which nothing but the script may be tracked
  have core : ∀ H : Hp, Only H -> SqL K H a (ns.map V.int) -> HOk P w H s₁.heap -> (∀ b, H b ≠ none -> b = a) -> (H a ≠ none -> K.lookup a = none) ->
      codeAny (model P w) callerA (.call (.ref fa) ⟨[.ref a], []⟩) (fun r s' => r = .ok (.ret (.bool true)) /\ OldK s₁.heap s'.heap /\ s'.os = s₁.os /\ AllBare s'.gens) s₁ := by
    intro H hO hS hok hA hK
    have base_of : ∀ {b : Addr} {o : Obj}, s₁.heap.get? b = some o -> H b = none -> (hidT s₁.heap H).get? b = some o := fun e n => hidT_get e n
    have noA : ∀ {b : Addr} {o : Obj} {es : Array DictEntry} {ep : Nat}, s₁.heap.get? b = some o -> o.data = .dict es ep -> H b = none := fun {b o es ep} e d => by
      cases q : H b with
      | none => rfl
      | some u =>
        have e' : b = a := hA b (by rw [q]; simp)
        subst e'
        rw [ha] at e; cases e
        have d' : Data.seq vs.toArray _ = Data.dict es ep := d
        cases d'
    have nsK : ∀ {b : Addr} {m : Str -> Option Value}, s₁.heap.Ns b m -> (hidT s₁.heap H).Ns b m := fun {b m} ⟨o, es, ep, e, d, r⟩ => ⟨o, es, ep, base_of e (noA e d), d, r⟩
    have hKb : K.In (hidT s₁.heap H) := fun b o e => base_of (KX b o e) (by
      cases q : H b with
      | none => rfl
      | some u =>
        have e' : b = a := hA b (by rw [q]; simp)
        subst e'
        rw [hK (by rw [q]; simp)] at e; cases e)
    have hM : Mod K mg (hidT s₁.heap H) := ⟨hKb, nsK hns, ⟨mb, nsK hb, hbb⟩, let ⟨mc, h1, h2⟩ := hlim; ⟨mc, nsK h1, h2⟩⟩
    have e0 : Env0 P w K mg (hidT s₁.heap H) callerA [] s₁ H := ⟨rfl, hM, fun b o e => of_hidT e, Nat.le_of_eq (hidT_size _ _), trivial, fun b hb => absurd (show b ∈ ([] : List Addr) from hb) (by simp), hok, .of_eq hg⟩
    refine codeAny_mono ((F _ hKb (nsK hns)).run callerA [] s₁ H ⟨[.ref a], []⟩ [.ref a] [.ref a] _ _ hr e0 (hbind s₁ (.ref a)) (.cons rfl .nil) (hsp H hO hS)) fun r s' h => ?_
    cases r with
    | error e => exact (hCX H e s' h).elim
    | ok fl =>
      cases fl with
      | next => exact False.elim h
      | brk => exact False.elim h
      | cont => exact False.elim h
      | ret u =>
        obtain ⟨v, H', os, bare, un, hok', r', q⟩ := h
        have q' : v = .bl true := q
        subst q'
        obtain rfl : u = Value.bool true := r'
        refine ⟨rfl, OldK.of_keep fun b o e => ?_, os, bare⟩
        cases q : H b with
        | none => exact un.keep b o e q (by intro z; exact absurd (show b ∈ ([] : List Addr) from z) (by simp)) (by simp)
        | some u =>
          rcases hO b with z | ⟨ob, xs, z⟩
          · rw [q] at z; cases z
          · have z2 := un.frzs b ob _ z
            obtain ⟨e1, _⟩ := hok b _ z
            obtain ⟨e2, _⟩ := hok' b _ z2
            rw [e] at e1; cases e1
            exact e2
  cases hk : K.lookup a with
  | some o =>
    -- the script is one of the module's own objects
    have e := KX a o hk
    rw [ha] at e
    cases e
    refine core (fun _ => none) (fun _ => .inl rfl) (.inr ⟨_, vs.toArray, _, hk, rfl, rfl, rfl, by rw [List.size_toArray, lenV]; exact hl, by simpa using rv⟩) (fun b u z => by have z' : (none : Option HO) = some u := z; cases z') (fun b z => absurd rfl z) fun z => absurd rfl z
  | none =>
    refine core (fun b => if b = a then some (.frz { cls := .type "list", data := .seq vs.toArray } (.lst (ns.map V.int))) else none) (fun b => ?_) (.inl (.inr ⟨{ cls := .type "list", data := .seq vs.toArray }, if_pos rfl⟩)) (fun b u z => ?_) (fun b z => ?_) fun _ => hk
    · by_cases hb : b = a
      · exact .inr ⟨_, _, if_pos hb⟩
      · exact .inl (if_neg hb)
    · by_cases hb : b = a
      · have z' := (if_pos hb).symm.trans z
        cases z'
        subst hb
        exact ⟨ha, by rw [List.length_map]; exact hl, vs, _, rv, ha⟩
      · have z' := (if_neg hb).symm.trans z
        cases z'
    · by_cases hb : b = a
      · exact hb
      · exact absurd (if_neg hb) z
end L2
namespace L2
open PySem PySem.Spec PyProof.Rows
noncomputable abbrev KOf {K : PySem.W.Frag} {h : Heap} (_ : K.In h) : PySem.W.Frag := K
theorem walk_of {l : PySem.W.OpenLaw} {n k : Nat} {q : Program} {loose : List Str} {XP : (Str -> Option Value) -> Heap -> Prop} {YP : World -> Heap -> Prop} {d : DefRec} {K : Params -> PySem.W.Frag} {CX : World -> CXT} {sp : World -> Sp} {x : Str}
    (hn : l.most = some n) (hn2 : n <= sizeLine) (hdf : d.params.defaults = []) (hr : Room k callerA)
    (hY : ∀ (w : World) (h : Heap), YP w h -> (K w.params).In h)
    (F : ∀ (w : World) (mg : Str -> Option Value) (fa : Addr) (h : Heap), (K w.params).In h -> h.Ns mainGlobals mg -> mg d.name = some (.ref fa) ->
      ∃ fd : FuncData, (∀ (s : Shared) (u : Value), BindsTo s fd ⟨[u], []⟩ [(x, u)]) /\
        ∀ base : Heap, (K w.params).In base -> base.Ns mainGlobals mg -> FnOk l.prog w (K w.params) mg base (CX w) k fa fd [x] (sp w))
    (hsp : ∀ (w : World) (H : Hp) (a : Addr) (ns : List Int), ns.length <= n -> Only H -> SqL (K w.params) H a (ns.map V.int) -> sp w [.ref a] H (fun v _ => v = .bl true) fun _ _ _ => False)
    (hCX : ∀ (w : World) (H : Hp) (s : Shared) (e : Value) (s' : Shared), CX w [] H s (fun _ _ _ => False) e s' -> False) :
    PySem.W.WalkO q loose XP YP l.row.toRowW d [] (fun f vs => PySem.call f vs) := by
  refine Att.attach_call hn hdf fun w s₀ s₁ mg mb fa o pm cd doc a vs ns G Y ho hd hcd hmg hobj hints hlen hg => ?_
  have KX := hY w _ Y
  obtain ⟨fd, hb, hF⟩ := F w mg fa _ KX G.T.g hmg
  exact law_call KX G.T.g G.T.b G.T.builtins G.T.nolimit hg hobj hints (Nat.le_trans hlen hn2) hr hF hb (fun H hO hS => hsp w H a ns hlen hO hS) fun H e s' => hCX w H s₁ e s'
end L2
/- THE LAST THEOREM (shape; LID, My.* are yours):
   My.Adr: a structure of the addresses that your layer names (classes, functions); My.Txt K t: a structure (Prop) of the equations over K;
   My.txt_mk : {K} {implicit addresses ..} (e1 : nsIn K mainGlobals "law" = some (some (.ref f))) (e2 : K.lookup f = some ⟨oc, od, .func (fnOf "law" "law" params body scope dV kV doc pm an cdv ct), sl⟩) (e3 : codeIn K cdv "law" = true) .. : ∃ t, My.Txt K t
set_option maxRecDepth 100000 in
set_option maxHeartbeats 0 in
theorem PySem.Challenge.cw_LID_holds : PySem.Challenge.rw_LID.Holds := by
  w_on; o_law; k_head; (case hw => w_witness2)
  k_fill
  refine L2.walk_of (l := PySem.Challenge.rw_LID) (n := 63) (k := 40) (x := "script") (CX := fun w => ..) (sp := fun _ => My.sp_law) rfl (by decide) rfl ⟨rfl, by decide, by decide⟩ (fun w h Y => PySem.W.kIn_of Y) ?F ?S ?C
  case F =>
    intro w mg fa h KX G hmg
    have T : ∃ t, My.Txt (L2.KOf KX) t := by
      dsimp only [L2.KOf]                          -- K must stand as «<heap const> w.params» for k_is
      refine' My.txt_mk ?e1 ?e2 ?e3 ..
      (case e1 => PySem.W.k_is)                    -- in the order: a name -> its address -> its object -> its parts
      (case e2 => PySem.W.k_is)
      ..
    obtain ⟨t, T⟩ := T
    have e0 := hmg.symm.trans (PySem.W.mg_of KX G T.law)
    cases e0                                       -- fa is the law's own address
    exact ⟨_, fun s u => .of_eq rfl, fun base kb nb => My.law_fn T kb nb⟩     -- if «.of_eq rfl» comes too early: refine' ⟨_, ?b, fun base kb nb => My.law_fn T kb nb⟩; exact fun s u => .of_eq rfl
  case S => exact fun w H a ns hl hO hS => ..
  case C => exact ..
(the tactic k_is has no namespace: write k_is) -/
namespace L2
open PySem PySem.Spec PyProof.Rows
noncomputable def defArgs (s : Stmt) : Arguments := match s with
  | .FunctionDef _ a _ _ _ _ _ _ _ _ => a
  | _ => { posonlyargs := [], args := [], vararg := none, kwonlyargs := [], kw_defaults := [], kwarg := none, defaults := [] }
noncomputable def defBody (s : Stmt) : List Stmt := match s with
  | .FunctionDef _ _ b _ _ _ _ _ _ _ => b
  | _ => []
noncomputable def defScope (s : Stmt) : Scope := match s with
  | .FunctionDef _ _ _ _ _ _ sc _ _ _ => sc
  | _ => { kind := .function, names := [], isGenerator := false, isCoroutine := false }
noncomputable abbrev CX0 : CXT := fun _ _ _ _ _ _ => False
noncomputable abbrev E0 : XK := fun _ _ _ => False
theorem pass0 {X : Cx} : Passes CX0 X E0 := fun _ _ _ _ _ _ _ h => h.elim
structure Fun (K : PySem.W.Frag) (x qual : Str) (st : Stmt) (f : Addr) (fd : FuncData) : Prop where
  ex : ∃ (oc : Value) (od : Option Addr) (kV doc pm : Value) (an : Option Addr) (cdv ct : Value) (osl : Array (Option Value)),
    fd = PySem.W.fnOf x qual (defArgs st) (defBody st) (defScope st) .none kV doc pm an cdv ct /\ K.lookup f = some ⟨oc, od, .func fd, osl⟩ /\ PySem.W.codeIn K cdv qual = true
  kp : PySem.W.keepIn K (.ref f) = true
section
variable {P : Program} {w : World} {K : PySem.W.Frag} {mg : Str -> Option Value} {base : Heap}
theorem Fun.ok {x qual : Str} {st : Stmt} {f : Addr} {fd : FuncData} {N ps : List Str} {k : Nat} {sp : Sp} (F : Fun K x qual st f fd) (S : FnScope N ps (defScope st)) (len : ∀ vs H Q E, sp vs H Q E -> vs.length = ps.length)
    (hbody : ∀ (cdv : Value) (A : Around) (outer : List Env) (s : Shared) (H : Hp) (vs : List V) (Q : VK) (E : XK), Room k (A.deeper (envOfC qual (defScope st) s.heap.objs.size f cdv)) -> sp vs H Q E ->
      ∃ t, PSs (cxOf CX0 P w K mg base N qual (defScope st) f cdv A outer s H E).nox (defBody st) t /\ t { nx := fun _ H' => Q .non H', rt := Q } (start N vs) H) : FnOk P w K mg base CX0 (k + 1) f fd ps sp := by
  obtain ⟨oc, od, kV, doc, pm, an, cdv, ct, osl, rfl, lk, hcd⟩ := F.ex
  refine fn_of lk hcd S len fun A outer s H vs Q E hr hsp => ?_
  obtain ⟨t, h, q⟩ := hbody cdv A outer s H vs Q E hr hsp
  exact ⟨t, h.nox, q⟩
theorem Fun.binds {x qual : Str} {st : Stmt} {f : Addr} {fd : FuncData} {ps : List Str} (F : Fun K x qual st f fd)
    (h : ∀ (kV doc pm : Value) (an : Option Addr) (cdv ct : Value) (us : List Value), us.length = ps.length -> bindArgs (PySem.W.fnOf x qual (defArgs st) (defBody st) (defScope st) .none kV doc pm an cdv ct) ⟨us, []⟩ = pure (ps.zip us)) : Binds K fd ps [] := by
  obtain ⟨oc, od, kV, doc, pm, an, cdv, ct, osl, rfl, lk, hcd⟩ := F.ex
  exact .all (h kV doc pm an cdv ct)
theorem fun_mk {x qual : Str} {st : Stmt} {f : Addr} {oc : Value} {od an : Option Addr} {osl : Array (Option Value)} {kV doc pm cdv ct : Value} (l : K.lookup f = some ⟨oc, od, .func (PySem.W.fnOf x qual (defArgs st) (defBody st) (defScope st) .none kV doc pm an cdv ct), osl⟩)
    (c : PySem.W.codeIn K cdv qual = true) (k : PySem.W.keepIn K (.ref f) = true) : Fun K x qual st f (PySem.W.fnOf x qual (defArgs st) (defBody st) (defScope st) .none kV doc pm an cdv ct) := ⟨⟨oc, od, kV, doc, pm, an, cdv, ct, osl, rfl, l, c⟩, k⟩
end
theorem hu_of {A : Around} {k : Nat} (hr : Room k A) : A.units + 1 < cLine := Nat.lt_of_le_of_lt (Nat.add_le_add_left (by decide : 1 <= 64) _) hr.units
section
variable {X : Cx}
end
theorem iteF {A B : Prop} (h : B) : if false = true then A else B := by
  rw [if_neg Bool.false_ne_true]
  exact h
theorem iteT {A B : Prop} (h : A) : if true = true then A else B := by
  rw [if_pos rfl]
  exact h
theorem ite2 {c A B : Prop} [Decidable c] (h1 : c -> A) (h2 : ¬ c -> B) : if c then A else B := by
  by_cases h : c
  · rw [if_pos h]
    exact h1 h
  · rw [if_neg h]
    exact h2 h
noncomputable def Same (H H' : Hp) : Prop := ∀ b o, H b = some o -> H' b = some o
theorem Same.refl (H : Hp) : Same H H := fun _ _ h => h
theorem Same.trans {H H1 H2 : Hp} (a : Same H H1) (b : Same H1 H2) : Same H H2 := fun c o h => b c o (a c o h)
theorem Same.seq {K : PySem.W.Frag} {H H' : Hp} {a : Addr} {xs : List V} (e : Same H H') (h : SqL K H a xs) : SqL K H' a xs := by
  rcases h with (h | ⟨o, h⟩) | h
  · exact .inl (.inl (e _ _ h))
  · exact .inl (.inr ⟨o, e _ _ h⟩)
  · exact .inr h
end L2
namespace L2
open PySem PySem.Spec PyProof.Rows
section
variable {X : Cx}
end
end L2
namespace L2
open PySem PySem.Spec PyProof.Rows
section
variable {κ : Type} [DecidableEq κ]
end
end L2
end
section
namespace L2
open PySem
section
variable {prog : Program} {w : World} {A : Around} {E : Value -> Shared -> Prop} {s : Shared}
end
end L2
end
section
namespace Kn
open PySem
inductive Val where
  | num (i : Int)
  | word (s : Str)
  | row (ps : List (Str × Val))
  | bag (ps : List (Val × Int))
inductive KE where
  | i (n : Int)
  | s (x : Str)
noncomputable instance : DecidableEq Val := fun a b => Classical.propDecidable (a = b)
noncomputable instance : DecidableEq KE := fun a b => Classical.propDecidable (a = b)
noncomputable def sLt (a b : Str) : Bool := decide (a.cps.toList < b.cps.toList)
noncomputable def rank : Val -> Int
  | .num _ => 0
  | .word _ => 1
  | .row _ => 2
  | .bag _ => 3
mutual
noncomputable def key : Val -> List KE
  | .num i => [.i 0, .i i]
  | .word s => [.i 1, .s s]
  | .row ps => .i 2 :: keyR ps
  | .bag ps => .i 3 :: keyB ps
noncomputable def keyR : List (Str × Val) -> List KE
  | [] => [.i 0]
  | p :: ps => .i 1 :: .s p.1 :: (key p.2 ++ keyR ps)
noncomputable def keyB : List (Val × Int) -> List KE
  | [] => [.i 0]
  | p :: ps => .i 1 :: (key p.1 ++ .i p.2 :: keyB ps)
end
mutual
noncomputable def ltV : Val -> Val -> Bool
  | .num i, .num j => decide (i < j)
  | .word s, .word t => sLt s t
  | .row ps, .row qs => ltR ps qs
  | .bag ps, .bag qs => ltB ps qs
  | x, y => decide (rank x < rank y)
noncomputable def ltR : List (Str × Val) -> List (Str × Val) -> Bool
  | [], [] => false
  | [], _ :: _ => true
  | _ :: _, [] => false
  | p :: ps, q :: qs => if p = q then ltR ps qs else if p.1 = q.1 then ltV p.2 q.2 else sLt p.1 q.1
noncomputable def ltB : List (Val × Int) -> List (Val × Int) -> Bool
  | [], [] => false
  | [], _ :: _ => true
  | _ :: _, [] => false
  | p :: ps, q :: qs => if p = q then ltB ps qs else if p.1 = q.1 then decide (p.2 < q.2) else ltV p.1 q.1
end
noncomputable def kEl : KE -> KE -> Option Bool
  | .i m, .i n => some (decide (m < n))
  | .s x, .s y => some (sLt x y)
  | _, _ => none
noncomputable def cmpK : List KE -> List KE -> Option Bool
  | [], [] => some false
  | [], _ :: _ => some true
  | _ :: _, [] => some false
  | a :: as, b :: bs => if a = b then cmpK as bs else kEl a b
noncomputable def aheadB (x y : Val) : Bool := if x = y then false else ltV x y
theorem sLt_irrefl (x : Str) : sLt x x = false := by
  unfold sLt
  exact decide_eq_false (List.lt_irrefl _)
end Kn
end
section
namespace L2
open PySem PySem.Spec PyProof.Rows
inductive Dt where
  | int (i : Int)
  | str (x : Str)
  | tup (ds : List Dt)
noncomputable instance : DecidableEq Dt := fun a b => Classical.propDecidable (a = b)
mutual
noncomputable def Dt.dep : Dt -> Nat
  | .int _ => 0
  | .str _ => 0
  | .tup ds => depL ds + 1
noncomputable def depL : List Dt -> Nat
  | [] => 0
  | d :: ds => max d.dep (depL ds)
end
theorem dep_mem : ∀ {ds : List Dt} {d : Dt}, d ∈ ds -> d.dep <= depL ds
  | d :: ds, e, h => by
    rw [depL]
    rcases List.mem_cons.mp h with rfl | h
    · exact Nat.le_max_left _ _
    · exact Nat.le_trans (dep_mem h) (Nat.le_max_right _ _)
mutual
noncomputable def IsDt (H : Hp) : Dt -> V -> Prop
  | .int i, v => v = .int i
  | .str x, v => v = .str x
  | .tup ds, v => ∃ a xs, v = .ref a /\ H a = some (.tup xs) /\ IsDts H ds xs
noncomputable def IsDts (H : Hp) : List Dt -> List V -> Prop
  | [], xs => xs = []
  | d :: ds, xs => ∃ y ys, xs = y :: ys /\ IsDt H d y /\ IsDts H ds ys
end
noncomputable def Tups (H H' : Hp) : Prop := ∀ b xs, H b = some (.tup xs) -> H' b = some (.tup xs)
theorem Tups.refl (H : Hp) : Tups H H := fun _ _ h => h
theorem Tups.trans {H H1 H2 : Hp} (a : Tups H H1) (b : Tups H1 H2) : Tups H H2 := fun c xs h => b c xs (a c xs h)
theorem Same.tups {H H' : Hp} (h : Same H H') : Tups H H' := fun b xs e => h b _ e
theorem Tups.new {H : Hp} {p : Addr} (h : H p = none) (o : HO) : Tups H (upd H p o) := fun b xs e => by rw [upd_ne (ne_of_none e h)]; exact e
theorem Tups.lst {H : Hp} {p : Addr} {xs ys : List V} (h : H p = some (.lst xs)) : Tups H (upd H p (.lst ys)) := fun b zs e => by
  rw [upd_ne (ne_of e h (by intro z; cases z))]; exact e
mutual
theorem IsDt.mono {H H' : Hp} (t : Tups H H') : ∀ {d : Dt} {v : V}, IsDt H d v -> IsDt H' d v
  | .int i, v, h => by rw [IsDt] at h ⊢; exact h
  | .str x, v, h => by rw [IsDt] at h ⊢; exact h
  | .tup ds, v, h => by
    rw [IsDt] at h ⊢
    obtain ⟨a, xs, e, h1, h2⟩ := h
    exact ⟨a, xs, e, t a xs h1, IsDts.mono t h2⟩
theorem IsDts.mono {H H' : Hp} (t : Tups H H') : ∀ {ds : List Dt} {xs : List V}, IsDts H ds xs -> IsDts H' ds xs
  | [], xs, h => by rw [IsDts] at h ⊢; exact h
  | d :: ds, xs, h => by
    rw [IsDts] at h ⊢
    obtain ⟨y, ys, e, h1, h2⟩ := h
    exact ⟨y, ys, e, IsDt.mono t h1, IsDts.mono t h2⟩
end
mutual
theorem IsDt.inj {H : Hp} : ∀ {d e : Dt} {v : V}, IsDt H d v -> IsDt H e v -> d = e
  | .int i, e, v, h, h' => by
    rw [IsDt] at h; subst h
    cases e with
    | int j => rw [IsDt] at h'; cases h'; rfl
    | str y => rw [IsDt] at h'; cases h'
    | tup es => rw [IsDt] at h'; obtain ⟨_, _, z, _⟩ := h'; cases z
  | .str i, e, v, h, h' => by
    rw [IsDt] at h; subst h
    cases e with
    | int j => rw [IsDt] at h'; cases h'
    | str y => rw [IsDt] at h'; cases h'; rfl
    | tup es => rw [IsDt] at h'; obtain ⟨_, _, z, _⟩ := h'; cases z
  | .tup ds, e, v, h, h' => by
    rw [IsDt] at h
    obtain ⟨a, xs, rfl, h1, h2⟩ := h
    cases e with
    | int j => rw [IsDt] at h'; cases h'
    | str y => rw [IsDt] at h'; cases h'
    | tup es =>
      rw [IsDt] at h'
      obtain ⟨b, ys, z, g1, g2⟩ := h'
      cases z
      rw [h1] at g1
      cases g1
      rw [IsDts.inj h2 g2]
theorem IsDts.inj {H : Hp} : ∀ {ds es : List Dt} {xs : List V}, IsDts H ds xs -> IsDts H es xs -> ds = es
  | [], es, xs, h, h' => by
    rw [IsDts] at h; subst h
    cases es with
    | nil => rfl
    | cons e es => rw [IsDts] at h'; obtain ⟨_, _, z, _⟩ := h'; cases z
  | d :: ds, es, xs, h, h' => by
    rw [IsDts] at h
    obtain ⟨y, ys, rfl, h1, h2⟩ := h
    cases es with
    | nil => rw [IsDts] at h'; cases h'
    | cons e es =>
      rw [IsDts] at h'
      obtain ⟨y', ys', z, g1, g2⟩ := h'
      cases z
      rw [IsDt.inj h1 g1, IsDts.inj h2 g2]
end
theorem IsDts.length {H : Hp} : ∀ {ds : List Dt} {xs : List V}, IsDts H ds xs -> xs.length = ds.length
  | [], xs, h => by rw [IsDts] at h; subst h; rfl
  | d :: ds, xs, h => by
    rw [IsDts] at h
    obtain ⟨y, ys, rfl, h1, h2⟩ := h
    simp [IsDts.length h2]
theorem IsDts.get {H : Hp} : ∀ {ds : List Dt} {xs : List V} {i : Nat} {d : Dt}, IsDts H ds xs -> ds[i]? = some d -> ∃ y, xs[i]? = some y /\ IsDt H d y
  | [], xs, i, d, h, e => by simp at e
  | c :: ds, xs, 0, d, h, e => by
    rw [IsDts] at h
    obtain ⟨y, ys, rfl, h1, h2⟩ := h
    simp at e; subst e
    exact ⟨y, rfl, h1⟩
  | c :: ds, xs, i + 1, d, h, e => by
    rw [IsDts] at h
    obtain ⟨y, ys, rfl, h1, h2⟩ := h
    obtain ⟨z, q, r⟩ := IsDts.get (i := i) h2 (by simpa using e)
    exact ⟨z, by simpa using q, r⟩
theorem IsDts.append {H : Hp} : ∀ {ds es : List Dt} {xs ys : List V}, IsDts H ds xs -> IsDts H es ys -> IsDts H (ds ++ es) (xs ++ ys)
  | [], es, xs, ys, h, h' => by rw [IsDts] at h; subst h; exact h'
  | d :: ds, es, xs, ys, h, h' => by
    rw [IsDts] at h
    obtain ⟨z, zs, rfl, h1, h2⟩ := h
    rw [List.cons_append, List.cons_append, IsDts]
    exact ⟨z, zs ++ ys, rfl, h1, IsDts.append h2 h'⟩
theorem IsDts.one {H : Hp} {d : Dt} {v : V} (h : IsDt H d v) : IsDts H [d] [v] := by
  rw [IsDts]; exact ⟨v, [], rfl, h, by rw [IsDts]⟩
theorem IsDts.cons {H : Hp} {d : Dt} {v : V} {ds : List Dt} {vs : List V} (h : IsDt H d v) (h' : IsDts H ds vs) : IsDts H (d :: ds) (v :: vs) := by
  rw [IsDts]; exact ⟨v, vs, rfl, h, h'⟩
theorem IsDts.nil {H : Hp} : IsDts H [] [] := by rw [IsDts]
theorem isDt_int {H : Hp} (i : Int) : IsDt H (.int i) (.int i) := by rw [IsDt]
theorem isDt_str {H : Hp} (x : Str) : IsDt H (.str x) (.str x) := by rw [IsDt]
theorem isDt_tup {H : Hp} {a : Addr} {xs : List V} {ds : List Dt} (h : H a = some (.tup xs)) (h' : IsDts H ds xs) : IsDt H (.tup ds) (.ref a) := by rw [IsDt]; exact ⟨a, xs, rfl, h, h'⟩
theorem isDt_new {H : Hp} {p : Addr} {xs : List V} {ds : List Dt} (hp : H p = none) (h' : IsDts H ds xs) : IsDt (upd H p (.tup xs)) (.tup ds) (.ref p) :=
  isDt_tup upd_same (h'.mono (.new hp _))
section
variable {P : Program} {w : World} {H : Hp}
theorem all_eq (ds es : List Dt) : ((List.range (min ds.length es.length)).all (fun j => decide (ds[j]? = es[j]?)) && ds.length == es.length) = decide (ds = es) := by
  rw [Bool.eq_iff_iff]
  simp only [Bool.and_eq_true, List.all_eq_true, List.mem_range, decide_eq_true_eq, beq_iff_eq]
  constructor
  · rintro ⟨h1, h2⟩
    refine List.ext_getElem? fun i => ?_
    by_cases hi : i < min ds.length es.length
    · exact h1 i hi
    · rw [List.getElem?_eq_none (by lia), List.getElem?_eq_none (by lia)]
  · rintro rfl
    exact ⟨fun _ _ => rfl, rfl⟩
theorem eqAt_D : ∀ (n : Nat) (A : Around) (s : Shared) (d e : Dt) (v u : V) (x y : Value), HOk P w H s.heap -> d.dep <= n -> A.units + n < cLine -> IsDt H d v -> IsDt H e u -> RelV v x -> RelV u y -> SeqAt.EqAt A s x y (decide (d = e)) := by
  intro n
  induction n with
  | zero =>
    intro A s d e v u x y ok hd hu iv iu rv ru
    cases d with
    | int i =>
      rw [IsDt] at iv; subst iv
      obtain ⟨t, rfl⟩ := rv
      cases e with
      | int j =>
        rw [IsDt] at iu; subst iu
        obtain ⟨t', rfl⟩ := ru
        have z : decide (Dt.int i = Dt.int j) = (i == j) := by rw [Bool.eq_iff_iff]; simp
        rw [z]; exact SeqAt.EqAt.int_int i t j t'
      | str z =>
        rw [IsDt] at iu; subst iu
        obtain ⟨t', rfl⟩ := ru
        rw [decide_eq_false (by intro q; cases q)]; exact SeqAt.EqAt.int_str i t z t'
      | tup es =>
        rw [IsDt] at iu
        obtain ⟨a, xs, rfl, h1, h2⟩ := iu
        cases ru
        obtain ⟨hz, its, r, p⟩ := ok a _ h1
        rw [decide_eq_false (by intro q; cases q)]; exact SeqAt.EqAt.int_tuple i t p (by lia)
    | str i =>
      rw [IsDt] at iv; subst iv
      obtain ⟨t, rfl⟩ := rv
      cases e with
      | int j =>
        rw [IsDt] at iu; subst iu
        obtain ⟨t', rfl⟩ := ru
        rw [decide_eq_false (by intro q; cases q)]; exact SeqAt.EqAt.str_int i t j t'
      | str z =>
        rw [IsDt] at iu; subst iu
        obtain ⟨t', rfl⟩ := ru
        have q : decide (Dt.str i = Dt.str z) = (i == z) := by rw [Bool.eq_iff_iff]; simp
        rw [q]; exact SeqAt.EqAt.str_str i t z t'
      | tup es =>
        rw [IsDt] at iu
        obtain ⟨a, xs, rfl, h1, h2⟩ := iu
        cases ru
        obtain ⟨hz, its, r, p⟩ := ok a _ h1
        rw [decide_eq_false (by intro q; cases q)]; exact SeqAt.EqAt.str_tuple i t p (by lia)
    | tup ds => rw [Dt.dep] at hd; lia
  | succ n ih =>
    intro A s d e v u x y ok hd hu iv iu rv ru
    cases d with
    | int i => exact ih A s _ e v u x y ok (by rw [Dt.dep]; lia) (by lia) iv iu rv ru
    | str i => exact ih A s _ e v u x y ok (by rw [Dt.dep]; lia) (by lia) iv iu rv ru
    | tup ds =>
      rw [IsDt] at iv
      obtain ⟨a, xs, rfl, h1, h2⟩ := iv
      cases rv
      obtain ⟨hz, its, r, p⟩ := ok a _ h1
      cases e with
      | int j =>
        rw [IsDt] at iu; subst iu
        obtain ⟨t', rfl⟩ := ru
        rw [decide_eq_false (by intro q; cases q)]; exact SeqAt.EqAt.tuple_int j t' p (by lia)
      | str z =>
        rw [IsDt] at iu; subst iu
        obtain ⟨t', rfl⟩ := ru
        rw [decide_eq_false (by intro q; cases q)]; exact SeqAt.EqAt.tuple_str z t' p (by lia)
      | tup es =>
        have iu' := iu
        rw [IsDt] at iu
        obtain ⟨b, ys, rfl, g1, g2⟩ := iu
        cases ru
        obtain ⟨hz2, its2, r2, p2⟩ := ok b _ g1
        by_cases hab : a = b
        · subst hab
          rw [h1] at g1
          cases g1
          rw [IsDts.inj h2 g2, decide_eq_true rfl]
          exact SeqAt.EqAt.same _
        · have l1 : its.toArray.size = ds.length := by rw [List.size_toArray, <- r.length, h2.length]
          have l2 : its2.toArray.size = es.length := by rw [List.size_toArray, <- r2.length, g2.length]
          have q := SeqAt.RcAt.tuples (s := s) (A := A) (e := fun j => decide (ds[j]? = es[j]?)) p p2 (by lia) fun j hj1 hj2 => by
            have k1 : j < ds.length := by rw [<- l1]; exact hj1
            have k2 : j < es.length := by rw [<- l2]; exact hj2
            obtain ⟨y1, e1, i1⟩ := h2.get (i := j) (List.getElem?_eq_getElem k1)
            obtain ⟨y2, e2, i2⟩ := g2.get (i := j) (List.getElem?_eq_getElem k2)
            obtain ⟨u1, f1, q1⟩ := r.get e1
            obtain ⟨u2, f2, q2⟩ := r2.get e2
            have w1 : its.toArray[j] = u1 := by
              have := (List.getElem?_eq_some_iff.mp f1).2
              simpa using this
            have w2 : its2.toArray[j] = u2 := by
              have := (List.getElem?_eq_some_iff.mp f2).2
              simpa using this
            rw [w1, w2, List.getElem?_eq_getElem k1, List.getElem?_eq_getElem k2]
            have z : decide (some ds[j] = some es[j]) = decide (ds[j] = es[j]) := by rw [Bool.eq_iff_iff]; simp
            rw [z]
            have hdep : ds[j].dep <= n := by
              have := dep_mem (List.getElem_mem k1)
              rw [Dt.dep] at hd
              lia
            exact ih A.in1 s _ _ y1 y2 u1 u2 ok hdep (by show A.units + 1 + n < cLine; lia) i1 i2 q1 q2
          rw [l1, l2, all_eq] at q
          have z : decide (Dt.tup ds = Dt.tup es) = decide (ds = es) := by rw [Bool.eq_iff_iff]; simp
          rw [z]
          exact SeqAt.EqAt.of_refs hab q
end
section
variable {X : Cx}
noncomputable def depMax : Nat := 100
noncomputable def rEqD : R2 := fun x y H Q => ∃ d e, IsDt H d x /\ IsDt H e y /\ d.dep <= depMax /\ Q (.bl (decide (d = e))) H
theorem items_eq {P : Program} {w : World} {H : Hp} {s : Shared} {A : Around} {ds es : List Dt} {xs ys : List V} {its its2 : List Value} {n : Nat} (ok : HOk P w H s.heap) (hd : depL ds <= n) (hu : A.units + n < cLine) (h2 : IsDts H ds xs) (g2 : IsDts H es ys) (r : Vals xs its) (r2 : Vals ys its2) :
    ∀ j (h1 : j < its.toArray.size) (h2 : j < its2.toArray.size), SeqAt.EqAt A s its.toArray[j] its2.toArray[j] (decide (ds[j]? = es[j]?)) := fun j hj1 hj2 => by
  have l1 : its.toArray.size = ds.length := by rw [List.size_toArray, <- r.length, h2.length]
  have l2 : its2.toArray.size = es.length := by rw [List.size_toArray, <- r2.length, g2.length]
  have k1 : j < ds.length := by rw [<- l1]; exact hj1
  have k2 : j < es.length := by rw [<- l2]; exact hj2
  obtain ⟨y1, e1, i1⟩ := h2.get (i := j) (List.getElem?_eq_getElem k1)
  obtain ⟨y2, e2, i2⟩ := g2.get (i := j) (List.getElem?_eq_getElem k2)
  obtain ⟨u1, f1, q1⟩ := r.get e1
  obtain ⟨u2, f2, q2⟩ := r2.get e2
  have w1 : its.toArray[j] = u1 := by
    have := (List.getElem?_eq_some_iff.mp f1).2
    simpa using this
  have w2 : its2.toArray[j] = u2 := by
    have := (List.getElem?_eq_some_iff.mp f2).2
    simpa using this
  rw [w1, w2, List.getElem?_eq_getElem k1, List.getElem?_eq_getElem k2]
  have z : decide (some ds[j] = some es[j]) = decide (ds[j] = es[j]) := by rw [Bool.eq_iff_iff]; simp
  rw [z]
  exact eqAt_D n A s _ _ y1 y2 u1 u2 ok (Nat.le_trans (dep_mem (List.getElem_mem k1)) hd) hu i1 i2 q1 q2
theorem op_eqD (hu : X.A.units + 110 < cLine) : OpR X (compareOp .Eq) rEqD := by
  intro pins s σ H x y v u Q I rx ry h
  obtain ⟨d, e, ix, iy, hd, q⟩ := h
  cases d with
  | int i =>
    rw [IsDt] at ix; subst ix
    cases e with
    | int j =>
      rw [IsDt] at iy; subst iy
      refine op_eq pins s σ H _ _ v u Q I rx ry ⟨rfl, ?_⟩
      have z : decide (V.int i = V.int j) = decide (Dt.int i = Dt.int j) := by rw [Bool.eq_iff_iff]; simp
      rw [z]; exact q
    | str j =>
      rw [IsDt] at iy; subst iy
      refine op_eq pins s σ H _ _ v u Q I rx ry ⟨rfl, ?_⟩
      have z : decide (V.int i = V.str j) = decide (Dt.int i = Dt.str j) := by rw [Bool.eq_iff_iff]; simp
      rw [z]; exact q
    | tup es =>
      rw [IsDt] at iy
      obtain ⟨a, xs, rfl, h1, h2⟩ := iy
      cases ry
      obtain ⟨t, rfl⟩ := rx
      obtain ⟨hz, its, r, p⟩ := I.hok a _ h1
      rw [decide_eq_false (by intro q; cases q)] at q
      exact SeqAt.RcAt.int_tuple i t p (by lia) _ _ _ _ ⟨.bl false, H, I, rfl, q⟩
  | str i =>
    rw [IsDt] at ix; subst ix
    cases e with
    | int j =>
      rw [IsDt] at iy; subst iy
      refine op_eq pins s σ H _ _ v u Q I rx ry ⟨rfl, ?_⟩
      have z : decide (V.str i = V.int j) = decide (Dt.str i = Dt.int j) := by rw [Bool.eq_iff_iff]; simp
      rw [z]; exact q
    | str j =>
      rw [IsDt] at iy; subst iy
      refine op_eq pins s σ H _ _ v u Q I rx ry ⟨rfl, ?_⟩
      have z : decide (V.str i = V.str j) = decide (Dt.str i = Dt.str j) := by rw [Bool.eq_iff_iff]; simp
      rw [z]; exact q
    | tup es =>
      rw [IsDt] at iy
      obtain ⟨a, xs, rfl, h1, h2⟩ := iy
      cases ry
      obtain ⟨t, rfl⟩ := rx
      obtain ⟨hz, its, r, p⟩ := I.hok a _ h1
      rw [decide_eq_false (by intro q; cases q)] at q
      exact SeqAt.RcAt.str_tuple i t p (by lia) _ _ _ _ ⟨.bl false, H, I, rfl, q⟩
  | tup ds =>
    rw [IsDt] at ix
    obtain ⟨a, xs, rfl, h1, h2⟩ := ix
    cases rx
    obtain ⟨hz, its, r, p⟩ := I.hok a _ h1
    cases e with
    | int j =>
      rw [IsDt] at iy; subst iy
      obtain ⟨t, rfl⟩ := ry
      rw [decide_eq_false (by intro q; cases q)] at q
      exact SeqAt.RcAt.tuple_int j t p (by lia) _ _ _ _ ⟨.bl false, H, I, rfl, q⟩
    | str j =>
      rw [IsDt] at iy; subst iy
      obtain ⟨t, rfl⟩ := ry
      rw [decide_eq_false (by intro q; cases q)] at q
      exact SeqAt.RcAt.tuple_str j t p (by lia) _ _ _ _ ⟨.bl false, H, I, rfl, q⟩
    | tup es =>
      rw [IsDt] at iy
      obtain ⟨b, ys, rfl, g1, g2⟩ := iy
      cases ry
      obtain ⟨hz2, its2, r2, p2⟩ := I.hok b _ g1
      have l1 : its.toArray.size = ds.length := by rw [List.size_toArray, <- r.length, h2.length]
      have l2 : its2.toArray.size = es.length := by rw [List.size_toArray, <- r2.length, g2.length]
      rw [Dt.dep] at hd
      have z : decide (Dt.tup ds = Dt.tup es) = decide (ds = es) := by rw [Bool.eq_iff_iff]; simp
      rw [z] at q
      refine SeqAt.RcAt.tuples (s := s) (A := X.A) (e := fun j => decide (ds[j]? = es[j]?)) p p2 (by lia) (items_eq (n := depMax) (A := X.A.in1) I.hok (by lia) (by show X.A.units + 1 + depMax < cLine; unfold depMax; lia) h2 g2 r r2) _ _ _ _ ?_
      rw [l1, l2, all_eq]
      exact ⟨.bl _, H, I, rfl, q⟩
theorem op_neD (hu : X.A.units + 110 < cLine) : OpR X (compareOp .NotEq) (fun x y H Q => ∃ ds es, IsDt H (.tup ds) x /\ IsDt H (.tup es) y /\ depL ds <= depMax /\ Q (.bl (!decide (ds = es))) H) := by
  intro pins s σ H x y v u Q I rx ry h
  obtain ⟨ds, es, ix, iy, hd, q⟩ := h
  rw [IsDt] at ix iy
  obtain ⟨a, xs, rfl, h1, h2⟩ := ix
  obtain ⟨b, ys, rfl, g1, g2⟩ := iy
  cases rx
  cases ry
  obtain ⟨hz, its, r, p⟩ := I.hok a _ h1
  obtain ⟨hz2, its2, r2, p2⟩ := I.hok b _ g1
  have l1 : its.toArray.size = ds.length := by rw [List.size_toArray, <- r.length, h2.length]
  have l2 : its2.toArray.size = es.length := by rw [List.size_toArray, <- r2.length, g2.length]
  refine SeqAt.RcNeAt.tuples (s := s) (A := X.A) (e := fun j => decide (ds[j]? = es[j]?)) p p2 (by lia) (items_eq (n := depMax) (A := X.A.in1) I.hok (by lia) (by show X.A.units + 1 + depMax < cLine; unfold depMax; lia) h2 g2 r r2) _ _ _ _ ?_
  rw [l1, l2, all_eq]
  exact ⟨.bl _, H, I, rfl, q⟩
noncomputable def eqDv (H : Hp) (d : Dt) (u : Value) : Bool := @decide (∃ v, RelV v u /\ IsDt H d v) (Classical.propDecidable _)
theorem relV_inj {v v' : V} {u : Value} (h : RelV v u) (h' : RelV v' u) : v = v' := by
  cases v <;> cases v' <;> simp only [RelV] at h h' <;> first
    | rfl
    | (obtain ⟨t, rfl⟩ := h; obtain ⟨t', h'⟩ := h'; injection h' with h' _; subst h'; rfl)
    | (obtain ⟨t, rfl⟩ := h; obtain ⟨t', h'⟩ := h'; cases h'; done)
    | (subst h; cases h'; rfl)
    | (subst h; obtain ⟨t', h'⟩ := h'; cases h')
    | (obtain ⟨t, rfl⟩ := h; cases h')
theorem eqDv_of {H : Hp} {d e : Dt} {v : V} {u : Value} (r : RelV v u) (i : IsDt H e v) : eqDv H d u = decide (e = d) := by
  unfold eqDv
  rw [Bool.eq_iff_iff]
  simp only [decide_eq_true_eq]
  constructor
  · rintro ⟨v', r', i'⟩
    rw [relV_inj r' r] at i'
    exact i.inj i'
  · rintro rfl
    exact ⟨v, r, i⟩
theorem mem_eqD {P : Program} {w : World} {H : Hp} {s : Shared} {A : Around} {d : Dt} {x : V} {v : Value} {n : Nat} (ok : HOk P w H s.heap) (hu : A.units + n < cLine) (rx : RelV x v) (ix : IsDt H d x) :
    ∀ {ds : List Dt} {xs : List V} {us : List Value}, depL ds <= n -> IsDts H ds xs -> Vals xs us -> (∀ u ∈ us, SeqAt.EqAt A s u v (eqDv H d u)) /\ us.map (eqDv H d) = ds.map fun e => decide (e = d)
  | [], xs, us, hd, hi, r => by
    rw [IsDts] at hi; subst hi; cases r
    exact ⟨fun u hu => (nomatch hu), rfl⟩
  | e :: ds, xs, us, hd, hi, r => by
    rw [IsDts] at hi
    obtain ⟨y, ys, rfl, h1, h2⟩ := hi
    cases r with
    | cons r1 r2 =>
      rw [depL] at hd
      obtain ⟨m1, m2⟩ := mem_eqD ok hu rx ix (by lia) h2 r2
      have e1 := eqDv_of (d := d) r1 h1
      refine ⟨fun u hu' => ?_, by rw [List.map_cons, List.map_cons, e1, m2]⟩
      rcases List.mem_cons.mp hu' with rfl | hu'
      · rw [e1]; exact eqAt_D n A s e d y x _ v ok (by lia) hu h1 ix r1 rx
      · exact m1 u hu'
theorem any_map_of {α : Type} {us : List α} {f : α -> Bool} {ds : List Dt} {d : Dt} (h : us.map f = ds.map fun e => decide (e = d)) : us.any f = decide (d ∈ ds) := by
  have e1 : us.any f = (us.map f).any id := by simp
  have e2 : (ds.map fun e => decide (e = d)).any id = decide (d ∈ ds) := by
    rw [Bool.eq_iff_iff]
    simp
  rw [e1, h, e2]
noncomputable def rInD (K : PySem.W.Frag) (neg : Bool) : R2 := fun x y H Q => ∃ p xs d ds, y = .ref p /\ SqL K H p xs /\ IsDt H d x /\ IsDts H ds xs /\ depL ds <= depMax /\ Q (.bl (if neg then !decide (d ∈ ds) else decide (d ∈ ds))) H
theorem op_notInD (hu : X.A.units + 110 < cLine) : OpR X (compareOp .NotIn) (rInD X.K true) := by
  intro pins s σ H x y v u Q I rx ry h
  obtain ⟨p, xs, d, ds, rfl, hq, ix, is, hd, q⟩ := h
  cases ry
  obtain ⟨its, r, pl, hz⟩ := I.list hq
  obtain ⟨m1, m2⟩ := mem_eqD (A := X.A.in1) I.hok (by show X.A.units + 1 + depMax < cLine; unfold depMax; lia) rx ix hd is r
  refine SeqAt.notIn_listAt (eqDv H d) pl.isList (fun w hw => m1 w (by simpa using hw)) ⟨.bl _, H, I, rfl, ?_⟩
  rw [show its.toArray.any (eqDv H d) = its.any (eqDv H d) by simp, any_map_of m2]
  exact q
theorem op_inD (hu : X.A.units + 110 < cLine) : OpR X (compareOp .In) (rInD X.K false) := by
  intro pins s σ H x y v u Q I rx ry h
  obtain ⟨p, xs, d, ds, rfl, hq, ix, is, hd, q⟩ := h
  cases ry
  obtain ⟨its, r, pl, hz⟩ := I.list hq
  obtain ⟨m1, m2⟩ := mem_eqD (A := X.A.in1) I.hok (by show X.A.units + 1 + depMax < cLine; unfold depMax; lia) rx ix hd is r
  refine SeqAt.in_listAt (eqDv H d) pl.isList (fun w hw => m1 w (by simpa using hw)) ⟨.bl _, H, I, rfl, ?_⟩
  rw [show its.toArray.any (eqDv H d) = its.any (eqDv H d) by simp, any_map_of m2]
  exact q
noncomputable def rIndexD : V -> List V -> Hp -> VK -> Prop := fun o vs H Q => ∃ l xs x d ds, o = .ref l /\ vs = [x] /\ H l = some (.lst xs) /\ IsDt H d x /\ IsDts H ds xs /\ depL ds <= depMax /\ d ∈ ds /\ ∀ j : Nat, ds[j]? = some d -> Q (.int j) H
theorem mt_indexD (hu : X.A.units + 110 < cLine) : MtM X "list.index" rIndexD := by
  intro pins s σ H o vs v us Q I rx rv h
  obtain ⟨l, xs, x, d, ds, rfl, rfl, hH, ix, is, hd, hmem, q⟩ := h
  cases rx
  obtain ⟨u, rfl, ru⟩ := rv.one
  obtain ⟨z, its, n, r, hl, e⟩ := I.lstM hH
  obtain ⟨m1, m2⟩ := mem_eqD (A := X.A.in1) I.hok (by show X.A.units + 1 + depMax < cLine; unfold depMax; lia) ru ix hd is r
  have hex : ∃ j, ∃ hj : j < its.length, eqDv H d its[j] = true /\ ∀ m (hm : m < its.length), m < j -> eqDv H d its[m] = false := by
    have hany : its.any (eqDv H d) = true := by rw [any_map_of m2]; exact decide_eq_true hmem
    have hfi : its.findIdx (eqDv H d) < its.length := by
      rw [List.findIdx_lt_length]
      obtain ⟨a, ha, hb⟩ := List.any_eq_true.mp hany
      exact ⟨a, ha, hb⟩
    exact ⟨its.findIdx (eqDv H d), hfi, List.findIdx_getElem (w := hfi), fun m hm hlt => by
      have := List.not_of_lt_findIdx hlt
      simpa using this⟩
  obtain ⟨j, hj, hit, hno⟩ := hex
  have hds : ds[j]? = some d := by
    have l1 : ds.length = its.length := by rw [<- is.length, r.length]
    have z1 : (its.map (eqDv H d))[j]? = some true := by rw [List.getElem?_map, List.getElem?_eq_getElem hj, Option.map_some, hit]
    rw [m2, List.getElem?_map, List.getElem?_eq_getElem (by lia), Option.map_some] at z1
    have z2 : ds[j]'(by lia) = d := of_decide_eq_true (Option.some.inj z1)
    rw [List.getElem?_eq_getElem (by lia), z2]
  refine call_meets PySem.F.slot_list_index ⟨_, e, rfl⟩ PySem.F.entry_list_index (PySem.F.args_list_index_2 _ _)
    (SeqAt.list_indexAt l its.toArray n none #[] u (eqDv H d) j (by simpa using hj) (by have := line63; lia) (by simpa using hit) (fun m hm hlt => by simpa using hno m (by simpa using hm) hlt)) ⟨e, fun y hy => m1 y (by simpa using hy), ?_⟩
  exact ⟨.int j, H, I.tok _, ⟨_, rfl⟩, q j hds⟩
end
end L2
end
section
namespace L2
open PySem PySem.Spec PyProof.Rows
open Kn (KE cmpK kEl sLt)
noncomputable def kv : KE -> V
  | .i n => .int n
  | .s x => .str x
theorem eqAt_K {A : Around} {s : Shared} {a c : KE} {y x : Value} (ra : RelV (kv a) y) (rc : RelV (kv c) x) : ∃ e, SeqAt.EqAt A s y x e /\ (e = true ↔ a = c) := by
  cases a with
  | i m =>
    obtain ⟨t, rfl⟩ := ra
    cases c with
    | i n => obtain ⟨u, rfl⟩ := rc; exact ⟨(m == n), SeqAt.EqAt.int_int m t n u, by simp⟩
    | s z => obtain ⟨u, rfl⟩ := rc; exact ⟨false, SeqAt.EqAt.int_str m t z u, by simp⟩
  | s w =>
    obtain ⟨t, rfl⟩ := ra
    cases c with
    | i n => obtain ⟨u, rfl⟩ := rc; exact ⟨false, SeqAt.EqAt.str_int w t n u, by simp⟩
    | s z => obtain ⟨u, rfl⟩ := rc; exact ⟨(w == z), SeqAt.EqAt.str_str w t z u, by simp⟩
theorem rcLt_K {A : Around} {s : Shared} {a c : KE} {y x : Value} {r : Bool} (ra : RelV (kv a) y) (rc : RelV (kv c) x) (h : kEl a c = some r) (prog : Program) (w : World) (E : Value -> Shared -> Prop) (Q : Value -> Shared -> Prop) (q : Q (.bool r) s) :
    wpAny (model prog w) A (richCompare .Lt y x) Q E s := by
  cases a with
  | i m =>
    obtain ⟨t, rfl⟩ := ra
    cases c with
    | i n =>
      obtain ⟨u, rfl⟩ := rc
      cases h
      exact HT.rcLt_int A s m t n u prog w E Q q
    | s z => cases h
  | s v =>
    obtain ⟨t, rfl⟩ := ra
    cases c with
    | i n => cases h
    | s z =>
      obtain ⟨u, rfl⟩ := rc
      cases h
      exact (PyProof.Rows.lt_str q : wpAny (model prog w) A (compareOp .Lt (.str v t) (.str z u)) Q E s)
section
open PySem.SeqAt
open PySem.AutoSeq1 (wpAny_loadPart')
open PySem.MeetsSeq PySem.MeetsSeq2 PySem.MeetsSeq3
theorem tuple_ltK (l b : Addr) (items items2 : Array Value) (n n2 : Nat) (dd dd2 : Option Addr) (sl sl2 : Array (Option Value)) (ks js : List KE) (hi : Vals (ks.map kv) items.toList) (hj : Vals (js.map kv) items2.toList) (r : Bool) (hr : cmpK ks js = some r) :
    Meets (Builtin.«tuple.__lt__» ⟨[.ref l, .ref b], []⟩)
      (fun _ R s => s.heap.get? l = some { cls := .type "tuple", dict := dd, data := .seq items n, slots := sl } /\ s.heap.get? b = some { cls := .type "tuple", dict := dd2, data := .seq items2 n2, slots := sl2 } /\
        R (.ok (.ret (.bool r))) s) :=
  .of_wp fun prog w A R s h => by
    obtain ⟨hp, g, d, tk, os⟩ := s; obtain ⟨hl, hb, h⟩ := h
    have f2 := AutoSeq1.sub_tuple_tuple
    have z1 : items.size = ks.length := by have := hi.length; simpa using this.symm
    have z2 : items2.size = js.length := by have := hj.length; simpa using this.symm
    wp_walk using wpAny_loadPart' hl, wpAny_loadPart' hb, wpAny_forIn_list _ (fun rest b s' => b.1 = none /\ s' = ⟨hp, g, d, tk, os⟩ /\ ∃ (vs ws : List Value) (ks' js' : List KE), rest = vs.zip ws /\
      Vals (ks'.map kv) vs /\ Vals (js'.map kv) ws /\ ks'.length + items2.size = js'.length + items.size /\ cmpK ks' js' = some r) _
    case turn =>
      rintro ⟨y, x⟩ rest b s' ⟨hb', rfl, vs, ws, ks', js', hz, hvi, hwi, hlen, hR⟩
      cases ks' with
      | nil => cases hvi; rw [List.zip_nil_left] at hz; cases hz
      | cons a ks' =>
        cases js' with
        | nil => cases hwi; rw [List.zip_nil_right] at hz; cases hz
        | cons c js' =>
          rw [List.map_cons] at hvi hwi
          cases hvi with
          | cons ra hvi' =>
            cases hwi with
            | cons rc hwi' =>
              rw [List.zip_cons_cons] at hz
              injection hz with hyx hrest
              injection hyx with hy hx
              subst hy hx
              rw [Kn.cmpK] at hR
              simp only [List.length_cons] at hlen
              obtain ⟨e, he, hiff⟩ := eqAt_K (A := A.in1) (s := ⟨hp, g, d, tk, os⟩) ra rc
              refine wpAny_bind (he prog w _ _ ?_)
              cases e with
              | true =>
                rw [if_pos (hiff.mp rfl)] at hR
                wp_walk
                exact ⟨rfl, rfl, _, _, _, _, hrest, hvi', hwi', by lia, hR⟩
              | false =>
                rw [if_neg (fun q => absurd (hiff.mpr q) Bool.false_ne_true)] at hR
                have hri := rcLt_K (A := A.in1) (s := ⟨hp, g, d, tk, os⟩) ra rc hR prog w
                wp_walk using hri
                exact ⟨_, rfl, by simpa using h⟩
    case fin =>
      rintro ⟨b1, b2⟩ s' ⟨hb', rfl, vs, ws, ks', js', hz, hvi, hwi, hlen, hR⟩
      simp only at hb'
      subst hb'
      have hv : r = decide (items.size < items2.size) := by
        cases ks' with
        | nil =>
          cases js' with
          | nil =>
            simp only [List.length_nil] at hlen
            cases hR
            exact (decide_eq_false (by lia)).symm
          | cons c js' =>
            simp only [List.length_nil, List.length_cons] at hlen
            cases hR
            exact (decide_eq_true (by lia)).symm
        | cons a ks' =>
          cases js' with
          | nil =>
            simp only [List.length_nil, List.length_cons] at hlen
            cases hR
            exact (decide_eq_false (by lia)).symm
          | cons c js' =>
            rw [List.map_cons] at hvi hwi
            cases hvi
            cases hwi
            rw [List.zip_cons_cons] at hz
            cases hz
      rw [hv] at h
      wp_walk
      exact ⟨_, rfl, by simpa [Builtin.Tuple.tupleCompareSizes] using h⟩
    case h =>
      exact ⟨rfl, rfl, items.toList, items2.toList, ks, js, rfl, hi, hj, by lia, hr⟩
end
section
variable {X : Cx}
noncomputable def rLtK (K : PySem.W.Frag) : R2 := fun x y H Q => ∃ a b ks js r, x = .ref a /\ y = .ref b /\ SqT K H a (ks.map kv) /\ SqT K H b (js.map kv) /\ cmpK ks js = some r /\ Q (.bl r) H
theorem op_ltK (hu : X.A.units < cLine) : OpR X (compareOp .Lt) (rLtK X.K) := by
  intro pins s σ H x y v u Q I rx ry h
  obtain ⟨a, b, ks, js, r, rfl, rfl, ha, hb, hr, q⟩ := h
  cases rx
  cases ry
  obtain ⟨its, r1, p1, _⟩ := I.tuple ha
  obtain ⟨its2, r2, p2, _⟩ := I.tuple hb
  obtain ⟨⟨cls, dd, data, sl⟩, ho, hc, n, hd⟩ := id p1
  obtain ⟨⟨cls2, dd2, data2, sl2⟩, ho2, hc2, n2, hd2⟩ := id p2
  simp only at hc hd hc2 hd2
  subst hc hd hc2 hd2
  exact richCompare_meets_room (op := .Lt) ⟨_, ho, rfl⟩ ⟨_, ho2, rfl⟩ PySem.F.slot_tuple_lt PySem.F.entry_tuple_lt (PySem.F.args_tuple_lt_2 _ _) (tuple_ltK a b its.toArray its2.toArray n n2 dd dd2 sl sl2 ks js (by simpa using r1) (by simpa using r2) r hr)
    ⟨ho, ho2, show Value.bool r ≠ Value.notImplemented /\ EP X pins σ Q (.bool r) s from ⟨(fun x => nomatch x), ⟨.bl r, H, I, rfl, q⟩⟩⟩ hu
noncomputable def rLtE : R2 := fun x y H Q => ∃ a c r, x = kv a /\ y = kv c /\ kEl a c = some r /\ Q (.bl r) H
theorem op_ltE : OpR X (compareOp .Lt) rLtE := by
  intro pins s σ H x y v u Q I rx ry h
  obtain ⟨a, c, r, rfl, rfl, hr, q⟩ := h
  show wpAny (model X.prog X.w) X.A (richCompare .Lt v u) (EP X pins σ Q) X.xe s
  exact rcLt_K rx ry hr X.prog X.w _ _ ⟨.bl r, H, I, rfl, q⟩
theorem ofStrs : ∀ {us : List Value} {ys : List Str}, StrsAre us ys -> Vals (ys.map V.str) us
  | _, _, .nil => .nil
  | _, _, .cons x t r => .cons ⟨t, rfl⟩ (ofStrs r)
noncomputable def rCatT' (K : PySem.W.Frag) : R2 := fun x y H Q => ∃ a b xs ys, x = .ref a /\ y = .ref b /\ H a = some (.tup xs) /\ H b = some (.tup ys) /\ xs.length + ys.length <= sizeLine /\
  ∀ p H', (∀ c o, H c = some o -> H' c = some o) -> H' p = some (.tup (xs ++ ys)) -> Q (.ref p) H'
theorem op_catT' : OpR X (binaryOp .Add) (rCatT' X.K) := by
  intro pins s σ H x y v u Q I rx ry h
  obtain ⟨a, b, xs, ys, rfl, rfl, ha0, hb0, hz, q⟩ := h
  have ha : SqT X.K H a xs := SqT.of ha0
  have hb : SqT X.K H b ys := SqT.of hb0
  by_cases hx : xs = []
  · subst hx
    cases rx
    cases ry
    obtain ⟨its, r1, p1, _⟩ := I.tuple ha
    obtain ⟨its2, r2, p2, _⟩ := I.tuple hb
    cases r1
    obtain ⟨⟨cls, dd, data, sl⟩, ho, hc, n, hd⟩ := id p1
    obtain ⟨⟨cls2, dd2, data2, sl2⟩, ho2, hc2, n2, hd2⟩ := id p2
    simp only at hc hd hc2 hd2
    subst hc hd hc2 hd2
    exact concat_meets ⟨_, ho, rfl⟩ ⟨_, ho2, rfl⟩ noFill_tuple_add seq_tuple_add PySem.F.slot_tuple_add PySem.F.entry_tuple_add (PySem.F.args_tuple_add_2 _ _)
      (tuple_addW0 a b _ its2.toArray n n2 dd dd2 sl sl2 (by simp)) ⟨ho, ho2, ⟨.ref b, H, I, rfl, q b H (fun _ _ z => z) hb0⟩⟩
  · exact op_catT pins s σ H _ _ v u Q I rx ry ⟨a, b, xs, ys, rfl, rfl, ha, hb, hx, hz, fun e => q a H (fun _ _ z => z) (by subst e; rw [List.append_nil]; exact ha0), fun e p hp => q p _ (fun c o z => by rw [upd_ne (ne_of_none z hp)]; exact z) upd_same⟩
end
end L2
end
section
namespace L2
open PySem PySem.Spec PyProof.Rows
open PySem.W (kdu_collect kdl_dict)
theorem kv_get : ∀ {kvs : List (Key × V)} {vs : List (Key × Value)} {i : Nat} {p : Key × V}, KV kvs vs -> kvs[i]? = some p -> ∃ q, vs[i]? = some q /\ p.1 = q.1
  | _, _, _, _, .nil, e => by simp at e
  | _, _, 0, _, .cons r _, e => by simp at e; subst e; exact ⟨_, rfl, r.1⟩
  | _, _, i + 1, p, .cons _ t, e => by
    obtain ⟨q, h1, h2⟩ := kv_get (i := i) (p := p) t (by simpa using e)
    exact ⟨q, by simpa using h1, h2⟩
section
variable {X : Cx}
end
section
variable {X : Cx}
theorem op_plus : OpR X (binaryOp .Add) (fun x y H Q => rI0 (fun i j => .int (i + j)) x y H Q \/ ((∃ i j, x = .str i /\ y = .str j /\ i.length + j.length <= sizeLine /\ Q (.str (i ++ j)) H) \/ (rCat x y H Q \/ rCatT' X.K x y H Q))) := op_add.or (op_add_str.or (op_cat.or op_catT'))
theorem op_ltU (hu : X.A.units < cLine) : OpR X (compareOp .Lt) (fun x y H Q => rI0 (fun i j => .bl (decide (i < j))) x y H Q \/ (rLtE x y H Q \/ rLtK X.K x y H Q)) := op_lt.or (op_ltE.or (op_ltK hu))
theorem op_eqU (hu : X.A.units + 110 < cLine) : OpR X (compareOp .Eq) (fun x y H Q => rEq x y H Q \/ rEqD x y H Q) := op_eq.or (op_eqD hu)
noncomputable def rNeL : R2 := fun x y H Q => ∃ a b xs, x = .ref a /\ y = .ref b /\ H a = some (.lst xs) /\ H b = some (.lst []) /\ Q (.bl (decide (xs ≠ []))) H
theorem op_neL (hu : X.A.units < cLine) : OpR X (compareOp .NotEq) rNeL := by
  intro pins s σ H x y v u Q I rx ry h
  obtain ⟨a, b, xs, rfl, rfl, ha, hb, q⟩ := h
  cases rx
  cases ry
  obtain ⟨its, r, p, _⟩ := I.list (SqL.of ha)
  obtain ⟨its2, r2, p2, _⟩ := I.list (SqL.of hb)
  cases r2
  by_cases hx : xs = []
  · subst hx
    cases r
    refine SeqAt.RcNeAt.lists (A := X.A) (e := fun _ => true) p.isList p2.isList rfl hu (fun j h1 => by simp at h1) _ _ _ _ ⟨.bl false, H, I, rfl, ?_⟩
    simpa using q
  · refine SeqAt.RcNeAt.lists_lengths (A := X.A) p.isList p2.isList ?_ hu _ _ _ _ ⟨.bl true, H, I, rfl, ?_⟩
    · have := r.length
      have h0 : its ≠ [] := fun z => hx (by subst z; cases xs with | nil => rfl | cons _ _ => simp at this)
      cases its with
      | nil => exact absurd rfl h0
      | cons _ _ => simp
    · rw [decide_eq_true hx] at q
      exact q
theorem op_neU (hu : X.A.units + 110 < cLine) : OpR X (compareOp .NotEq) (fun x y H Q => rNe x y H Q \/ ((∃ ds es, IsDt H (.tup ds) x /\ IsDt H (.tup es) y /\ depL ds <= depMax /\ Q (.bl (!decide (ds = es))) H) \/ rNeL x y H Q)) := op_ne.or ((op_neD hu).or (op_neL (by lia)))
theorem op_inU (hu : X.A.units + 110 < cLine) : OpR X (compareOp .In) (fun x y H Q => rIn X.K false x y H Q \/ rInD X.K false x y H Q) := op_in_seq.or (op_inD hu)
theorem op_notInU (hu : X.A.units + 110 < cLine) : OpR X (compareOp .NotIn) (fun x y H Q => rIn X.K true x y H Q \/ rInD X.K true x y H Q) := op_notIn_seq.or (op_notInD hu)
theorem call_lenU : CallR X (.builtin "len") (fun xs H Q => (∃ p ys, xs = [.ref p] /\ (SqL X.K H p ys \/ SqT X.K H p ys) /\ Q (.int ys.length) H) \/ ∃ z, xs = [.str z] /\ z.length <= sizeLine /\ Q (.int z.length) H) := call_len_seq.or call_len_str
noncomputable def rIxD : R2 := fun x y H Q => ∃ a v, x = .ref a /\ DGet H a y (some v) /\ Q v H
theorem ix_dict (hu : X.A.units + 1 < cLine) : IxR X rIxD := by
  intro value slice pins s σ H x y v u Q I rx ry h hs
  obtain ⟨a, w, rfl, g, q⟩ := h
  cases rx
  exact tail_any (ops := [.ref a, u]) (dict_typeIs I g) PySem.F.slot_dict_getitem.lookup (d_getItem hu I g ry fun w' s3 I3 rw' => ⟨w, H, I3, rw', q⟩) hs
theorem ix_U (hu : X.A.units + 1 < cLine) : IxR X (fun x y H Q => rIxL X.K x y H Q \/ (rIxT X.K x y H Q \/ (rIxS x y H Q \/ rIxD x y H Q))) := ix_list.or (ix_tup.or (ix_str.or (ix_dict hu)))
noncomputable def rSetD : TSet := fun o i v H Q => ∃ a H', o = .ref a /\ DPut H a i v H' /\ Q H'
theorem set_dict (hu : X.A.units + 1 < cLine) : PSet X rSetD := by
  intro pins s σ H o i v ov iv u Q I ro ri rv h
  obtain ⟨a, H', rfl, g, q⟩ := h
  cases ro
  exact d_setItem hu I g ri rv fun s4 I4 => ⟨H', I4, q⟩
theorem PSet.or {r r' : TSet} (h : PSet X r) (h' : PSet X r') : PSet X (fun o i v H Q => r o i v H Q \/ r' o i v H Q) := by
  intro pins s σ H o i v ov iv u Q I ro ri rv q
  rcases q with q | q
  · exact h pins s σ H o i v ov iv u Q I ro ri rv q
  · exact h' pins s σ H o i v ov iv u Q I ro ri rv q
theorem set_U (hu : X.A.units + 1 < cLine) : PSet X (fun o i v H Q => rSetL o i v H Q \/ rSetD o i v H Q) := set_list.or (set_dict hu)
theorem pi_U {tg l : Expr} {tl : TE} (hl : PE X l tl) : PI X tg l (fun σ H R => iList X.K tl σ H R \/ iTup X.K tl σ H R) := by
  intro pins s σ H R I h
  rcases h with h | h
  · exact pi_list hl pins s σ H R I h
  · exact pi_tup hl pins s σ H R I h
end
end L2
end
section
namespace L2
open PySem PySem.Spec PyProof.Rows
structure ZC where
  cl : List (Str × Addr)
  C : Addr
  fp : List Addr
  s : Shared
  H : Hp
noncomputable def cxC (X : Cx) (scope : Scope) (N' : List Str) (z : ZC) : Cx where
  prog := X.prog
  w := X.w
  K := X.K
  mg := X.mg
  base := X.base
  A := X.A
  N := N'
  s₀ := z.s
  H₀ := z.H
  env := compEnvC scope z.cl z.C X.env
  outer := X.stack
  stack := X.stack
  ex := z.fp
  fn := fun _ => false
  calm := X.calm
  pn := []
  xe := fun _ _ => False
theorem clos_loop {env : Env} : ∀ (names : List (Str × NameKind)) (acc : List (Str × Addr)), (∀ y ∈ names, y.2 = .free -> ∃ c, env.cells.lookup y.1 = some c) ->
    (∀ x c, acc.lookup x = some c -> env.cells.lookup x = some c) ->
    ∃ cl, (forIn names acc (fun y cs => if (y.2 == NameKind.free) = true then (cellOf env y.1 >>= fun c => pure (ForInStep.yield ((y.1, c) :: cs))) else pure (ForInStep.yield cs)) : Sem (List (Str × Addr))) = pure cl /\
      (∀ x c, cl.lookup x = some c -> env.cells.lookup x = some c) /\ (∀ y ∈ names, y.2 = .free -> ∃ c, cl.lookup y.1 = some c) /\ ∀ x c, acc.lookup x = some c -> ∃ c', cl.lookup x = some c'
  | [], acc, _, ha => ⟨acc, rfl, ha, fun y hy => (nomatch hy), fun x c h => ⟨c, h⟩⟩
  | (n, k) :: r, acc, h, ha => by
    by_cases hk : k = .free
    · subst hk
      obtain ⟨c, hc⟩ := h (n, .free) List.mem_cons_self rfl
      have hac : ∀ x c', ((n, c) :: acc).lookup x = some c' -> env.cells.lookup x = some c' := fun x c' q => by
        rw [List.lookup_cons] at q
        cases e : x == n with
        | true =>
          rw [e] at q
          cases q
          rw [eq_of_beq e]
          exact hc
        | false =>
          rw [e] at q
          exact ha x c' q
      obtain ⟨cl, e1, e2, e3, e4⟩ := clos_loop r ((n, c) :: acc) (fun y hy => h y (List.mem_cons_of_mem _ hy)) hac
      refine ⟨cl, ?_, e2, fun y hy hf => ?_, fun x c' q => ?_⟩
      · rw [List.forIn_cons]
        have ec : cellOf env n = pure c := by unfold cellOf; rw [hc]
        simp only [beq_self_eq_true, if_true, ec, pure_bind]
        exact e1
      · rcases List.mem_cons.mp hy with rfl | hy
        · exact e4 n c (by simp)
        · exact e3 y hy hf
      · cases e : x == n with
        | true => exact e4 x c (by rw [List.lookup_cons, e])
        | false => exact e4 x c' (by rw [List.lookup_cons, e]; exact q)
    · obtain ⟨cl, e1, e2, e3, e4⟩ := clos_loop r acc (fun y hy => h y (List.mem_cons_of_mem _ hy)) ha
      refine ⟨cl, ?_, e2, fun y hy hf => ?_, e4⟩
      · rw [List.forIn_cons]
        have hb : (k == NameKind.free) = false := by simpa using hk
        simp only [hb, Bool.false_eq_true, if_false, pure_bind]
        exact e1
      · rcases List.mem_cons.mp hy with rfl | hy
        · exact absurd hf hk
        · exact e3 y hy hf
theorem clos_of {scope : Scope} {env : Env} (h : ∀ y ∈ scope.names, y.2 = .free -> ∃ c, env.cells.lookup y.1 = some c) :
    ∃ cl, closureFor scope env = pure cl /\ (∀ x c, cl.lookup x = some c -> env.cells.lookup x = some c) /\ ∀ y ∈ scope.names, y.2 = .free -> ∃ c, cl.lookup y.1 = some c := by
  obtain ⟨cl, e1, e2, e3, _⟩ := clos_loop (env := env) scope.names [] h (fun x c q => by simp at q)
  refine ⟨cl, ?_, e2, e3⟩
  unfold closureFor
  first
    | exact e1
    | (simp only [bind_pure_comp, map_pure, bind_pure] at e1 ⊢; exact e1)
    | (rw [show (forIn scope.names [] _ : Sem (List (Str × Addr))) = pure cl from e1]; rfl)
theorem rel_free {env : Env} : ∀ {names : List (Str × NameKind)} {x : Str}, names.lookup x = some .free ->
    let l := (names.map fun (n, k) => if (k == NameKind.free && env.scope.kind == .function && env.kindOf n == some .cell) then (n, NameKind.cell) else (n, k)).lookup x
    l = some .cell \/ l = some .free
  | [], _, h => by simp at h
  | (n, k) :: r, x, h => by
    have ih := @rel_free env r x
    simp only at ih ⊢
    rw [List.map_cons]
    cases hx : x == n with
    | true =>
      rw [List.lookup_cons, hx] at h
      cases h
      by_cases hc : (NameKind.free == NameKind.free && env.scope.kind == .function && env.kindOf n == some .cell) = true
      · left
        simp only [hc, if_true, List.lookup_cons, hx]
      · right
        simp only [if_neg hc, List.lookup_cons, hx]
    | false =>
      rw [List.lookup_cons, hx] at h
      by_cases hc : (k == NameKind.free && env.scope.kind == .function && env.kindOf n == some .cell) = true
      · simp only [if_pos hc, List.lookup_cons, hx]; exact ih h
      · simp only [if_neg hc, List.lookup_cons, hx]; exact ih h
theorem rel_back {env : Env} : ∀ {names : List (Str × NameKind)} {x : Str} {k' : NameKind}, (∀ y ∈ names, y.2 ≠ .cell) -> (k' = .cell \/ k' = .free) ->
    (names.map fun (n, k) => if (k == NameKind.free && env.scope.kind == .function && env.kindOf n == some .cell) then (n, NameKind.cell) else (n, k)).lookup x = some k' -> (x, NameKind.free) ∈ names
  | [], _, _, _, _, h => by simp at h
  | (n, k) :: r, x, k', hn, hk, h => by
    rw [List.map_cons] at h
    cases hx : x == n with
    | true =>
      have e : x = n := eq_of_beq hx
      subst e
      by_cases hc : (k == NameKind.free && env.scope.kind == .function && env.kindOf x == some .cell) = true
      · have hf : k = .free := by
          simp only [Bool.and_eq_true, beq_iff_eq] at hc
          exact hc.1.1
        subst hf
        exact List.mem_cons_self
      · simp only [if_neg hc, List.lookup_cons, hx] at h
        have e2 : k = k' := Option.some.inj h
        subst e2
        rcases hk with rfl | rfl
        · exact absurd rfl (hn _ List.mem_cons_self)
        · exact List.mem_cons_self
    | false =>
      have ih := @rel_back env r x k' (fun y hy => hn y (List.mem_cons_of_mem _ hy)) hk
      by_cases hc : (k == NameKind.free && env.scope.kind == .function && env.kindOf n == some .cell) = true
      · simp only [if_pos hc, List.lookup_cons, hx] at h
        exact List.mem_cons_of_mem _ (ih h)
      · simp only [if_neg hc, List.lookup_cons, hx] at h
        exact List.mem_cons_of_mem _ (ih h)
theorem comp_loop {prog : Program} {w : World} {A : Around} {s : Shared} {elt tg iter : Expr} {ifs : List Expr} {scope : Scope} {pos : Pos} {it acc : Value} {env : Env} {P : Shared -> Prop} {R : Result -> Shared -> Prop}
    (hR : ∀ s', P s' -> R (.ok .next) s') (J : Nat -> Shared -> Prop)
    (turn : ∀ n s, J n s -> wpAny (model prog w) A (pyNext it) (fun r s1 => match r with
      | none => P s1
      | some v => wpAny (model prog w) A (letOwnedTupleGo tg it v) (fun _ s2 => wpAny (model prog w) A (assign tg env v) (fun _ s3 =>
          wpAny (model prog w) A (forIn ifs true fun c r => if r = true then do let ok <- isTrue c env (eval c env); pure (ForInStep.yield ok) else pure (ForInStep.yield r)) (fun ok s4 =>
            if ok = true then wpAny (model prog w) A (eval elt env) (fun x s5 =>
              wpAny (model prog w) A (call (.builtin "list.append") [acc, x]) (fun _ s6 => ∃ m, m < n /\ J m s6) (fun _ _ => False) s5) (fun _ _ => False) s4
            else ∃ m, m < n /\ J m s4) (fun _ _ => False) s3) (fun _ _ => False) s2) (fun _ _ => False) s1) (fun _ _ => False) s)
    (n : Nat) (h : J n s) : codeAny (model prog w) A (.compLoop (.ListComp elt [⟨tg, iter, ifs, 0⟩] scope pos) 0 it acc env) R s := by
  refine codeAny_loop rfl J (fun n s hJ => ?_) n h
  show wpAny _ A ((compTurn (.ListComp elt [⟨tg, iter, ifs, 0⟩] scope pos) 0 it acc env).onRaise (fun x => do noteFrame x env; theTreesLotGoes x)) _ _ s
  refine wpAny_noted (wpAny_mono (E := fun _ _ => False) ?_ (fun _ _ q => q) fun _ _ q => q.elim)
  rw [compTurn_list]
  refine wpAny_bind (wpAny_standAt (wpAny_bind (thn (turn n s hJ) fun r s1 h1 => ?_)))
  cases r with
  | none => exact wpAny_pure (hR _ h1)
  | some v =>
    refine wpAny_bind (thn h1 fun _ s2 h2 => wpAny_bind (thn h2 fun _ s3 h3 => wpAny_bind (thn h3 fun ok s4 h4 => ?_)))
    cases ok with
    | false => exact wpAny_pure ⟨rfl, h4⟩
    | true => exact wpAny_bind (wpAny_bind (thn h4 fun x s5 h5 => wpAny_bind (thn h5 fun _ s6 h6 => wpAny_pure (wpAny_pure ⟨rfl, h6⟩))))
noncomputable def PIfs (X : Cx) (ifs : List Expr) (t : TT) : Prop :=
  ∀ (pins : List (Addr × Obj)) (s : Shared) (σ : St) (H : Hp) (Q : Bool -> Hp -> Prop), Inv X pins σ H s -> t σ H Q ->
    wpAny (model X.prog X.w) X.A (forIn ifs true fun c r => if r = true then do let ok <- isTrue c X.env (eval c X.env); pure (ForInStep.yield ok) else pure (ForInStep.yield r)) (TP X pins σ Q) X.xe s
noncomputable def tAll : TT := fun _ H Q => Q true H
theorem pif_nil {X : Cx} : PIfs X [] tAll := fun pins s σ H Q I h => wpAny_tests_nil ⟨H, I, h⟩
theorem pif_one {X : Cx} {c : Expr} {t : TT} (h : PT X c t) : PIfs X [c] t := fun pins s σ H Q I q => wpAny_tests_one (h pins s σ H Q I q)
noncomputable def sigC (k : Nat) (fr : List (Str × Nat)) (σ : St) : St := List.replicate k none ++ fr.map fun p => (σ[p.2]?).join
noncomputable def Tgt (k : Nat) (g : TG) : Prop := ∀ x σ H Q, g x σ H Q -> g x σ H fun σ2 H2 => Q σ2 H2 /\ σ2.length = σ.length /\ σ2.drop k = σ.drop k
theorem tgt_name {i k : Nat} (h : i < k) : Tgt k (gName i) := fun x σ H Q q => ⟨q, by simp, by rw [List.drop_set_of_lt h]⟩
theorem tgt_two {K : PySem.W.Frag} {i j k : Nat} (hi : i < k) (hj : j < k) : Tgt k (gTup K 2 (gCons (gName i) (gCons (gName j) gNil))) := fun x σ H Q q => by
  obtain ⟨a, xs, e1, e2, e3, v, r, e4, v2, r2, e5, e6, q⟩ := q
  exact ⟨a, xs, e1, e2, e3, v, r, e4, v2, r2, e5, e6, q, by simp, by rw [List.drop_set_of_lt hj, List.drop_set_of_lt hi]⟩
noncomputable def lcStep (J : It) (k : Nat) (fr : List (Str × Nat)) (g : ZC -> TG) (tc : ZC -> TT) (te : ZC -> TE) (σ : St) (W : Nat -> Nat -> List V -> Hp -> Prop) (fin : List V -> Hp -> Prop) : Prop :=
  ∀ i m ys H, W i m ys H -> ys.length < sizeLine /\ ((J.stop i H /\ fin ys H) \/ (J.go i H /\ ∀ (z : ZC) x H1, J.yld i H x H1 -> g z x (sigC k fr σ) H1 fun σ2 H2 => tc z σ2 H2 fun b H3 =>
    if b = true then te z σ2 H3 fun y H4 => ∃ m', m' < m /\ W (i + 1) m' (ys ++ [y]) H4 else ∃ m', m' < m /\ W (i + 1) m' ys H3))
noncomputable def tLC (wi : TI) (k : Nat) (fr : List (Str × Nat)) (g : ZC -> TG) (tc : ZC -> TT) (te : ZC -> TE) : TE := fun σ H Q => wi σ H fun J H1 =>
  ∃ W : Nat -> Nat -> List V -> Hp -> Prop, (∃ m, W 0 m [] H1) /\ lcStep J k fr g tc te σ W fun ys H2 => ∀ p, H2 p = none -> Q (.ref p) (upd H2 p (.lst ys))
section
variable {X : Cx} {tg elt iter : Expr} {ifs : List Expr} {scope : Scope} {pos : Pos} {k : Nat} {Nt : List Str} {fr : List (Str × Nat)} {g : ZC -> TG} {tc : ZC -> TT} {te : ZC -> TE}
structure LcOk (X : Cx) (scope : Scope) (Nt : List Str) (fr : List (Str × Nat)) : Prop where
  kind : scope.kind = .function
  cell : ∀ y ∈ scope.names, y.2 ≠ .cell
  names : ∀ y ∈ scope.names, y.2 = .local -> scope.names.lookup y.1 = some .local
  free : ∀ y ∈ scope.names, y.2 = .free -> X.env.kindOf y.1 = some .cell
  fr : ∀ p ∈ fr, X.N[p.2]? = some p.1 /\ scope.names.lookup p.1 = some .free
theorem lc_start {pins : List (Addr × Obj)} {σ : St} {H : Hp} {s2 : Shared} {cl : List (Str × Addr)} {fp : List Addr} {h1 : Heap} {t1 : Nat} {C D : Addr} {m : Str -> Option Value} (L : LcOk X scope Nt fr) (I : Inv X pins σ H s2)
    (hcl : ∀ x c, cl.lookup x = some c -> X.env.cells.lookup x = some c) (hcl2 : ∀ y ∈ scope.names, y.2 = .free -> ∃ c, cl.lookup y.1 = some c) (hf : ∀ b ∈ fp, FpOk X pins H b) (hlt : ∀ b ∈ fp, b < s2.heap.objs.size)
    (hC : s2.heap.objs.size <= C) (hD : s2.heap.objs.size <= D) (hCD : D ≠ C) (old : ∀ b o, s2.heap.get? b = some o -> h1.get? b = some o) (hn : h1.Ns C m) (ho : h1.get? D = some { cls := .type "list", data := .seq #[] 0 }) :
    Inv (cxC X scope (Nt ++ fr.map (·.1)) ⟨cl, C, fp, s2, H⟩) [(D, { cls := .type "list", data := .seq #[] 0 })] (sigC Nt.length fr σ) H { s2 with heap := h1, toks := t1 } := by
  have hstk : ∀ b ∈ frs X.stack, b < s2.heap.objs.size := fun b hb => by
    rcases List.mem_cons.mp (I.stkSub b hb) with e | e
    · rw [e]; exact I.lt
    · exact Nat.lt_of_not_le fun z => I.nofs z e
  have cdn : ∀ x c, cl.lookup x = some c -> c < s2.heap.objs.size := fun x c e => by
    obtain ⟨v, q⟩ := I.cell x c (hcl x c e)
    exact q.lt
  refine ⟨⟨I.mod, L.kind, I.ok.glob, I.ok.blt, hC, fun x y c e1 e2 => I.ok.inj x y c (hcl _ _ e1) (hcl _ _ e2), fun x hx => ?_, fun x c hf' _ => (nomatch hf'), I.ok.hd, I.ok.frames, .inl rfl, fun b hb => ⟨Nat.ne_of_lt (Nat.lt_of_lt_of_le (hlt b hb) hC), fun x c e => (hf b hb).2.2.2.2.1 x c (hcl x c e)⟩,
      I.bs, Nat.le_trans I.ok.bsz I.sz, fun b o e hb => ?_, fun b hb z => ?_, I.stack, I.stkFree⟩,
    rfl, I.bare, Un.kept old, ⟨m, hn, fun i x v h1' h2 h3 => ?_⟩, fun x c e => ?_, I.hok.fresh hC, fun x c e => I.freeC x c (hcl x c e), fun p hp => ?_, I.hok.kept old, ?_⟩
  · have hx' : ((relabel scope X.env).names.lookup x = some .cell \/ (relabel scope X.env).names.lookup x = some .free) := hx
    rcases hx' with q | q
    · exact hcl2 _ (rel_back L.cell (.inl rfl) q) rfl
    · exact hcl2 _ (rel_back L.cell (.inr rfl) q) rfl
  · rcases (hf b hb).2.2.2.1 with q | q
    · exact I.ok.noex b o e q
    · exact absurd (Nat.lt_of_lt_of_le (Heap.lt_size e) (Nat.le_trans I.ok.bsz q)) (Nat.lt_irrefl _)
  · rcases List.mem_cons.mp (I.stkSub b z) with e | e
    · exact (hf b hb).2.1 e
    · exact (hf b hb).2.2.1 e
  · have h1'' : (Nt ++ fr.map (·.1))[i]? = some x := h1'
    have hi : ¬ i < Nt.length := fun hi => by
      unfold sigC at h2
      rw [List.getElem?_append_left (by simpa using hi), List.getElem?_replicate] at h2
      split at h2 <;> cases h2
    unfold sigC at h2
    rw [List.getElem?_append_right (by simpa using hi), List.length_replicate, List.getElem?_map] at h2
    rw [List.getElem?_append_right (by lia), List.getElem?_map] at h1''
    cases e : fr[i - Nt.length]? with
    | none => rw [e] at h2; cases h2
    | some p =>
      rw [e] at h2 h1''
      have ex : p.1 = x := Option.some.inj h1''
      have ev : (σ[p.2]?).join = some v := Option.some.inj h2
      obtain ⟨hN, hfr⟩ := L.fr p (List.mem_of_getElem? e)
      have es : σ[p.2]? = some (some v) := by
        cases q : σ[p.2]? with
        | none => rw [q] at ev; cases ev
        | some o => rw [q] at ev; exact congrArg some ev
      have hkc := L.free (p.1, .free) (PySem.mem_of_lookup hfr) rfl
      obtain ⟨mo, hmo, hloc⟩ := I.loc
      obtain ⟨u, ru, lk⟩ := hloc p.2 p.1 v hN es (.inr (.inl hkc))
      refine ⟨u, ru, ?_⟩
      rcases lk with ⟨kk, _⟩ | ⟨_, c, hc, hcell⟩
      · rw [hkc] at kk; cases kk
      · obtain ⟨c', hc'⟩ := hcl2 _ (PySem.mem_of_lookup hfr) rfl
        have hcc := hcl _ _ hc'
        rw [hc] at hcc
        cases hcc
        subst ex
        refine .inr ⟨?_, c, hc', ?_⟩
        · exact rel_free hfr
        · obtain ⟨o, q1, q2⟩ := hcell
          exact ⟨o, old _ _ q1, q2⟩
  · obtain ⟨v, q⟩ := I.cell x c (hcl x c e)
    obtain ⟨o, q1, q2⟩ := q
    exact ⟨v, o, old _ _ q1, q2⟩
  · have hp' : p ∈ ([(D, ({ cls := .type "list", data := .seq #[] 0 } : Obj))] : List (Addr × Obj)) := hp
    rw [List.mem_singleton] at hp'
    subst hp'
    exact ⟨ho, I.hok.fresh hD, hCD, fun z => absurd (Nat.lt_of_lt_of_le (hstk _ z) hD) (Nat.lt_irrefl _), fun v z => by cases z⟩
  · unfold sigC
    show _ = (Nt ++ fr.map (·.1)).length
    simp
structure LcEnd (X : Cx) (fp : List Addr) (H1 : Hp) (s2 : Shared) (fin : List V -> Hp -> Prop) (D C : Addr) (s' : Shared) (ys : List V) (its : List Value) (n : Nat) (H' : Hp) (m' : Str -> Option Value) : Prop where
  ns : s'.heap.Ns C m'
  fc : H' C = none
  fd : H' D = none
  gc : s2.heap.objs.size <= C
  gd : s2.heap.objs.size <= D
  cd : D ≠ C
  un : Un (frs X.stack) fp H1 H' s2.heap s'.heap
  ok : HOk X.prog X.w H' s'.heap
  os : s'.os = s2.os
  bare : AllBare s'.gens
  obj : s'.heap.get? D = some { cls := .type "list", data := .seq its.toArray n }
  vals : Vals ys its
  size : ys.length <= sizeLine
  fin : fin ys H'
theorem lc_close {pins : List (Addr × Obj)} {σ : St} {fp : List Addr} {H1 H' : Hp} {s2 s' : Shared} {fin : List V -> Hp -> Prop} {D C : Addr} {ys : List V} {its : List Value} {n : Nat} {m' : Str -> Option Value} {h' : Heap}
    (I : Inv X pins σ H1 s2) (hf : ∀ b ∈ fp, FpOk X pins H1 b) (e : LcEnd X fp H1 s2 fin D C s' ys its n H' m') (sb : Heap.SameBut C s'.heap h') : Inv X pins σ (upd H' D (.lst ys)) { s' with heap := h' } := by
  have old : ∀ b o, s2.heap.get? b = some o -> b ≠ C /\ b ≠ D := fun b o q => ⟨Nat.ne_of_lt (Nat.lt_of_lt_of_le (Heap.lt_size q) e.gc), Nat.ne_of_lt (Nat.lt_of_lt_of_le (Heap.lt_size q) e.gd)⟩
  have at' : ∀ b, b ≠ C -> h'.get? b = s'.heap.get? b := fun b hb => sb.2 b hb
  refine I.call' (s' := { s' with heap := h' }) (ch := fp) e.os ?_ ?_ e.bare fun b hb => ⟨(hf b hb).2.2.2.1, (hf b hb).2.1, (hf b hb).2.2.2.2.1, (hf b hb).2.2.2.2.2⟩
  · have u := e.un
    refine ⟨fun b o q n hb hx => ?_, fun b o q n hb hx => ?_, fun b o q n hx => ?_, fun b o q hx => ?_, fun b xs q => ?_, fun b o v q => ?_, fun b ps q => ?_⟩
    · exact (at' b (old b o q).1).trans (u.keep b o q n hb hx)
    · obtain ⟨sl, z⟩ := u.slot b o q n hb hx
      exact ⟨sl, (at' b (old b o q).1).trans z⟩
    · rw [upd_ne (old b o q).2]
      exact u.free b o q n hx
    · obtain ⟨o', z⟩ := u.there b o q hx
      exact ⟨o', (at' b (old b o q).1).trans z⟩
    · have z := u.tups b xs q
      rw [upd_ne (ne_of_none z e.fd)]
      exact z
    · have z := u.frzs b o v q
      rw [upd_ne (ne_of_none z e.fd)]
      exact z
    · obtain ⟨more, z⟩ := u.tbls b ps q
      refine ⟨more, ?_⟩
      rw [upd_ne (ne_of_none z e.fd)]
      exact z
  · intro b o q
    by_cases hb : b = D
    · subst hb
      rw [upd_same] at q
      cases q
      exact ⟨e.size, its, n, e.vals, (at' _ e.cd).trans e.obj⟩
    · rw [upd_ne hb] at q
      refine (e.ok b o q).stay (fun c v hc z => ?_) (fun c z => ?_) fun c xs z => ?_
      · have hcC : c ≠ C := by
          rcases hc with rfl | hc
          · exact ne_of_none q e.fc
          · exact ne_of_none hc e.fc
        exact (at' c hcC).trans z
      · rw [upd_ne (ne_of_none z e.fd)]
        exact z
      · rw [upd_ne (ne_of_none z e.fd)]
        exact z
theorem lc_block {pins : List (Addr × Obj)} {σ : St} {H1 : Hp} {s2 : Shared} {cl : List (Str × Addr)} {fp : List Addr} {it : Addr} {tn : Nat -> Heap -> Prop} {J : It} {W : Nat -> Nat -> List V -> Hp -> Prop} {fin : List V -> Hp -> Prop} {E : Value -> Shared -> Prop} {RR : Value -> Addr -> Result -> Shared -> Prop} {m0 : Nat}
    (L : LcOk X scope Nt fr) (hcalm : X.calm = true) (I : Inv X pins σ H1 s2) (hcl : ∀ x c, cl.lookup x = some c -> X.env.cells.lookup x = some c) (hcl2 : ∀ y ∈ scope.names, y.2 = .free -> ∃ c, cl.lookup y.1 = some c)
    (T : Turn X.prog X.w X.K tg J fp it tn) (st0 : tn 0 s2.heap) (hf : ∀ b ∈ fp, FpOk X pins H1 b)
    (hg : ∀ z, PG (cxC X scope (Nt ++ fr.map (·.1)) z) tg (g z)) (hgt : ∀ z, Tgt Nt.length (g z)) (hc : ∀ z, PIfs (cxC X scope (Nt ++ fr.map (·.1)) z) ifs (tc z)) (he : ∀ z, PE (cxC X scope (Nt ++ fr.map (·.1)) z) elt (te z))
    (w0 : W 0 m0 [] H1) (step : lcStep J Nt.length fr g tc te σ W fin)
    (hRR : ∀ D C s' ys its n H' m', LcEnd X fp H1 s2 fin D C s' ys its n H' m' -> RR (.ref D) C (.ok .next) s') :
    wpAny (model X.prog X.w) X.A (newList []) (fun acc s3 => wpAny (model X.prog X.w) X.A (newFunctionEnv scope X.env.globals cl [] X.env.qual none .none (some X.env)) (fun cenv s4 =>
      codeAny (model X.prog X.w) X.A (.compStart (.ListComp elt [⟨tg, iter, ifs, 0⟩] scope pos) 0 (.ref it) acc { cenv with scope := relabel scope X.env }) (RR acc cenv.locals) s4) E s3) E s2 := by
  refine wpAny_newObj_type (wpAny_newFunctionEnv L.cell (by intro y hy; simp at hy) (fun h1 hns hsb => ?_) L.kind)
  dsimp only at hns hsb ⊢
  generalize hH2 : s2.heap.push { cls := .type "list", dict := none, data := .seq ([] : List Value).toArray } = G at hns hsb ⊢
  have hC : G.objs.size = s2.heap.objs.size + 1 := by rw [<- hH2, Heap.size_push]
  have hlt : ∀ b ∈ fp, b < s2.heap.objs.size := fun b hb => by
    obtain ⟨o, q, _⟩ := T.obj 0 _ st0 b hb
    exact Heap.lt_size q
  have old : ∀ b o, s2.heap.get? b = some o -> h1.get? b = some o := fun b o q =>
    hsb.extBut b o (by rw [hC]; exact Nat.ne_of_lt (Nat.lt_succ_of_lt (Heap.lt_size q))) (Heap.get?_push_of_some _ (hH2 ▸ Heap.get?_push_of_some _ q))
  have hDC : s2.heap.objs.size ≠ G.objs.size := by rw [hC]; exact Nat.ne_of_lt (Nat.lt_succ_self _)
  have hacc : h1.get? s2.heap.objs.size = some { cls := .type "list", data := .seq #[] 0 } := hsb.extBut _ _ hDC (Heap.get?_push_of_some _ (hH2 ▸ Heap.get?_push_size _ rfl))
  have hgC : s2.heap.objs.size <= G.objs.size := by rw [hC]; exact Nat.le_succ _
  have I0 := lc_start (t1 := s2.toks + ([] : List (Str × Value)).length) (C := G.objs.size) (D := s2.heap.objs.size) L I hcl hcl2 hf hlt hgC (Nat.le_refl _) hDC old hns hacc
  have st1 : tn 0 h1 := T.keep 0 _ _ st0 fun b _ o q => old b o q
  generalize hX : cxC X scope (Nt ++ fr.map (·.1)) ⟨cl, G.objs.size, fp, s2, H1⟩ = X' at I0
  have hcd : ∀ x c, cl.lookup x = some c -> c < s2.heap.objs.size := fun x c e => by
    obtain ⟨v, q⟩ := I.cell x c (hcl x c e)
    exact q.lt
  have hfr : ∀ b ∈ fp, b ∉ frs X.stack := fun b hb z => by
    rcases List.mem_cons.mp (I.stkSub b z) with e | e
    · exact (hf b hb).2.1 e
    · exact (hf b hb).2.2.1 e
  have stat : ∀ {H' : Hp} {ob : Obj}, (∀ b ∈ fp, H' b = none) -> ∀ b ∈ fp, FpOk X' [(s2.heap.objs.size, ob)] H' b := fun {H' ob} hn b hb => by
    subst hX
    refine ⟨hn b hb, Nat.ne_of_lt (Nat.lt_of_lt_of_le (hlt b hb) hgC), hfr b hb, .inl hb, fun x c e => (hf b hb).2.2.2.2.1 x c (hcl x c e), fun p hp => ?_⟩
    have hp' : p ∈ ([(s2.heap.objs.size, ob)] : List (Addr × Obj)) := hp
    rw [List.mem_singleton] at hp'
    subst hp'
    exact Nat.ne_of_gt (hlt b hb)
  have eP : X'.prog = X.prog := by subst hX; rfl
  have eW : X'.w = X.w := by subst hX; rfl
  have eK : X'.K = X.K := by subst hX; rfl
  have eC : X'.calm = true := by subst hX; exact hcalm
  have hg' : PG X' tg (g ⟨cl, G.objs.size, fp, s2, H1⟩) := by subst hX; exact hg _
  have hc' : PIfs X' ifs (tc ⟨cl, G.objs.size, fp, s2, H1⟩) := by subst hX; exact hc _
  have he' : PE X' elt (te ⟨cl, G.objs.size, fp, s2, H1⟩) := by subst hX; exact he _
  -- what is known of the list that grows
  have grow : ∀ {pl : List (Addr × Obj)} {σ' : St} {H' : Hp} {s' : Shared} {ob ob' : Obj} {h' : Heap}, Inv X' pl σ' H' s' -> H' s2.heap.objs.size = none -> (sigC Nt.length fr σ).length = σ'.length -> σ'.drop Nt.length = (sigC Nt.length fr σ).drop Nt.length ->
      Heap.SameBut s2.heap.objs.size s'.heap h' -> h'.get? s2.heap.objs.size = some ob' -> (∀ v, ob'.data ≠ .cell v) -> Inv X' [(s2.heap.objs.size, ob')] (sigC Nt.length fr σ) H' { s' with heap := h' } := fun {pl σ' H' s' ob ob' h'} I' hn hl hd sb ho' hv => by
    have I1 : Inv X' [] σ' H' s' := I'.pins_of fun p hp => (nomatch hp)
    have g1 : s2.heap.objs.size ≠ X'.env.locals := by subst hX; exact hDC
    have g2 : X'.s₀.heap.objs.size <= s2.heap.objs.size := by subst hX; exact Nat.le_refl _
    have g3 : ∀ x c, X'.env.cells.lookup x = some c -> c ≠ s2.heap.objs.size := by subst hX; exact fun x c e => Nat.ne_of_lt (hcd x c e)
    have g4 : ∀ p ∈ X'.pn ++ ([] : List (Addr × Obj)), p.1 ≠ s2.heap.objs.size := by subst hX; exact fun p hp => (nomatch (show p ∈ ([] : List (Addr × Obj)) from hp))
    have g5 : s2.heap.objs.size ∉ X'.fs := by
      subst hX
      intro z
      rcases List.mem_cons.mp (I.stkSub _ z) with e | e
      · exact absurd (e ▸ I.lt) (Nat.lt_irrefl _)
      · exact I.nofs (Nat.le_refl _) e
    have I2 : Inv X' [] σ' H' { s' with heap := h' } := I1.turned (t' := s'.toks) (it := s2.heap.objs.size) (fun b o hb q => (sb.2 b hb).trans q) hn g1 (.inr g2) g3 g4
    have I3 : Inv X' [(s2.heap.objs.size, ob')] σ' H' { s' with heap := h' } := I2.pins_of fun p hp => by
      rw [List.mem_singleton] at hp
      subst hp
      exact ⟨ho', hn, g1, g5, hv⟩
    refine I3.weak hl fun i v q => ?_
    have hi : ¬ i < Nt.length := fun hi => by
      unfold sigC at q
      rw [List.getElem?_append_left (by simpa using hi), List.getElem?_replicate] at q
      split at q <;> cases q
    have z : ∀ l : St, l[i]? = (l.drop Nt.length)[i - Nt.length]? := fun l => by
      rw [List.getElem?_drop]
      congr 1
      lia
    rw [z, hd, <- z]
    exact q
  have loop : ∀ s3 : Shared, s3 = { s2 with heap := h1, toks := s2.toks + ([] : List (Str × Value)).length } ->
      codeAny (model X.prog X.w) X.A (.compLoop (.ListComp elt [⟨tg, iter, ifs, 0⟩] scope pos) 0 (.ref it) (.ref s2.heap.objs.size) (compEnvC scope cl G.objs.size X.env)) (RR (.ref s2.heap.objs.size) G.objs.size) s3 := by
    rintro s3 rfl
    refine comp_loop (P := fun s' => ∃ ys its n H' m', LcEnd X fp H1 s2 fin s2.heap.objs.size G.objs.size s' ys its n H' m') (fun s' ⟨ys, its, n, H', m', q⟩ => hRR _ _ s' ys its n H' m' q)
      (fun n s' => ∃ i ys its c H', Inv X' [(s2.heap.objs.size, { cls := .type "list", data := .seq (its : List Value).toArray c })] (sigC Nt.length fr σ) H' s' /\ Vals ys its /\ tn i s'.heap /\ (∀ b ∈ fp, H' b = none) /\ W i n ys H')
      ?_ m0 ⟨0, [], [], 0, H1, I0, .nil, st1, fun b hb => (hf b hb).1, w0⟩
    rintro n s' ⟨i, ys, its, c, H', I', rv, st, fr0, w⟩
    obtain ⟨hz, hstep⟩ := step i n ys H' w
    have nD : ∀ {pl : List (Addr × Obj)} {σ' : St} {H'' : Hp} {s'' : Shared} {ob : Obj}, Inv X' ((s2.heap.objs.size, ob) :: pl) σ' H'' s'' -> s''.heap.get? s2.heap.objs.size = some ob /\ H'' s2.heap.objs.size = none := fun {pl σ' H'' s'' ob} I'' => by
      have q := I''.pin (s2.heap.objs.size, ob) (List.mem_append_right _ List.mem_cons_self)
      exact ⟨q.1, q.2.1⟩
    rcases hstep with ⟨stop, fn⟩ | ⟨go, hgo⟩
    · have A1 := T.done X' eP eW eK eC i _ s' _ H' (fun _ _ => False) I' (stat fr0) st stop
      have hA : X'.A = X.A := by subst hX; rfl
      rw [hA] at A1
      refine thn A1 fun r s1 ⟨hr, I1⟩ => ?_
      subst hr
      obtain ⟨q1, q2⟩ := nD I1
      have hL : X'.env.locals = G.objs.size := by subst hX; rfl
      obtain ⟨m', hm', _⟩ := I1.loc
      have un : Un (frs X.stack) fp H1 H' s2.heap s1.heap := by subst hX; exact I1.base
      have os : s1.os = s2.os := by subst hX; exact I1.os
      exact ⟨ys, its, c, H', m', ⟨hL ▸ hm', hL ▸ I1.free, q2, hgC, Nat.le_refl _, hDC, un, eP ▸ eW ▸ I1.hok, os, I1.bare, q1, rv, Nat.le_of_lt hz, fn⟩⟩
    · have hA : X'.A = X.A := by subst hX; rfl
      have hE : X'.env = compEnvC scope cl G.objs.size X.env := by subst hX; rfl
      have hxe : X'.xe = fun _ _ => False := by subst hX; rfl
      have A1 := T.item X' eP eW eK eC i _ s' _ H' (fun _ _ => False) I' (stat fr0) st go
      rw [hA] at A1
      refine thn A1 fun r s1 ⟨u, hr, h4⟩ => ?_
      subst hr
      refine thn h4 fun _ s5 ⟨x, H5, I5, r5, y5, st5, fr5⟩ => ?_
      have I5' := I5.pinned (stat fr5) (T.obj _ _ st5)
      have q5 := hgt _ x _ H5 _ (hgo ⟨cl, G.objs.size, fp, s2, H1⟩ x H5 y5)
      have A2 := hg' _ s5 _ H5 x u _ I5' r5 q5
      rw [eP, eW, hA, hE, hxe] at A2
      refine thn A2 fun _ s6 ⟨σ6, H6, I6, q6, l6, d6⟩ => ?_
      have A3 := hc' _ s6 σ6 H6 _ I6 q6
      rw [eP, eW, hA, hE, hxe] at A3
      refine thn A3 fun ok s7 ⟨H7, I7, q7⟩ => ?_
      have back : ∀ {σ8 : St} {H8 : Hp} {s8 s9 : Shared}, Inv X' ([(s2.heap.objs.size, { cls := .type "list", data := .seq its.toArray c })] ++ pinsAt fp s5.heap) σ8 H8 s8 -> (∀ b, b ≠ s2.heap.objs.size -> s9.heap.get? b = s8.heap.get? b) -> tn (i + 1) s9.heap /\ ∀ b ∈ fp, H8 b = none := fun {σ8 H8 s8 s9} I8 h9 => by
        refine ⟨T.keep _ _ _ st5 fun b hb o q => ?_, fun b hb => ?_⟩
        · rw [h9 b (Nat.ne_of_lt (hlt b hb))]
          exact (I8.pin (b, o) (List.mem_append_right _ (List.mem_append_right _ (mem_pinsAt hb q)))).1
        · obtain ⟨o, q, _⟩ := T.obj _ _ st5 b hb
          exact (I8.pin (b, o) (List.mem_append_right _ (List.mem_append_right _ (mem_pinsAt hb q)))).2.1
      cases ok with
      | false =>
        rw [if_neg Bool.false_ne_true] at q7 ⊢
        obtain ⟨m', hm', w'⟩ := q7
        obtain ⟨e1, e2⟩ := nD I7
        obtain ⟨b1, b2⟩ := back (s9 := s7) I7 fun _ _ => rfl
        refine ⟨m', hm', i + 1, ys, its, c, H7, ?_, rv, b1, b2, w'⟩
        exact grow (ob := { cls := .type "list", data := .seq its.toArray c }) (h' := s7.heap) I7 e2 l6.symm d6 (.refl ..) e1 (fun v z => by cases z)
      | true =>
        rw [if_pos rfl] at q7 ⊢
        have A4 := he' _ s7 σ6 H7 _ I7 q7
        rw [eP, eW, hA, hE, hxe] at A4
        refine thn A4 fun v s8 ⟨y, H8, I8, r8, m', hm', w'⟩ => ?_
        obtain ⟨e1, e2⟩ := nD I8
        refine append_at (hsz := by rw [List.size_toArray, <- rv.length]; exact Nat.le_of_lt hz) e1 fun h9 sb o9 => ?_
        obtain ⟨b1, b2⟩ := back (s9 := { s8 with heap := h9 }) I8 fun b hb => sb.2 b hb
        have ea : its.toArray.push v = (its ++ [v]).toArray := by simp
        rw [ea] at o9
        refine ⟨m', hm', i + 1, ys ++ [y], its ++ [v], c + 1, H8, ?_, rv.append (.cons r8 .nil), b1, b2, w'⟩
        exact grow (ob := { cls := .type "list", data := .seq its.toArray c }) I8 e2 l6.symm d6 sb o9 (fun v z => by cases z)
  exact codeAny_compStart_list (loop _ rfl) (T.self X.A 0 _ _ _ st1 (loop _ rfl))
theorem pe_lc {wi : TI} (L : LcOk X scope Nt fr) (hcalm : X.calm = true) (hi : PI X tg iter wi) (hg : ∀ z, PG (cxC X scope (Nt ++ fr.map (·.1)) z) tg (g z)) (hgt : ∀ z, Tgt Nt.length (g z))
    (hc : ∀ z, PIfs (cxC X scope (Nt ++ fr.map (·.1)) z) ifs (tc z)) (he : ∀ z, PE (cxC X scope (Nt ++ fr.map (·.1)) z) elt (te z)) (hs : ∀ x, foldedSetIterable iter X.env x = pure x := by intro _; rfl) :
    PE X (.ListComp elt [⟨tg, iter, ifs, 0⟩] scope pos) (tLC wi Nt.length fr g tc te) := by
  intro pins s σ H Q I h
  obtain ⟨cl, e1, e2, e3⟩ := clos_of (scope := scope) (env := X.env) fun y hy hf => I.ok.has _ (.inl (L.free y hy hf))
  rw [eval_ListComp]
  refine wpAny_comprehension_free (use := none) rfl hs e1 L.kind L.names (thn (hi pins s σ H _ I h) fun v s1 h1 => thn h1 fun itv s2 h2 => ?_)
  obtain ⟨it, fp, tn, J, H2, e, I2, T, st2, f2, W, ⟨m0, w0⟩, step⟩ := h2
  subst e
  refine lc_block (RR := fun acc C r s' => compPost (model X.prog X.w) X.A X.xe none (EP X pins σ Q) acc C r s') L hcalm I2 e2 e3 T st2 f2 hg hgt hc he w0 step fun D C s' ys its n H' m' q => ?_
  exact ⟨m', q.ns, fun h' sb => ⟨.ref D, _, lc_close I2 f2 q sb, rfl, q.fin D q.fd⟩⟩
end
end L2
end
section
namespace L2
open PySem PySem.Spec PyProof.Rows
section
variable {prog : Program} {w : World} {A : Around} {E : Value -> Shared -> Prop} {s : Shared}
theorem nextOf_tup {J t : Addr} {i : Nat} {its : Array Value} {x : Value} {Q : Value -> Shared -> Prop} (hJ : s.heap.IsTupleIter J t i) (ht : s.heap.IsTuple t its) (hx : its[i]? = some x)
    (q : ∀ h', h'.IsTupleIter J t (i + 1) -> Heap.SameBut J s.heap h' -> Q x { s with heap := h' }) : wpAny (model prog w) A (Builtin.SmallTypes.nextOf (.ref J)) Q E s := by
  obtain ⟨ob, h1, h2, h3⟩ := id hJ
  obtain ⟨ot, g1, _, nt, g2⟩ := ht
  unfold Builtin.SmallTypes.nextOf
  refine wpAny_bind (wpAny_callSpecial?_slot (name := Str.ofString "__next__") hJ.typeIs F.slot_tuple_iterator_next (wpAny_call_entry F.slot_tuple_iterator_next hJ.typeIs F.entry_tuple_iterator_next ?_ (F.args_tuple_iterator_next_1 _)))
  show wpAny _ _ (field (.ref J) 0 >>= _) _ _ s
  refine wpAny_bind (wpAny_field h1 h3 (x := .ref t) rfl ?_)
  show wpAny _ _ (if (Value.ref t == Value.none) = true then _ else _) _ _ s
  rw [if_neg (show ¬ ((Value.ref t == Value.none) = true) from fun z => Bool.false_ne_true z)]
  show wpAny _ _ (field (.ref J) 1 >>= _) _ _ s
  refine wpAny_bind (wpAny_field h1 h3 (x := .int i 0) rfl ?_)
  show wpAny _ _ (seqItems? (.ref t) >>= _) _ _ s
  refine wpAny_bind (wpAny_seqItems g1 g2 ?_)
  simp only [Int.toNat_natCast, hx]
  refine wpAny_bind (wpAny_setField h1 h3 (by simp) (wpAny_pure ⟨x, rfl, wpAny_pure (q _ ?a (Heap.SameBut.update ..))⟩))
  exact ⟨_, Heap.get?_update_self _ h1 (Obj.isFreed_of_fields (Obj.data_mapFields h3 _)), Eq.trans (Obj.cls_mapFields ..) h2, by rw [Obj.data_mapFields h3] <;> simp [rawInt]⟩
theorem nextOf_tup_end {J t : Addr} {i : Nat} {its : Array Value} {Q : Value -> Shared -> Prop} (hh : A.handled = none) (hJ : s.heap.IsTupleIter J t i) (ht : s.heap.IsTuple t its) (hx : its[i]? = none)
    (q : ∀ h' e, Heap.ExtBut J s.heap h' -> (∃ o, h'.get? e = some o /\ o.cls = .type "StopIteration") -> E (.ref e) { s with heap := h' }) : wpAny (model prog w) A (Builtin.SmallTypes.nextOf (.ref J)) Q E s := by
  obtain ⟨ob, h1, h2, h3⟩ := id hJ
  obtain ⟨ot, g1, _, nt, g2⟩ := ht
  unfold Builtin.SmallTypes.nextOf
  refine wpAny_bind (wpAny_callSpecial?_slot (name := Str.ofString "__next__") hJ.typeIs F.slot_tuple_iterator_next (wpAny_call_entry F.slot_tuple_iterator_next hJ.typeIs F.entry_tuple_iterator_next ?_ (F.args_tuple_iterator_next_1 _)))
  show wpAny _ _ (field (.ref J) 0 >>= _) _ _ s
  refine wpAny_bind (wpAny_field h1 h3 (x := .ref t) rfl ?_)
  show wpAny _ _ (if (Value.ref t == Value.none) = true then _ else _) _ _ s
  rw [if_neg (show ¬ ((Value.ref t == Value.none) = true) from fun z => Bool.false_ne_true z)]
  show wpAny _ _ (field (.ref J) 1 >>= _) _ _ s
  refine wpAny_bind (wpAny_field h1 h3 (x := .int i 0) rfl ?_)
  show wpAny _ _ (seqItems? (.ref t) >>= _) _ _ s
  refine wpAny_bind (wpAny_seqItems g1 g2 ?_)
  simp only [Int.toNat_natCast, hx]
  refine wpAny_bind (wpAny_rule (wpAny_bind (wpAny_setField h1 h3 (by simp) ?_)))
  show wpAny _ _ (newExc (.type "StopIteration") [] >>= _) _ _ _
  refine wpAny_bind ?_
  simp only [newExc, newTuple]
  refine wpAny_bind (wpAny_newObj_type ?_ (by size_fits))
  refine wpAny_bind (m := firstArgMember _ _) (wpAny_of_eq (a := Value.none) (by first | rfl | (simp only [firstArgMember] <;> rfl)) ?_)
  refine wpAny_newObj_type ?_ (by size_fits)
  simp only [raiseNew]
  refine wpAny_bind (wpAny_handled ?_)
  first | rw [show A.in1.handled = none from hh] | rw [hh]
  refine wpAny_bind (wpAny_pure (wpAny_throw (q _ _ ?_ ⟨_, Heap.get?_push_size _ rfl, rfl⟩)))
  exact ((Heap.SameBut.update ..).extBut.push _).push _
structure ZAt (h : Heap) (z TI TO i1 i2 t1 t2 : Addr) (k : Nat) (f : Value) : Prop where
  z : IsZip h z TI TO f
  ti : IsPair h TI (.ref i1) (.ref i2)
  to : ∃ a b, IsPair h TO a b
  j1 : h.IsTupleIter i1 t1 k
  j2 : h.IsTupleIter i2 t2 k
structure ZNe (z TI TO i1 i2 t1 t2 : Addr) : Prop where
  a1 : TI ≠ z
  a2 : TO ≠ z
  a3 : i1 ≠ z
  a4 : i2 ≠ z
  a5 : TI ≠ TO
  a6 : TI ≠ i1
  a7 : TI ≠ i2
  a8 : TO ≠ i1
  a9 : TO ≠ i2
  b1 : i1 ≠ i2
  c1 : t1 ≠ z /\ t1 ≠ TO /\ t1 ≠ i1 /\ t1 ≠ i2
  c2 : t2 ≠ z /\ t2 ≠ TO /\ t2 ≠ i1 /\ t2 ≠ i2
theorem zip_item {z TI TO i1 i2 t1 t2 : Addr} {k : Nat} {xs ys : Array Value} {x y : Value} {Q : Option Value -> Shared -> Prop} (D : ZNe z TI TO i1 i2 t1 t2) (Z : ZAt s.heap z TI TO i1 i2 t1 t2 k .none)
    (ht1 : s.heap.IsTuple t1 xs) (ht2 : s.heap.IsTuple t2 ys) (hx : xs[k]? = some x) (hy : ys[k]? = some y)
    (hQ : ∀ h', ZAt h' z TI TO i1 i2 t1 t2 (k + 1) (rawInt s.heap.objs.size) -> IsPair h' s.heap.objs.size x y -> h'.objs.size = s.heap.objs.size + 1 ->
      (∀ c o, c ≠ z -> c ≠ TO -> c ≠ i1 -> c ≠ i2 -> s.heap.get? c = some o -> h'.get? c = some o) -> Q (some (.ref s.heap.objs.size)) { s with heap := h' }) :
    wpAny (model prog w) A (pyNext (.ref z)) Q E s := by
  have hT : s.TypeIs (.ref z) "zip" := ⟨_, Z.z, rfl⟩
  obtain ⟨u0, v0, hTO⟩ := Z.to
  unfold pyNext
  refine wpAny_bind (wpAny_attempt (wpAny_callSpecial?_slot (name := Str.ofString "__next__") hT F.slot_zip_next (wpAny_call_entry F.slot_zip_next hT F.entry_zip_next ?_ (F.args_zip_next_1 _))))
  show wpAny _ _ (field (.ref z) 2 >>= _) _ _ _
  refine wpAny_bind (wpAny_field Z.z rfl (x := .bool false) rfl ?_)
  show wpAny _ _ (field (.ref z) 3 >>= _) _ _ _
  refine wpAny_bind (wpAny_field Z.z rfl (x := .ref TI) rfl ?_)
  refine wpAny_bind (wpAny_seqItems Z.ti rfl ?_)
  show wpAny _ _ (Builtin.SmallTypes.ownedTupleIsFree (.ref z) >>= _) _ _ _
  refine wpAny_bind ?_
  unfold Builtin.SmallTypes.ownedTupleIsFree
  refine wpAny_bind (wpAny_field Z.z rfl (x := .none) rfl (wpAny_pure ?_))
  simp only [if_true]
  refine wpAny_bind (wpAny_rule (wpAny_bind (wpAny_field Z.z rfl (x := .ref TO) rfl ?_)))
  refine wpAny_bind (wpAny_setField_rec Z.z (by simp) fun g1 z1 s1 => ?_)
  have z1 : IsZip g1 z TI TO .ellipsis := z1
  refine wpAny_bind ?_
  simp only [List.zipIdx_cons, List.zipIdx_nil, List.forIn_cons, List.forIn_nil]
  refine wpAny_bind (wpAny_bind (wpAny_onRaise ?_))
  show wpAny _ _ (Builtin.SmallTypes.nextOf (.ref i1) >>= _) _ _ _
  refine wpAny_bind (nextOf_tup (Z.j1.extBut s1.extBut D.a3) (ht1.extBut s1.extBut D.c1.1) hx fun g2 j12 s2 => wpAny_pure ?_)
  have o2 : IsPair g2 TO u0 v0 := s2.extBut _ _ D.a8 (s1.extBut _ _ D.a2 hTO)
  refine wpAny_bind (wpAny_seqItems o2 rfl ?_)
  refine wpAny_bind (wpAny_updateSeq_pair o2 fun g3 o3 s3 => ?_)
  have o3 : IsPair g3 TO x v0 := o3
  refine wpAny_bind (wpAny_letGo (wpAny_pure ?_))
  refine wpAny_bind (wpAny_bind (wpAny_onRaise ?_))
  show wpAny _ _ (Builtin.SmallTypes.nextOf (.ref i2) >>= _) _ _ _
  refine wpAny_bind (nextOf_tup (((Z.j2.extBut s1.extBut D.a4).extBut s2.extBut D.b1.symm).extBut s3.extBut D.a9.symm) (((ht2.extBut s1.extBut D.c2.1).extBut s2.extBut D.c2.2.2.1).extBut s3.extBut D.c2.2.1) hy fun g4 j24 s4 => wpAny_pure ?_)
  have o4 : IsPair g4 TO x v0 := s4.extBut _ _ D.a9 o3
  refine wpAny_bind (wpAny_seqItems o4 rfl ?_)
  refine wpAny_bind (wpAny_updateSeq_pair o4 fun g5 o5 s5 => ?_)
  have o5 : IsPair g5 TO x y := o5
  refine wpAny_bind (wpAny_letGo (wpAny_pure (wpAny_pure ?_)))
  refine wpAny_bind (wpAny_seqItems o5 rfl ?_)
  refine wpAny_bind (wpAny_newTuple ?_)
  have sz : g5.objs.size = s.heap.objs.size := by rw [s5.1, s4.1, s3.1, s2.1, s1.1]
  have z5 : IsZip g5 z TI TO .ellipsis := s5.extBut _ _ D.a2.symm (s4.extBut _ _ D.a4.symm (s3.extBut _ _ D.a2.symm (s2.extBut _ _ D.a3.symm z1)))
  have k5 : ∀ c o, c ≠ z -> c ≠ TO -> c ≠ i1 -> c ≠ i2 -> s.heap.get? c = some o -> g5.get? c = some o := fun c o e1 e2 e3 e4 q => s5.extBut _ _ e2 (s4.extBut _ _ e4 (s3.extBut _ _ e2 (s2.extBut _ _ e3 (s1.extBut _ _ e1 q))))
  have j15 : g5.IsTupleIter i1 t1 (k + 1) := ((j12.extBut s3.extBut D.a8.symm).extBut s4.extBut D.b1).extBut s5.extBut D.a8.symm
  have j25 : g5.IsTupleIter i2 t2 (k + 1) := j24.extBut s5.extBut D.a9.symm
  have zlt : z < g5.objs.size := Heap.lt_size z5
  show wpAny _ _ (Builtin.SmallTypes.ownedTupleHandOut (.ref z) (.ref g5.objs.size) >>= _) _ _ _
  refine wpAny_bind ?_
  unfold Builtin.SmallTypes.ownedTupleHandOut
  have z6 : IsZip (g5.push { cls := .type "tuple", data := .seq #[x, y] }) z TI TO .ellipsis := Heap.get?_push_of_some _ z5
  refine wpAny_bind (wpAny_setField_rec z6 (by simp) fun g7 z7 s7 => ?_)
  have z7 : IsZip g7 z TI TO (rawInt g5.objs.size) := z7
  refine wpAny_setField_rec z7 (by simp) fun g8 z8 s8 => ?_
  have z8 : IsZip g8 z TI TO (rawInt g5.objs.size) := z8
  have up : ∀ c o, c ≠ z -> g5.get? c = some o -> g8.get? c = some o := fun c o e q => s8.extBut _ _ e (s7.extBut _ _ e (Heap.get?_push_of_some _ q))
  have T8 : IsPair g8 g5.objs.size x y := s8.extBut _ _ (Nat.ne_of_gt zlt) (s7.extBut _ _ (Nat.ne_of_gt zlt) (Heap.get?_push_size _ rfl))
  have n8 : g8.objs.size = g5.objs.size + 1 := by rw [s8.1, s7.1, Heap.size_push]
  rw [sz] at z8 T8 n8
  refine wpAny_pure ⟨_, rfl, wpAny_pure ?_⟩
  show Q (some (.ref g5.objs.size)) _
  rw [sz]
  refine hQ g8 ⟨z8, up _ _ D.a1 (k5 _ _ D.a1 D.a5 D.a6 D.a7 Z.ti), ⟨_, _, up _ _ D.a2 o5⟩, ?_, ?_⟩ T8 n8 fun c o e1 e2 e3 e4 q => up c o e1 (k5 c o e1 e2 e3 e4 q)
  · obtain ⟨ob, q1, q2⟩ := j15; exact ⟨ob, up _ _ D.a3 q1, q2⟩
  · obtain ⟨ob, q1, q2⟩ := j25; exact ⟨ob, up _ _ D.a4 q1, q2⟩
theorem zip_end {z TI TO i1 i2 t1 t2 : Addr} {k : Nat} {xs ys : Array Value} {Q : Option Value -> Shared -> Prop} (hh : A.handled = none) (D : ZNe z TI TO i1 i2 t1 t2) (Z : ZAt s.heap z TI TO i1 i2 t1 t2 k .none)
    (ht1 : s.heap.IsTuple t1 xs) (ht2 : s.heap.IsTuple t2 ys) (hend : xs[k]? = none \/ ys[k]? = none)
    (hQ : ∀ h', (∀ c o, c ≠ z -> c ≠ TO -> c ≠ i1 -> c ≠ i2 -> s.heap.get? c = some o -> h'.get? c = some o) -> Q none { s with heap := h' }) :
    wpAny (model prog w) A (pyNext (.ref z)) Q E s := by
  have hT : s.TypeIs (.ref z) "zip" := ⟨_, Z.z, rfl⟩
  obtain ⟨u0, v0, hTO⟩ := Z.to
  unfold pyNext
  refine wpAny_bind (wpAny_attempt (wpAny_callSpecial?_slot (name := Str.ofString "__next__") hT F.slot_zip_next (wpAny_call_entry F.slot_zip_next hT F.entry_zip_next ?_ (F.args_zip_next_1 _))))
  show wpAny _ _ (field (.ref z) 2 >>= _) _ _ _
  refine wpAny_bind (wpAny_field Z.z rfl (x := .bool false) rfl ?_)
  show wpAny _ _ (field (.ref z) 3 >>= _) _ _ _
  refine wpAny_bind (wpAny_field Z.z rfl (x := .ref TI) rfl ?_)
  refine wpAny_bind (wpAny_seqItems Z.ti rfl ?_)
  show wpAny _ _ (Builtin.SmallTypes.ownedTupleIsFree (.ref z) >>= _) _ _ _
  refine wpAny_bind ?_
  unfold Builtin.SmallTypes.ownedTupleIsFree
  refine wpAny_bind (wpAny_field Z.z rfl (x := .none) rfl (wpAny_pure ?_))
  simp only [if_true]
  refine wpAny_bind (wpAny_rule (wpAny_bind (wpAny_field Z.z rfl (x := .ref TO) rfl ?_)))
  refine wpAny_bind (wpAny_setField_rec Z.z (by simp) fun g1 z1 s1 => ?_)
  have z1 : IsZip g1 z TI TO .ellipsis := z1
  refine wpAny_bind ?_
  simp only [List.zipIdx_cons, List.zipIdx_nil, List.forIn_cons, List.forIn_nil]
  refine wpAny_bind (wpAny_bind (wpAny_onRaise ?_))
  show wpAny _ _ (Builtin.SmallTypes.nextOf (.ref i1) >>= _) _ _ _
  cases hx : xs[k]? with
  | none =>
    refine wpAny_bind (nextOf_tup_end hh (Z.j1.extBut s1.extBut D.a3) (ht1.extBut s1.extBut D.c1.1) hx fun g2 e s2 he => ?_)
    obtain ⟨oe, q1, q2⟩ := he
    have z2 : IsZip g2 z TI TO .ellipsis := s2 _ _ D.a3.symm z1
    have ne : e ≠ z := fun x => by subst x; rw [z2] at q1; cases q1; simp at q2
    exact wpAny_setField_rec z2 (by simp) fun g3 _ s3 => wpAny_bind (wpAny_isInstance (T := "StopIteration") (b := true) ⟨oe, s3.extBut _ _ ne q1, q2⟩ isSubtype_stop (wpAny_pure (hQ _ fun c o c1 _ c3 _ x => s3.extBut _ _ c1 (s2 _ _ c3 (s1.extBut _ _ c1 x)))))
  | some x =>
    have hy : ys[k]? = none := by
      rcases hend with q | q
      · rw [hx] at q; cases q
      · exact q
    refine wpAny_bind (nextOf_tup (Z.j1.extBut s1.extBut D.a3) (ht1.extBut s1.extBut D.c1.1) hx fun g2 j12 s2 => wpAny_pure ?_)
    have o2 : IsPair g2 TO u0 v0 := s2.extBut _ _ D.a8 (s1.extBut _ _ D.a2 hTO)
    refine wpAny_bind (wpAny_seqItems o2 rfl ?_)
    refine wpAny_bind (wpAny_updateSeq_pair o2 fun g3 o3 s3 => ?_)
    refine wpAny_bind (wpAny_letGo (wpAny_pure ?_))
    refine wpAny_bind (wpAny_bind (wpAny_onRaise ?_))
    show wpAny _ _ (Builtin.SmallTypes.nextOf (.ref i2) >>= _) _ _ _
    refine wpAny_bind (nextOf_tup_end hh (((Z.j2.extBut s1.extBut D.a4).extBut s2.extBut D.b1.symm).extBut s3.extBut D.a9.symm) (((ht2.extBut s1.extBut D.c2.1).extBut s2.extBut D.c2.2.2.1).extBut s3.extBut D.c2.2.1) hy fun g4 e s4 he => ?_)
    obtain ⟨oe, q1, q2⟩ := he
    have z4 : IsZip g4 z TI TO .ellipsis := s4 _ _ D.a4.symm (s3.extBut _ _ D.a2.symm (s2.extBut _ _ D.a3.symm z1))
    have ne : e ≠ z := fun x => by subst x; rw [z4] at q1; cases q1; simp at q2
    exact wpAny_setField_rec z4 (by simp) fun g5 _ s5 => wpAny_bind (wpAny_isInstance (T := "StopIteration") (b := true) ⟨oe, s5.extBut _ _ ne q1, q2⟩ isSubtype_stop (wpAny_pure (hQ _ fun c o c1 c2 c3 c4 x => s5.extBut _ _ c1 (s4 _ _ c4 (s3.extBut _ _ c2 (s2.extBut _ _ c3 (s1.extBut _ _ c1 x)))))))
noncomputable abbrev zh1 (h : Heap) (a : Addr) : Heap := h.push { cls := .type "tuple_iterator", data := .fields #[.ref a, .int 0 0] }
noncomputable abbrev zh2 (h : Heap) (a b : Addr) : Heap := (zh1 h a).push { cls := .type "tuple_iterator", data := .fields #[.ref b, .int 0 0] }
noncomputable abbrev zh3 (h : Heap) (a b : Addr) : Heap := (zh2 h a b).push { cls := .type "tuple", data := .seq #[.ref h.objs.size, .ref (zh1 h a).objs.size] }
noncomputable abbrev zh4 (h : Heap) (a b : Addr) : Heap := (zh3 h a b).push { cls := .type "tuple", data := .seq #[.none, .none] }
noncomputable abbrev zh5 (h : Heap) (a b : Addr) : Heap := (zh4 h a b).push { cls := .type "zip", data := .fields #[.none, .bool false, .bool false, .ref (zh2 h a b).objs.size, .ref (zh3 h a b).objs.size] }
end
theorem meets_zip_tups (a b : Addr) (xs ys : Array Value) :
    Meets (Builtin.«zip.__new__» ⟨[.type "zip", .ref a, .ref b], []⟩) (fun _ R s => s.heap.IsTuple a xs /\ s.heap.IsTuple b ys /\ R (.ok (.ret (.ref (zh4 s.heap a b).objs.size))) { s with heap := zh5 s.heap a b }) :=
  .of_wp fun prog w A R s h => by
    obtain ⟨hp, g, d, tk, os⟩ := s
    obtain ⟨q1, q2, h⟩ := h
    have sub := sub_zip
    have e1 : Heap.IsTuple (Shared.heap ⟨hp, g, d, tk, os⟩) a xs := q1
    have e2 : Heap.IsTuple (Shared.heap ⟨hp.push { cls := .type "tuple_iterator", data := .fields #[.ref a, .int 0 0] }, g, d, tk, os⟩) b ys := Heap.IsTuple.push q2 _
    wp_walk using wpAny_pyIter_tuple e1, wpAny_pyIter_tuple e2
    exact ⟨_, rfl, h⟩
section
variable {prog : Program} {w : World} {A : Around} {E : Value -> Shared -> Prop} {s : Shared}
theorem call_zip_tups {a b : Addr} {xs ys : Array Value} {Q : Value -> Shared -> Prop} (h1 : s.heap.IsTuple a xs) (h2 : s.heap.IsTuple b ys)
    (h : ∀ h', ZAt h' (s.heap.objs.size + 4) (s.heap.objs.size + 2) (s.heap.objs.size + 3) s.heap.objs.size (s.heap.objs.size + 1) a b 0 .none -> h'.objs.size = s.heap.objs.size + 5 ->
      (∀ c o, s.heap.get? c = some o -> h'.get? c = some o) -> Q (.ref (s.heap.objs.size + 4)) { s with heap := h' }) : wpAny (model prog w) A (call (.type "zip") [.ref a, .ref b]) Q E s := by
  refine callType_new F.called_zip (by decide) (F.typeCall_zip_2 _ _) (F.newCall_zip_2 _ _) (fun obj => F.args_object_init_3 obj _ _) F.entry_zip_new (meets_zip_tups a b xs ys) ⟨h1, h2, ?_⟩
  have n1 : (zh1 s.heap a).objs.size = s.heap.objs.size + 1 := Heap.size_push ..
  have n2 : (zh2 s.heap a b).objs.size = s.heap.objs.size + 2 := by rw [Heap.size_push, n1]
  have n3 : (zh3 s.heap a b).objs.size = s.heap.objs.size + 3 := by rw [Heap.size_push, n2]
  have n4 : (zh4 s.heap a b).objs.size = s.heap.objs.size + 4 := by rw [Heap.size_push, n3]
  have n5 : (zh5 s.heap a b).objs.size = s.heap.objs.size + 5 := by rw [Heap.size_push, n4]
  have p5 : (zh5 s.heap a b).get? (zh4 s.heap a b).objs.size = some _ := Heap.get?_push_size _ rfl
  have p4 : (zh5 s.heap a b).get? (zh3 s.heap a b).objs.size = some _ := Heap.get?_push_of_some _ (Heap.get?_push_size _ rfl)
  have p3 : (zh5 s.heap a b).get? (zh2 s.heap a b).objs.size = some _ := Heap.get?_push_of_some _ (Heap.get?_push_of_some _ (Heap.get?_push_size _ rfl))
  have p2 : (zh5 s.heap a b).get? (zh1 s.heap a).objs.size = some _ := Heap.get?_push_of_some _ (Heap.get?_push_of_some _ (Heap.get?_push_of_some _ (Heap.get?_push_size _ rfl)))
  have p1 : (zh5 s.heap a b).get? s.heap.objs.size = some _ := Heap.get?_push_of_some _ (Heap.get?_push_of_some _ (Heap.get?_push_of_some _ (Heap.get?_push_of_some _ (Heap.get?_push_size _ rfl))))
  show _ /\ _
  rw [n2, n3, n4] at p5
  rw [n1, n2] at p3
  rw [n3] at p4
  rw [n1] at p2
  rw [n4]
  exact ⟨⟨_, p5, rfl⟩, h _ ⟨p5, p3, ⟨_, _, p4⟩, ⟨_, p1, rfl, rfl⟩, ⟨_, p2, rfl, rfl⟩⟩ n5 fun c o x =>
    Heap.get?_push_of_some _ (Heap.get?_push_of_some _ (Heap.get?_push_of_some _ (Heap.get?_push_of_some _ (Heap.get?_push_of_some _ x))))⟩
end
noncomputable def Itz (K : PySem.W.Frag) (a b : Addr) : It :=
  ⟨fun i H => ∃ xs ys x y, SqT K H a xs /\ SqT K H b ys /\ xs[i]? = some x /\ ys[i]? = some y,
   fun i H v H' => ∃ p, v = .ref p /\ H p = none /\ ∃ x y, (∀ xs, SqT K H a xs -> xs[i]? = some x) /\ (∀ ys, SqT K H b ys -> ys[i]? = some y) /\ H' = upd H p (.tup [x, y]),
   fun i H => ∃ xs ys, SqT K H a xs /\ SqT K H b ys /\ (xs.length <= i \/ ys.length <= i)⟩
theorem turn_zip {P : Program} {w : World} {K : PySem.W.Frag} {elts : List Expr} {kk : Nat} {tp : Pos} {z TI TO i1 i2 a b : Addr} (D : ZNe z TI TO i1 i2 a b) :
    Turn P w K (.Tuple elts kk tp) (Itz K a b) [z, TI, TO, i1, i2] z (fun i h => ZAt h z TI TO i1 i2 a b i .none) where
  mem := by simp
  obj := fun i h st c hc => by
    obtain ⟨q1, q2, ⟨u, v, q3⟩, ⟨o4, q4, _, d4⟩, ⟨o5, q5, _, d5⟩⟩ := st
    simp only [List.mem_cons, List.not_mem_nil, or_false] at hc
    rcases hc with rfl | rfl | rfl | rfl | rfl
    · exact ⟨_, q1, fun v z => by cases z⟩
    · exact ⟨_, q2, fun v z => by cases z⟩
    · exact ⟨_, q3, fun v z => by cases z⟩
    · exact ⟨_, q4, fun v z => by rw [d4] at z; cases z⟩
    · exact ⟨_, q5, fun v z => by rw [d5] at z; cases z⟩
  keep := fun i h h' st k => by
    obtain ⟨q1, q2, ⟨u, v, q3⟩, ⟨o4, q4, r4⟩, ⟨o5, q5, r5⟩⟩ := st
    exact ⟨k z (by simp) _ q1, k TI (by simp) _ q2, ⟨u, v, k TO (by simp) _ q3⟩, ⟨o4, k i1 (by simp) _ q4, r4⟩, ⟨o5, k i2 (by simp) _ q5, r5⟩⟩
  item := by
    intro X hP hw hK hc i pins s σ H E I hf st hg
    subst hP hw hK
    obtain ⟨xs, ys, x, y, hxs, hys, hx, hy⟩ := hg
    obtain ⟨its, r1, p1, _⟩ := I.tuple hxs
    obtain ⟨its2, r2, p2, _⟩ := I.tuple hys
    obtain ⟨u, hu, ru⟩ := r1.get hx
    obtain ⟨v, hv, rv⟩ := r2.get hy
    refine zip_item D st p1 p2 (x := u) (y := v) (by simpa using hu) (by simpa using hv) fun h' Z' T' n' keep => ⟨_, rfl, ?_⟩
    refine wpAny_letOwnedTupleGo_zip Z'.z fun h'' z'' sb => ?_
    have hzlt : z < s.heap.objs.size := Heap.lt_size st.z
    have hT : h''.get? s.heap.objs.size = some { cls := .type "tuple", data := .seq #[u, v] } := sb.extBut _ _ (Nat.ne_of_gt hzlt) T'
    have k2 : ∀ c o, c ∉ [z, TO, i1, i2] -> s.heap.get? c = some o -> h''.get? c = some o := fun c o hc q => by
      simp only [List.mem_cons, List.not_mem_nil, or_false, not_or] at hc
      exact sb.extBut _ _ hc.1 (keep c o hc.1 hc.2.1 hc.2.2.1 hc.2.2.2 q)
    have fresh : H s.heap.objs.size = none := I.hok.fresh (Nat.le_refl _)
    have sub : ∀ c ∈ [z, TO, i1, i2], c ∈ [z, TI, TO, i1, i2] := fun c hc => by
      simp only [List.mem_cons, List.not_mem_nil, or_false] at hc ⊢
      rcases hc with h | h | h | h <;> simp [h]
    have none' : ∀ c ∈ [z, TO, i1, i2], H c = none := fun c hc => (hf c (sub c hc)).1
    have tne : ∀ c o, H c = some o -> c ≠ s.heap.objs.size := fun c o q => ne_of_none q fresh
    have new : ObjOk X.prog X.w (upd H s.heap.objs.size (.tup [x, y])) h'' s.heap.objs.size (.tup [x, y]) :=
      ⟨tupD_at (by show 2 <= sizeLine; decide) hT rfl, [u, v], .cons ru (.cons rv .nil), ⟨_, hT, rfl, 0, rfl⟩⟩
    have ok : HOk X.prog X.w (upd H s.heap.objs.size (.tup [x, y])) h'' := fun c o q => by
      by_cases hc : c = s.heap.objs.size
      · subst hc
        rw [upd_same] at q
        cases q
        exact new
      · rw [upd_ne hc] at q
        refine (I.hok c o q).stay (fun d v hd e => k2 d v (fun m => ?_) e) (fun d e => ?_) fun d zs e => ?_
        · rcases hd with rfl | hd
          · rw [none' _ m] at q; cases q
          · rw [none' _ m] at hd; cases hd
        · rw [upd_ne (tne _ _ e)]; exact e
        · rw [upd_ne (tne _ _ e)]; exact e
    obtain ⟨m, hm, _⟩ := id I.loc
    have hL : ∀ c ∈ [z, TO, i1, i2], c ≠ X.env.locals := fun c hc => (hf c (sub c hc)).2.1
    have I' : Inv X pins σ (upd H s.heap.objs.size (.tup [x, y])) { s with heap := h'' } := by
      refine I.step (g' := s.gens) (t' := s.toks) (d' := s.drawn) (ch := [z, TO, i1, i2]) (fun c hc => ⟨(hf c (sub c hc)).2.2.2.1, (hf c (sub c hc)).2.1, (hf c (sub c hc)).2.2.2.2.1, (hf c (sub c hc)).2.2.2.2.2⟩)
        (fun c o _ _ hc q _ => k2 c o hc q) (fun c o _ _ hc q _ => ⟨o.slots, k2 c o hc q⟩) (fun c o hc q n => ?_) (fun c o hc q => ⟨o, k2 c o hc q⟩) (fun c zs q => ?_) (fun c o v q => ?_) (fun c ps q => ⟨#[], ?_⟩) (fun m' hm' => ?_) ok I.bare
      · rw [upd_ne (Nat.ne_of_lt (Heap.lt_size q))]; exact n
      · rw [upd_ne (tne _ _ q)]; exact q
      · rw [upd_ne (tne _ _ q)]; exact q
      · rw [upd_ne (tne _ _ q)]; simpa using q
      · obtain ⟨o, es, ep, e, rr⟩ := hm'
        exact ⟨o, es, ep, k2 _ _ (fun hc => hL _ hc rfl) e, rr⟩
    refine ⟨.ref s.heap.objs.size, _, I', rfl, ⟨_, rfl, fresh, x, y, fun zs hz => by rw [I.tuple_inj hz hxs]; exact hx, fun zs hz => by rw [I.tuple_inj hz hys]; exact hy, rfl⟩, ?_, fun c hc => ?_⟩
    · obtain ⟨_, q2, ⟨e1, e2, q3⟩, ⟨o4, q4, r4⟩, ⟨o5, q5, r5⟩⟩ := Z'
      exact ⟨z'', sb.extBut _ _ D.a1 q2, ⟨e1, e2, sb.extBut _ _ D.a2 q3⟩, ⟨o4, sb.extBut _ _ D.a3 q4, r4⟩, ⟨o5, sb.extBut _ _ D.a4 q5, r5⟩⟩
    · have hlt : c < s.heap.objs.size := by
        obtain ⟨q1, q2, ⟨e1, e2, q3⟩, ⟨o4, q4, r4⟩, ⟨o5, q5, r5⟩⟩ := st
        simp only [List.mem_cons, List.not_mem_nil, or_false] at hc
        rcases hc with rfl | rfl | rfl | rfl | rfl
        · exact Heap.lt_size q1
        · exact Heap.lt_size q2
        · exact Heap.lt_size q3
        · exact Heap.lt_size q4
        · exact Heap.lt_size q5
      rw [upd_ne (Nat.ne_of_lt hlt)]
      exact (hf c hc).1
  done := by
    intro X hP hw hK hc i pins s σ H E I hf st hg
    subst hP hw hK
    obtain ⟨xs, ys, hxs, hys, hl⟩ := hg
    obtain ⟨its, r1, p1, _⟩ := I.tuple hxs
    obtain ⟨its2, r2, p2, _⟩ := I.tuple hys
    have l1 := r1.length
    have l2 := r2.length
    have sub : ∀ c ∈ [z, TO, i1, i2], c ∈ [z, TI, TO, i1, i2] := fun c hc => by
      simp only [List.mem_cons, List.not_mem_nil, or_false] at hc ⊢
      rcases hc with h | h | h | h <;> simp [h]
    refine zip_end (I.ok.hd hc) D st p1 p2 (hl.elim (fun q => .inl (by simp; lia)) fun q => .inr (by simp; lia)) fun h' keep => ⟨rfl, ?_⟩
    have k2 : ∀ c o, c ∉ [z, TO, i1, i2] -> s.heap.get? c = some o -> h'.get? c = some o := fun c o hc q => by
      simp only [List.mem_cons, List.not_mem_nil, or_false, not_or] at hc
      exact keep c o hc.1 hc.2.1 hc.2.2.1 hc.2.2.2 q
    have none' : ∀ c ∈ [z, TO, i1, i2], H c = none := fun c hc => (hf c (sub c hc)).1
    have ok : HOk X.prog X.w H h' := fun c o q => (I.hok c o q).stay (fun d v hd e => k2 d v (fun m => by
        rcases hd with rfl | hd
        · rw [none' _ m] at q; cases q
        · rw [none' _ m] at hd; cases hd) e) (fun _ e => e) fun _ _ e => e
    refine I.step (g' := s.gens) (t' := s.toks) (d' := s.drawn) (ch := [z, TO, i1, i2]) (fun c hc => ⟨(hf c (sub c hc)).2.2.2.1, (hf c (sub c hc)).2.1, (hf c (sub c hc)).2.2.2.2.1, (hf c (sub c hc)).2.2.2.2.2⟩)
        (fun c o _ _ hc q _ => k2 c o hc q) (fun c o _ _ hc q _ => ⟨o.slots, k2 c o hc q⟩) (fun c o hc q n => n) (fun c o hc q => ⟨o, k2 c o hc q⟩) (fun c zs q => q) (fun c o v q => q) (fun c ps q => ⟨#[], by simpa using q⟩) (fun m' hm' => ?_) ok I.bare
    obtain ⟨o, es, ep, e, rr⟩ := hm'
    exact ⟨o, es, ep, k2 _ _ (fun hc => (hf _ (sub _ hc)).2.1 rfl) e, rr⟩
  self := fun _ _ _ _ _ st h => wpAny_pyIter_zip st.z h
section
variable {X : Cx}
noncomputable def iZip (K : PySem.W.Frag) (ta : TA) : TI := fun σ H R => ta σ H fun vs H1 => ∃ a b xs ys, vs = [.ref a, .ref b] /\ SqT K H1 a xs /\ SqT K H1 b ys /\ R (Itz K a b) H1
theorem pi_zip {a b : Expr} {ta : TA} {elts : List Expr} {kk : Nat} {tp p pos : Pos} (hg : Gl X "zip") (hm : X.mg "zip" = none) (ha : PA X [a, b] ta) (hs : starEach [a, b] X.env = [(false, eval a X.env), (false, eval b X.env)] := by rfl) (hs2 : starEach [b] X.env = [(false, eval b X.env)] := by rfl) :
    PI X (.Tuple elts kk tp) (.Call (.Name "zip" p) [a, b] [] pos) (iZip X.K ta) := by
  intro pins s σ H R I h
  refine Call_ (ld_blt I hg hm boot_zip (PyProof.Rows.callWith_type1 (thn (ha pos pins s σ H _ I h) fun us s1 ⟨vs, H1, I1, r1, q1⟩ => ?_) (by rw [hs, hs2]) (by rw [hs2]; rfl)))
  obtain ⟨x, y, xs, ys, e, hx, hy, q⟩ := q1
  subst e
  cases r1 with
  | cons r rr =>
    cases rr with
    | cons r' rr =>
      cases rr
      cases r
      cases r'
      obtain ⟨its, v1, p1, _⟩ := I1.tuple hx
      obtain ⟨its2, v2, p2, _⟩ := I1.tuple hy
      have l1 : x < s1.heap.objs.size := by obtain ⟨_, e, _⟩ := p1; exact Heap.lt_size e
      have l2 : y < s1.heap.objs.size := by obtain ⟨_, e, _⟩ := p2; exact Heap.lt_size e
      have f : ∀ c : Addr, c < s1.heap.objs.size -> ∀ k : Nat, c ≠ s1.heap.objs.size + k := fun c hc k => Nat.ne_of_lt (Nat.lt_of_lt_of_le hc (Nat.le_add_right _ _))
      refine call_zip_tups p1 p2 fun h' Z n5 keep => wpAny_pyIter_zip Z.z ?_
      have I2 : Inv X pins σ H1 { s1 with heap := h' } := I1.kept (t' := s1.toks) keep
      refine ⟨_, [s1.heap.objs.size + 4, s1.heap.objs.size + 2, s1.heap.objs.size + 3, s1.heap.objs.size, s1.heap.objs.size + 1], _, _, H1, rfl, I2, turn_zip ⟨?_, ?_, ?_, ?_, ?_, ?_, ?_, ?_, ?_, ?_, ⟨f _ l1 4, f _ l1 3, Nat.ne_of_lt l1, f _ l1 1⟩, ⟨f _ l2 4, f _ l2 3, Nat.ne_of_lt l2, f _ l2 1⟩⟩, Z, fun c hc => ?_, q⟩
      any_goals (show (_ : Nat) ≠ _; lia)
      have hc' : s1.heap.objs.size <= c := by
        simp only [List.mem_cons, List.not_mem_nil, or_false] at hc
        rcases hc with rfl | rfl | rfl | rfl | rfl
        · exact Nat.le_add_right _ _
        · exact Nat.le_add_right _ _
        · exact Nat.le_add_right _ _
        · exact Nat.le_refl _
        · exact Nat.le_add_right _ _
      exact I1.fpOk hc' (I1.hok.fresh hc')
end
end L2
end
section
namespace L2
open PySem PySem.Spec PyProof.Rows
section
variable {prog : Program} {w : World} {A : Around} {E : Value -> Shared -> Prop} {s : Shared}
theorem getItem_tuple_all {t sl : Addr} {items : Array Value} {vl vu : Value} {lo hi : Option Int} {Q : Value -> Shared -> Prop} (ht : IsTup s.heap t items) (hs : s.heap.IsSliceOf sl vl vu .none) (pl : IsPart vl lo) (pu : IsPart vu hi)
    (hw : HT.sIx items.size 0 lo = 0 /\ HT.sIx items.size items.size hi = items.size) (h : Q (.ref t) s) : wpAny (model prog w) A (getItem (.ref t) (.ref sl)) Q E s := by
  obtain ⟨os, hos, hcs, hds⟩ := id hs
  have hTs : s.TypeIs (.ref sl) "slice" := ⟨os, hos, hcs⟩
  unfold getItem
  try with_reducible refine wpAny_holding ?_
  first | refine wpAny_bind (wpAny_pure ?_) | skip
  refine wpAny_bind (wpAny_sequenceKey ht.typeIs (by decide) ?_)
  refine wpAny_bind (wpAny_callSpecial?_slot (name := Str.ofString "__getitem__") ht.typeIs PyProof.Rows.slot_tuple_getitem
    (wpAny_call_entry PyProof.Rows.slot_tuple_getitem ht.typeIs entry_tuple_getitem ?_ (args_tuple_getitem _ _)))
  show wpAny _ _ (Builtin.Tuple.tupleItemsOf (.ref t) >>= _) _ _ s
  refine wpAny_bind (tupleItemsOf_ ht ?_)
  refine wpAny_bind (wpAny_typeOf hTs ?_)
  rw [if_pos (by decide)]
  refine wpAny_bind (HT.sliceApplied_gen hs pl pu ?_)
  have yes : (((HT.sIx items.size 0 lo : Nat) : Int) == 0 && (1 : Int) == 1 && (HT.sIx items.size items.size hi - HT.sIx items.size 0 lo) == items.size) = true := by
    rw [hw.1, hw.2]; simp
  show wpAny _ _ (if (((HT.sIx items.size 0 lo : Nat) : Int) == 0 && (1 : Int) == 1 && (HT.sIx items.size items.size hi - HT.sIx items.size 0 lo) == items.size) = true then _ else _) _ _ s
  rw [if_pos yes]
  obtain ⟨o, ho, hc, n, hd⟩ := id ht
  have ex : wpAny (model prog w) A.in1 (Builtin.Tuple.tupleIsExact (.ref t)) (fun b s' => b = true /\ s' = s) E s := by
    unfold Builtin.Tuple.tupleIsExact
    first
      | exact wpAny_bind (wpAny_typeOf ⟨o, ho, hc⟩ (wpAny_pure ⟨by rfl, rfl⟩))
      | exact wpAny_bind (wpAny_load ho (wpAny_pure ⟨by rw [hc]; rfl, rfl⟩))
  refine wpAny_bind (thn ex fun b s' hb => ?_)
  obtain ⟨rfl, rfl⟩ := hb
  rw [if_pos rfl]
  exact wpAny_bind (wpAny_rule (wpAny_pure ⟨_, rfl, wpAny_pure h⟩))
end
section
variable {X : Cx}
noncomputable def rSlW (K : PySem.W.Frag) : V -> Option Int -> Option Int -> Hp -> VK -> Prop := fun x lo hi H Q => ∃ a xs, x = .ref a /\ SqT K H a xs /\ HT.sIx xs.length 0 lo = 0 /\ HT.sIx xs.length xs.length hi = xs.length /\ Q (.ref a) H
theorem sl_tupW : SlR X (rSlW X.K) := by
  intro pins s σ H x v vl vu lo hi sl Q I rx hs pl pu h
  obtain ⟨a, xs, rfl, hx, h1, h2, q⟩ := h
  cases rx
  obtain ⟨its, r, ht, hz⟩ := I.tuple hx
  have hlen : its.toArray.size = xs.length := by rw [List.size_toArray]; exact r.length.symm
  refine ⟨"tuple", _, PyProof.Rows.slot_tuple_getitem.lookup, ht.typeIs, ?_⟩
  exact getItem_tuple_all ht hs pl pu (by rw [hlen]; exact ⟨h1, h2⟩) ⟨.ref a, H, I, rfl, q⟩
noncomputable def rSlS : V -> Option Int -> Option Int -> Hp -> VK -> Prop := fun x lo hi H Q => ∃ z, x = .str z /\ z.length <= sizeLine /\ Q (.str (Txt.slice z lo hi)) H
theorem sl_str : SlR X rSlS := by
  intro pins s σ H x v vl vu lo hi sl Q I rx hs pl pu h
  obtain ⟨z, rfl, hz, q⟩ := h
  obtain ⟨t, rfl⟩ := rx
  obtain ⟨os, hos, hcs, hds⟩ := id hs
  refine ⟨"str", _, F.slot_str_getitem.lookup, typeIs_str _ _ _, ?_⟩
  have fin : ∀ (t' : Tok) (k : Nat), EP X pins σ Q (.str (Txt.slice z lo hi) t') { s with toks := k } := fun t' k => ⟨.str _, H, I.tok _, ⟨_, rfl⟩, q⟩
  cases pl with
  | none =>
    cases pu with
    | none => exact wpAny_getItem_str_slice (l := none) (u := none) (st := none) ⟨os, hos, hcs, hds⟩ rfl (post_val_or_str ⟨Nat.le_trans (Txt.slice_le z _ _) hz, fin⟩)
    | int j uj => exact wpAny_getItem_str_slice (l := none) (u := some (j, uj)) (st := none) ⟨os, hos, hcs, hds⟩ rfl (post_val_or_str ⟨Nat.le_trans (Txt.slice_le z _ _) hz, fin⟩)
  | int i ui =>
    cases pu with
    | none => exact wpAny_getItem_str_slice (l := some (i, ui)) (u := none) (st := none) ⟨os, hos, hcs, hds⟩ rfl (post_val_or_str ⟨Nat.le_trans (Txt.slice_le z _ _) hz, fin⟩)
    | int j uj => exact wpAny_getItem_str_slice (l := some (i, ui)) (u := some (j, uj)) (st := none) ⟨os, hos, hcs, hds⟩ rfl (post_val_or_str ⟨Nat.le_trans (Txt.slice_le z _ _) hz, fin⟩)
theorem sl_U : SlR X (fun x lo hi H Q => rSlL X.K x lo hi H Q \/ (rSlT X.K x lo hi H Q \/ (rSlW X.K x lo hi H Q \/ rSlS x lo hi H Q))) := sl_list.or (sl_tup.or (sl_tupW.or sl_str))
end
structure Df (K : PySem.W.Frag) (mg : Str -> Option Value) (x : Str) (st : Stmt) (f : Addr) (fd : FuncData) (ps : List Str) : Prop where
  fn : Fun K x x st f fd
  b : Binds K fd ps []
  mg : mg x = some (.ref f)
theorem Df.kp {K : PySem.W.Frag} {mg : Str -> Option Value} {x : Str} {st : Stmt} {f : Addr} {fd : FuncData} {ps : List Str} (D : Df K mg x st f fd ps) : PySem.W.keepIn K (.ref f) = true := D.fn.kp
end L2
namespace L2
open PySem
theorem bt_len : bootBuiltins "len" = some (.builtin "len") := by decide +kernel
theorem bt_isinstance : bootBuiltins "isinstance" = some (.builtin "isinstance") := by decide +kernel
theorem bt_sorted : bootBuiltins "sorted" = some (.builtin "sorted") := by decide +kernel
theorem bt_int : bootBuiltins "int" = some (.type "int") := by decide +kernel
theorem bt_tuple : bootBuiltins "tuple" = some (.type "tuple") := by decide +kernel
theorem bt_bool : bootBuiltins "bool" = some (.type "bool") := by decide +kernel
theorem bt_str : bootBuiltins "str" = some (.type "str") := by decide +kernel
theorem bt_list : bootBuiltins "list" = some (.type "list") := by decide +kernel
end L2
end
section
namespace L2
open PySem
noncomputable def lcChk (sc : Scope) (N : List Str) (scope : Scope) (fr : List (Str × Nat)) : Bool :=
  (scope.kind == .function) && scope.names.all (fun y => decide (y.2 ≠ .cell)) && scope.names.all (fun y => decide (y.2 = .local -> scope.names.lookup y.1 = some .local)) &&
    scope.names.all (fun y => decide (y.2 = .free -> sc.names.lookup y.1 = some .cell)) && fr.all (fun p => decide (N[p.2]? = some p.1) && decide (scope.names.lookup p.1 = some .free))
theorem LcOk.of {X : Cx} {sc : Scope} {N : List Str} {scope : Scope} {Nt : List Str} {fr : List (Str × Nat)} (h1 : X.env.scope = sc) (h2 : X.N = N) (h : lcChk sc N scope fr = true) : LcOk X scope Nt fr := by
  unfold lcChk at h
  simp only [Bool.and_eq_true, List.all_eq_true, decide_eq_true_eq] at h
  obtain ⟨⟨⟨⟨a1, a2⟩, a3⟩, a4⟩, a5⟩ := h
  refine ⟨eq_of_beq a1, a2, a3, fun y hy hf => ?_, fun p hp => ?_⟩
  · show X.env.scope.names.lookup y.1 = some .cell
    rw [h1]; exact a4 y hy hf
  · rw [h2]; exact a5 p hp
end L2
end
section
namespace L2
open PySem PySem.Spec PyProof.Rows
noncomputable def notStar : Expr -> Bool
  | .Starred _ _ => false
  | _ => true
noncomputable def noStars : List Expr -> Bool
  | [] => true
  | e :: es => notStar e && noStars es
theorem star_cons {env : Env} {e : Expr} {es : List Expr} (h : notStar e = true) : starEach (e :: es) env = (false, eval e env) :: starEach es env := by
  cases e <;> first | rfl | exact absurd h Bool.false_ne_true
theorem stars_any {env : Env} {pos : Pos} : ∀ {es : List Expr}, noStars es = true -> (backTo pos (starEach es env)).any (·.1) = false
  | [], _ => rfl
  | e :: es, h => by
    have h' : (notStar e && noStars es) = true := h
    rw [Bool.and_eq_true] at h'
    rw [star_cons h'.1]
    show (false || (backTo pos (starEach es env)).any (·.1)) = false
    rw [stars_any h'.2]; rfl
section
variable {X : Cx}
theorem qa_cons {e : Expr} {es : List Expr} {te : TE} {t : TA} (ha : PE X e te) (hr : PA X es t) (hs : notStar e = true := by rfl) : PA X (e :: es) (tCons te t) := pa_cons ha hr (star_cons hs)
noncomputable def constV : Expr -> Option V
  | .Constant (.int i) _ _ => some (.int i)
  | .Constant (.str x) _ _ => some (.str x)
  | .Constant (.bool b) _ _ => some (.bl b)
  | _ => none
noncomputable def constVs : List Expr -> Option (List V)
  | [] => some []
  | e :: es => match constV e, constVs es with
    | some v, some vs => some (v :: vs)
    | _, _ => none
theorem pe_const {e : Expr} {v : V} (h : constV e = some v) : PE X e (tC v) := by
  unfold constV at h
  split at h
  · cases h; exact pe_int
  · cases h; exact pe_str
  · cases h; exact pe_bl
  · cases h
theorem constV_ns {e : Expr} {v : V} (h : constV e = some v) : notStar e = true := by
  cases e <;> first | rfl | (unfold constV at h; cases h)
noncomputable def tVs (vs : List V) : TA := fun _ H Q => Q vs H
theorem pa_consts : ∀ {es : List Expr} {vs : List V}, constVs es = some vs -> PA X es (tVs vs)
  | [], vs, h => by cases h; exact pa_nil
  | e :: es, vs, h => by
    unfold constVs at h
    cases h1 : constV e with
    | none => rw [h1] at h; cases h
    | some v =>
      cases h2 : constVs es with
      | none => rw [h1, h2] at h; cases h
      | some us =>
        rw [h1, h2] at h
        cases h
        exact pa_cons (pe_const h1) (pa_consts h2) (star_cons (constV_ns h1))
theorem qe_call {CX : CXT} {k : Nat} {f : Addr} {fd : FuncData} {ps : List Str} {sp : Sp} {dvs : List V} {ds : List Value} {E : XK} {x : Str} {p pos : Pos} {e : Expr} {es : List Expr} {t : TA}
    (F : FnOk X.prog X.w X.K X.mg X.base CX k f fd ps sp) (hr : Room k X.A) (hg : Gl X x) (hm : X.mg x = some (.ref f)) (hk : PySem.W.keepIn X.K (.ref f) = true) (hb : Binds X.K fd ps ds) (hd : Vals dvs ds) (hx : Passes CX X E)
    (ha : PA X (e :: es) t) (hs : noStars (e :: es) = true := by rfl) (hdb : (x == ("__debug__" : Str)) = false := by decide) : PE X (.Call (.Name x p) (e :: es) [] pos) (tCall sp dvs E t) := by
  have h' : (notStar e && noStars es) = true := hs
  rw [Bool.and_eq_true] at h'
  exact pe_call F hr hg hm hk hb hd hx ha hdb (star_cons h'.1) (stars_any h'.2)
theorem qe_callB {x : Str} {p pos : Pos} {e : Expr} {es : List Expr} {t : TA} {id : String} {r : List V -> Hp -> VK -> Prop} (hc : CallR X (.builtin id) r) (hg : Gl X x) (hm : X.mg x = none) (hv : bootBuiltins x = some (.builtin id)) (ha : PA X (e :: es) t)
    (hs : noStars (e :: es) = true := by rfl) (hn : x ≠ "__name__" := by decide) (hdb : (x == ("__debug__" : Str)) = false := by decide) : PE X (.Call (.Name x p) (e :: es) [] pos) (tCB r t) := by
  have h' : (notStar e && noStars es) = true := hs
  rw [Bool.and_eq_true] at h'
  exact pe_callB hc hg hm hv ha hn hdb (star_cons h'.1) (stars_any h'.2)
theorem qe_callTy {x : Str} {p pos : Pos} {e : Expr} {es : List Expr} {t : TA} {T : String} {r : List V -> Hp -> VK -> Prop} (hc : CallR X (.type T) r) (hg : Gl X x) (hm : X.mg x = none) (hv : bootBuiltins x = some (.type T)) (ha : PA X (e :: es) t)
    (hs : noStars (e :: es) = true := by rfl) (hn : x ≠ "__name__" := by decide) (hdb : (x == ("__debug__" : Str)) = false := by decide) : PE X (.Call (.Name x p) (e :: es) [] pos) (tCB r t) := by
  have h' : (notStar e && noStars es) = true := hs
  rw [Bool.and_eq_true] at h'
  exact pe_callTy hc hg hm hv ha hn hdb (star_cons h'.1) (stars_any h'.2)
theorem qi_range1 {tg a : Expr} {ta : TA} {p pos : Pos} (hg : Gl X "range") (hm : X.mg "range" = none) (ha : PA X [a] ta) (hs : notStar a = true := by rfl) : PI X tg (.Call (.Name "range" p) [a] [] pos) (iRng1 ta) :=
  pi_range1 hg hm ha (by rw [star_cons hs]; rfl)
theorem qi_zip {a b : Expr} {ta : TA} {elts : List Expr} {kk : Nat} {tp p pos : Pos} (hg : Gl X "zip") (hm : X.mg "zip" = none) (ha : PA X [a, b] ta) (hs : notStar a = true := by rfl) (hs2 : notStar b = true := by rfl) :
    PI X (.Tuple elts kk tp) (.Call (.Name "zip" p) [a, b] [] pos) (iZip X.K ta) :=
  pi_zip hg hm ha (by rw [star_cons hs, star_cons hs2]; rfl) (by rw [star_cons hs2]; rfl)
end
end L2
end
section
namespace L2
open PySem PySem.Spec PyProof.Rows
theorem relv_ref (a : Addr) : RelV (.ref a) (.ref a) := rfl
theorem relv_ty (n : String) : RelV (.ty n) (.type n) := rfl
structure Hd (p : Prop) : Prop where
  out : p
section
variable {X : Cx} {pos : Pos} {a b c e o : Expr} {es : List Expr} {ta tb tc te to : TE} {t u : TS} {tt tu : TT} {tA : TA} {st : Stmt} {rest : List Stmt}
theorem wv (i : Nat) {x : Str} (hN : X.N[i]? = some x := by rfl) (hv : Vis X.env.scope x := by first | exact Or.inl rfl | exact Or.inr (Or.inl rfl) | exact Or.inr (Or.inr rfl)) (hd : (x == ("__debug__" : Str)) = false := by decide)
    (hcd : (x == ("__classdict__" : Str)) = false := by decide) : Hd (PE X (.Name x pos) (tVar i)) := ⟨pe_var hN hv hd hcd⟩
theorem we_int {i j pos} : Hd (PE X (.Constant (.int i) j pos) (tC (.int i))) := ⟨pe_int⟩
theorem we_str {x j pos} : Hd (PE X (.Constant (.str x) j pos) (tC (.str x))) := ⟨pe_str⟩
theorem we_bl {x j pos} : Hd (PE X (.Constant (.bool x) j pos) (tC (.bl x))) := ⟨pe_bl⟩
theorem we_glob {x : Str} {v : V} {y : Value} (hg : Gl X x) (hm : X.mg x = some y) (r : RelV v y) (hd : (x == ("__debug__" : Str)) = false := by decide) : Hd (PE X (.Name x pos) (tC v)) := ⟨pe_glob hg hm r hd⟩
theorem we_bltn {x : Str} {v : V} {y : Value} (hg : Gl X x) (hm : X.mg x = none) (hv : bootBuiltins x = some y) (r : RelV v y) (hn : x ≠ "__name__" := by decide) (hd : (x == ("__debug__" : Str)) = false := by decide) : Hd (PE X (.Name x pos) (tC v)) := ⟨pe_bltn hg hm hv r hn hd⟩
theorem we_op {op : Operator} {r : R2} (ho : OpR X (binaryOp op) r) (ha : Hd (PE X a ta)) (hb : Hd (PE X b tb)) : Hd (PE X (.BinOp a op b pos) (tOp r ta tb)) := ⟨pe_op ho ha.out hb.out⟩
theorem we_cmpR {op : CmpOp} {r : R2} (ho : OpR X (compareOp op) r) (ha : Hd (PE X a ta)) (hb : Hd (PE X b tb)) (hm : behindInMarks op b = false) : Hd (PE X (.Compare a [op] [b] pos) (tOp r ta tb)) := ⟨pe_cmpR ho ha.out hb.out hm⟩
theorem we_one {op} (h : Hd (PE X a ta)) : Hd (PE X (.BoolOp op [a] pos) ta) := ⟨pe_one h.out⟩
theorem we_and {more : List Expr} (ha : Hd (PE X a ta)) (hb : Hd (PE X (.BoolOp .And (b :: more) pos) tb)) : Hd (PE X (.BoolOp .And (a :: b :: more) pos) (tAndV ta tb)) := ⟨pe_and ha.out hb.out⟩
theorem we_ifExp (hc : Hd (PT X c tt)) (ha : Hd (PE X a ta)) (hb : Hd (PE X b tb)) : Hd (PE X (.IfExp c a b pos) (tIf tt ta tb)) := ⟨pe_ifExp hc.out ha.out hb.out⟩
theorem we_lst (h : Hd (PA X es tA)) : Hd (PE X (.List es pos) (tLst tA)) := ⟨pe_lst h.out⟩
theorem we_tup {x1} (h : Hd (PA X es tA)) : Hd (PE X (.Tuple es x1 pos) (tTup tA)) := ⟨pe_tup h.out⟩
theorem we_dnewK : Hd (PE X (.Dict [] [] pos) tDNewK) := ⟨pe_dnewK⟩
theorem wps_nil : Hd (PPs X pos [] [] []) := ⟨pps_nil⟩
theorem wps_cons {k v : Expr} {ks : List (Option Expr)} {vs : List Expr} {tk tv : TE} {trs : List (TE × TE)} (hk : Hd (PE X k tk)) (hv : Hd (PE X v tv)) (hr : Hd (PPs X pos ks vs trs)) : Hd (PPs X pos (some k :: ks) (v :: vs) ((tk, tv) :: trs)) := ⟨pps_cons hk.out hv.out hr.out⟩
theorem we_disp {keys : List (Option Expr)} {values : List Expr} {trs : List (TE × TE)} (h : Hd (PPs X pos keys values trs)) (hall : keys.all (·.isSome) = true) (hl : keys.length = values.length) (h0 : keys ≠ []) (h15 : keys.length <= 15) :
    Hd (PE X (.Dict keys values pos) (tDisp trs)) := ⟨pe_disp h.out hall hl h0 h15⟩
theorem wo_none : Hd (PO X none tNoPart) := ⟨po_none⟩
theorem wo_some (h : Hd (PE X e te)) : Hd (PO X (some e) (tPart te)) := ⟨po_some h.out⟩
theorem we_slice {r : V -> Option Int -> Option Int -> Hp -> VK -> Prop} {lo hi : Option Expr} {tl th : TO} {p2 : Pos} (hr : SlR X r) (he : Hd (PE X e te)) (hl : Hd (PO X lo tl)) (hu : Hd (PO X hi th)) : Hd (PE X (.Subscript e (.Slice lo hi none p2) pos) (tSl r te tl th)) := ⟨pe_slice hr he.out hl.out hu.out⟩
theorem we_ix {r : R2} (hr : IxR X r) (ha : Hd (PE X a ta)) (hb : Hd (PE X b tb)) (hs : PlainIx b) : Hd (PE X (.Subscript a b pos) (tOp r ta tb)) := ⟨pe_ix hr ha.out hb.out hs⟩
theorem wa_nil : Hd (PA X [] tNil) := ⟨pa_nil⟩
theorem wa_cons (ha : Hd (PE X e te)) (hr : Hd (PA X es tA)) (hs : notStar e = true := by rfl) : Hd (PA X (e :: es) (tCons te tA)) := ⟨qa_cons ha.out hr.out hs⟩
theorem wa_consts {vs : List V} (h : constVs es = some vs) : Hd (PA X es (tVs vs)) := ⟨pa_consts h⟩
theorem we_call {CX : CXT} {k : Nat} {f : Addr} {fd : FuncData} {ps : List Str} {sp : Sp} {dvs : List V} {ds : List Value} {E : XK} {x : Str} {p : Pos}
    (F : FnOk X.prog X.w X.K X.mg X.base CX k f fd ps sp) (hr : Room k X.A) (hg : Gl X x) (hm : X.mg x = some (.ref f)) (hk : PySem.W.keepIn X.K (.ref f) = true) (hb : Binds X.K fd ps ds) (hd : Vals dvs ds) (hx : Passes CX X E)
    (ha : Hd (PA X (e :: es) tA)) (hs : noStars (e :: es) = true := by rfl) (hdb : (x == ("__debug__" : Str)) = false := by decide) : Hd (PE X (.Call (.Name x p) (e :: es) [] pos) (tCall sp dvs E tA)) := ⟨qe_call F hr hg hm hk hb hd hx ha.out hs hdb⟩
theorem we_callB {x : Str} {p : Pos} {id : String} {r : List V -> Hp -> VK -> Prop} (hc : CallR X (.builtin id) r) (hg : Gl X x) (hm : X.mg x = none) (hv : bootBuiltins x = some (.builtin id)) (ha : Hd (PA X (e :: es) tA))
    (hs : noStars (e :: es) = true := by rfl) (hn : x ≠ "__name__" := by decide) (hdb : (x == ("__debug__" : Str)) = false := by decide) : Hd (PE X (.Call (.Name x p) (e :: es) [] pos) (tCB r tA)) := ⟨qe_callB hc hg hm hv ha.out hs hn hdb⟩
theorem we_callTy {x : Str} {p : Pos} {T : String} {r : List V -> Hp -> VK -> Prop} (hc : CallR X (.type T) r) (hg : Gl X x) (hm : X.mg x = none) (hv : bootBuiltins x = some (.type T)) (ha : Hd (PA X (e :: es) tA))
    (hs : noStars (e :: es) = true := by rfl) (hn : x ≠ "__name__" := by decide) (hdb : (x == ("__debug__" : Str)) = false := by decide) : Hd (PE X (.Call (.Name x p) (e :: es) [] pos) (tCB r tA)) := ⟨qe_callTy hc hg hm hv ha.out hs hn hdb⟩
theorem we_bm0 {name : Str} {apos cpos : Pos} {T id : String} {r : V -> List V -> Hp -> VK -> Prop} (pa : PlainAttrs T) (slot : Slot T name id) (hty : typeOf (.builtin id) = pure (.type "method_descriptor")) (hm : MtR X id r) (ho : Hd (PE X o to))
    (hbase : attributeBase o name X.env (eval o X.env) = eval o X.env := by rfl) (hline : (apos.endLine == cpos.line) = true := by rfl) : Hd (PE X (.Call (.Attribute o name apos) [] [] cpos) (tBM0 X.K T r to)) := ⟨pe_bm0 pa slot hty hm ho.out hbase hline⟩
theorem few_of {env : Env} {cpos : Pos} {es : List Expr} (h : noStars es = true) (hl : es.length < 29) :
    ((backTo cpos (starEach es env)).all (fun x => !x.1) && (backToKw cpos (keywordEach [] env)).all (fun x => x.1.isSome)
      && decide (es.length + ([] : List Keyword).length + (if ([] : List Keyword).isEmpty then 0 else 1) < 30)) = true := by
  have h1 : (backTo cpos (starEach es env)).all (fun x => !x.1) = true := by
    have := stars_any (env := env) (pos := cpos) h
    rw [List.all_eq_not_any_not]
    simpa using this
  have h2 : (backToKw cpos (keywordEach [] env)).all (fun x => x.1.isSome) = true := rfl
  rw [h1, h2]
  simp
  lia
theorem we_bm {name : Str} {apos cpos : Pos} {T id : String} {r : V -> List V -> Hp -> VK -> Prop} (pa : PlainAttrs T) (slot : Slot T name id) (hty : typeOf (.builtin id) = pure (.type "method_descriptor")) (hm : MtR X id r) (ho : Hd (PE X o to)) (ha : Hd (PA X (e :: es) tA))
    (hbase : attributeBase o name X.env (eval o X.env) = eval o X.env := by rfl) (hs : noStars (e :: es) = true := by rfl) (hl : (e :: es).length < 29 := by decide) (hline : (apos.endLine == cpos.line) = true := by rfl) :
    Hd (PE X (.Call (.Attribute o name apos) (e :: es) [] cpos) (tBM X.K T r to tA)) := by
  have h' : (notStar e && noStars es) = true := hs
  rw [Bool.and_eq_true] at h'
  exact ⟨pe_bm pa slot hty hm ho.out ha.out hbase (few_of hs hl) hline (star_cons h'.1) (stars_any h'.2)⟩
theorem wt_cmpR {op : CmpOp} {r : R2} (ho : OpR X (compareOp op) r) (ha : Hd (PE X a ta)) (hb : Hd (PE X b tb)) (hm : behindInMarks op b = false) : Hd (PT X (.Compare a [op] [b] pos) (tTest (tOp r ta tb))) := ⟨pt_cmpR ho ha.out hb.out hm⟩
theorem ww_and1 (ha : Hd (PT X a tt)) : Hd (PW X (.BoolOp .And [a] pos) tt) := ⟨pw_and1 ha.out⟩
theorem ww_or1 (ha : Hd (PT X a tt)) : Hd (PW X (.BoolOp .Or [a] pos) tt) := ⟨pw_or1 ha.out⟩
theorem ww_and {more : List Expr} (ha : Hd (PT X a tt)) (hb : Hd (PW X (.BoolOp .And (b :: more) pos) tu)) : Hd (PW X (.BoolOp .And (a :: b :: more) pos) (tAnd tt tu)) := ⟨pw_and ha.out hb.out⟩
theorem ww_or {more : List Expr} (ha : Hd (PT X a tt)) (hb : Hd (PW X (.BoolOp .Or (b :: more) pos) tu)) : Hd (PW X (.BoolOp .Or (a :: b :: more) pos) (tOr tt tu)) := ⟨pw_or ha.out hb.out⟩
theorem wt_pw (h : Hd (PW X e tt)) : Hd (PT X e tt) := ⟨h.out.pt⟩
theorem wt_not (ha : Hd (PT X a tt)) : Hd (PT X (.UnaryOp .Not a pos) (tNot tt)) := ⟨pt_not ha.out⟩
theorem wt_val (h : Hd (PE X e te)) (he : ∀ whole, isTrue e X.env whole = (do let v <- whole; standAt e.pos; holding [v] (truthy v)) := by intro _; rfl) : Hd (PT X e (tB te)) := ⟨pt_val h.out he⟩
theorem wt_truth (ha : Hd (PE X a ta)) (he : ∀ whole, isTrue a X.env whole = (do let v <- whole; standAt a.pos; holding [v] (truthy v))) : Hd (PT X a (fun σ H Q => ta σ H fun x H' => ∃ k, TruV X.K x H' k /\ Q k H')) := ⟨pt_truth ha.out he⟩
variable {tg iter : Expr} {wi : TI} {g : TG}
theorem wi_range1 {p : Pos} (hg : Gl X "range") (hm : X.mg "range" = none) (ha : Hd (PA X [a] tA)) (hs : notStar a = true := by rfl) : Hd (PI X tg (.Call (.Name "range" p) [a] [] pos) (iRng1 tA)) := ⟨qi_range1 hg hm ha.out hs⟩
theorem wi_zip {elts : List Expr} {kk : Nat} {tp p : Pos} (hg : Gl X "zip") (hm : X.mg "zip" = none) (ha : Hd (PA X [a, b] tA)) (hs : notStar a = true := by rfl) (hs2 : notStar b = true := by rfl) : Hd (PI X (.Tuple elts kk tp) (.Call (.Name "zip" p) [a, b] [] pos) (iZip X.K tA)) := ⟨qi_zip hg hm ha.out hs hs2⟩
theorem wi_U (hl : Hd (PE X e te)) : Hd (PI X tg e (fun σ H R => iList X.K te σ H R \/ iTup X.K te σ H R)) := ⟨pi_U hl.out⟩
theorem wg_name {i : Nat} {x : Str} (hN : X.N.Nodup) (hi : X.N[i]? = some x) (hx : Loc X.env.scope x) (hf : X.fn x = true \/ X.env.scope.names.lookup x = some .local := by first | exact .inl rfl | exact .inr rfl | assumption) : Hd (PG X (.Name x pos) (gName i)) := ⟨pg_name hN hi hx hf⟩
theorem wgs_nil : Hd (PGs X [] gNil) := ⟨pgs_nil⟩
theorem wgs_cons {gs : TGs} (h1 : Hd (PG X e g)) (h2 : Hd (PGs X es gs)) (hs : (assignEach (e :: es) X.env).map (·.2) = assign e X.env :: (assignEach es X.env).map (·.2) := by rfl) : Hd (PGs X (e :: es) (gCons g gs)) := ⟨pgs_cons h1.out h2.out hs⟩
theorem wg_tup {k n : Nat} {gs : TGs} (hc : X.calm = true) (h : Hd (PGs X es gs)) (hn : (assignEach es X.env).length = n := by rfl) (hst : (assignEach es X.env).findIdx? (·.1) = none := by rfl) : Hd (PG X (.Tuple es k pos) (gTup X.K n gs)) := ⟨pg_tup hc h.out hn hst⟩
theorem wg_sub {i : Expr} {ti : TE} {ts : TSet} (ho : Hd (PE X o to)) (hi : Hd (PE X i ti)) (hs : PSet X ts)
    (ha : ∀ v, assign (.Subscript o i pos) X.env v = (do
      let ov <- holding [v] (eval o X.env)
      let iv <- holding [v, ov] (eval i X.env)
      standAt pos
      holding [v, ov, iv] (setItem ov iv v)
      release [v, ov, iv] []) := by intro _; rfl) : Hd (PG X (.Subscript o i pos) (gSub to ti ts)) := ⟨pg_sub ho.out hi.out hs ha⟩
theorem wss_nil : Hd (PSs X [] tNext) := ⟨pss_nil⟩
theorem wss_one (h1 : Hd (PS X st t)) : Hd (PSs X [st] t) := ⟨pss_one h1.out⟩
theorem wss_cons (h1 : Hd (PS X st t)) (h2 : Hd (PSs X rest u)) : Hd (PSs X (st :: rest) (tSeq t u)) := ⟨pss_cons h1.out h2.out⟩
theorem ws_ret (he : Hd (PE X e te)) : Hd (PS X (.Return (some e) pos) (tRet te)) := ⟨ps_ret he.out⟩
theorem ws_if {sa sb : List Stmt} (hc : Hd (PT X c tt)) (ha : Hd (PSs X sa t)) (hb : Hd (PSs X sb u)) : Hd (PS X (.If c sa sb pos) (tIfS tt t u)) := ⟨ps_if hc.out ha.out hb.out⟩
theorem ws_expr (he : Hd (PE X e te)) (hs : swapsWith e none pos.line X.env = pure false := by rfl) : Hd (PS X (.Expr e pos) (tDrop te)) := ⟨ps_expr he.out hs⟩
theorem ws_set {i : Nat} {x : Str} {pos' : Pos} (hN : X.N.Nodup) (hi : X.N[i]? = some x) (hx : Loc X.env.scope x) (he : Hd (PE X e te)) (hs : swapsWith e (some (.Name x pos')) pos.line X.env = pure false := by rfl) (hf : X.fn x = true \/ X.env.scope.names.lookup x = some .local := by first | exact .inl rfl | exact .inr rfl | assumption) :
    Hd (PS X (.Assign [.Name x pos'] e pos) (tAsg te (gName i))) := ⟨ps_set hN hi hx he.out hs hf⟩
theorem ws_asg (he : Hd (PE X e te)) (hg : Hd (PG X tg g)) (hs : swapsWithSole [tg] e pos.line X.env = pure false := by rfl) (hw : swappedStores [tg] e X.env = pure none := by rfl) (h1 : (assignEach [tg] X.env).map (·.2) = [assign tg X.env] := by rfl) :
    Hd (PS X (.Assign [tg] e pos) (tAsg te g)) := ⟨ps_asg he.out hg.out hs hw h1⟩
theorem ws_for {body : List Stmt} (hp : PassesOwn (model X.prog X.w) X.A X.env X.xe) (hc : X.calm = true) (hi : Hd (PI X tg iter wi)) (hg : Hd (PG X tg g)) (hb : Hd (PSs X body t)) (hs : ∀ x, foldedSetIterable iter X.env x = pure x := by intro _; rfl) : Hd (PS X (.For tg iter body [] pos) (tFor wi g t)) := ⟨ps_for hp hc hi.out hg.out hb.out hs⟩
theorem ws_while {body : List Stmt} (hp : PassesOwn (model X.prog X.w) X.A X.env X.xe) (hc : Hd (PT X c tt)) (hb : Hd (PSs X body t)) : Hd (PS X (.While c body [] pos) (tWhile tt t)) := ⟨ps_while hp hc.out hb.out⟩
variable {ifs : List Expr} {scope : Scope} {Nt : List Str} {fr : List (Str × Nat)} {gz : ZC -> TG} {tz : ZC -> TT} {ez : ZC -> TE}
theorem wif_nil : Hd (PIfs X [] tAll) := ⟨pif_nil⟩
theorem wif_one (h : Hd (PT X c tt)) : Hd (PIfs X [c] tt) := ⟨pif_one h.out⟩
theorem we_lc (L : LcOk X scope Nt fr) (hcalm : X.calm = true) (hi : Hd (PI X tg iter wi)) (hg : ∀ z, Hd (PG (cxC X scope (Nt ++ fr.map (·.1)) z) tg (gz z))) (hgt : ∀ z, Tgt Nt.length (gz z))
    (hc : ∀ z, Hd (PIfs (cxC X scope (Nt ++ fr.map (·.1)) z) ifs (tz z))) (he : ∀ z, Hd (PE (cxC X scope (Nt ++ fr.map (·.1)) z) e (ez z))) (hs : ∀ x, foldedSetIterable iter X.env x = pure x := by intro _; rfl) :
    Hd (PE X (.ListComp e [⟨tg, iter, ifs, 0⟩] scope pos) (tLC wi Nt.length fr gz tz ez)) := ⟨pe_lc L hcalm hi.out (fun z => (hg z).out) hgt (fun z => (hc z).out) (fun z => (he z).out) hs⟩
end
section
variable {P : Program} {w : World} {K : PySem.W.Frag} {mg : Str -> Option Value} {base : Heap}
theorem Fun.okH {x qual : Str} {st : Stmt} {f : Addr} {fd : FuncData} {N ps : List Str} {k : Nat} {sp : Sp} (F : Fun K x qual st f fd) (S : FnScope N ps (defScope st)) (len : ∀ vs H Q E, sp vs H Q E -> vs.length = ps.length)
    (hbody : ∀ (cdv : Value) (A : Around) (outer : List Env) (s : Shared) (H : Hp) (vs : List V) (Q : VK) (E : XK), Room k (A.deeper (envOfC qual (defScope st) s.heap.objs.size f cdv)) -> sp vs H Q E ->
      ∃ t, Hd (PSs (cxOf CX0 P w K mg base N qual (defScope st) f cdv A outer s H E).nox (defBody st) t) /\ t { nx := fun _ H' => Q .non H', rt := Q } (start N vs) H) : FnOk P w K mg base CX0 (k + 1) f fd ps sp :=
  F.ok S len fun cdv A outer s H vs Q E hr h => let ⟨t, h1, h2⟩ := hbody cdv A outer s H vs Q E hr h; ⟨t, h1.out, h2⟩
end
end L2
end
section
namespace Kn
open PySem PySem.W PyProof.Rows
noncomputable def krun {α : Type} (lt : Nat -> Nat -> Bool) : KasT α -> α
  | .ret a => a
  | .ask i j k => krun lt (k (lt i j))
section
variable (r : Nat -> Nat)
noncomputable def kat (p : Array Nat) (i : Nat) : Nat := r (p.getD i 0)
noncomputable def Srt (p : Array Nat) (m : Nat) : Prop := ∀ i j, i < j -> j < m -> kat r p i < kat r p j
variable {r}
end
end Kn
end
section
namespace Kn
open PySem
theorem sLt_total {x y : Str} (h : x ≠ y) : sLt y x = !sLt x y := by
  have ne : x.cps.toList ≠ y.cps.toList := fun e => h (by cases x; cases y; congr 1; exact Array.toList_inj.mp e)
  unfold sLt
  by_cases a : x.cps.toList < y.cps.toList
  · have b : ¬ y.cps.toList < x.cps.toList := fun b => List.lt_irrefl _ (List.lt_trans a b)
    simp [a, b]
  · have b : y.cps.toList < x.cps.toList := Classical.byContradiction fun b => ne (List.le_antisymm (List.not_lt.mp b) (List.not_lt.mp a))
    simp [a, b]
noncomputable def cnt (v : Val) : List (Val × Int) -> Int
  | [] => 0
  | p :: ps => (if p.1 = v then p.2 else 0) + cnt v ps
noncomputable def RiseV (ys : List Val) : Prop := ys.Pairwise fun p q => aheadB p q = true
end Kn
end
section
namespace Kn
open PySem PySem.W PyProof.Rows
section
variable {n : Nat} (h0 : 0 < n)
include h0
end
noncomputable def vAt (xs : List Val) (i : Nat) : Val := xs[i]?.getD (.num 0)
end Kn
end
section
namespace L2
open PySem PySem.Spec PyProof.Rows PySem.W
open Kn (KE cmpK kEl sLt key aheadB RiseV vAt)
noncomputable def kk : KE -> Key
  | .i n => .inl n
  | .s x => .inr x
section
variable {prog : Program} {w : World} {A : Around} {E : Value -> Shared -> Prop} {s : Shared}
end
section
variable {X : Cx}
end
end L2
end
section
namespace L2
open PySem PySem.Spec PyProof.Rows
section
variable {X : Cx}
noncomputable def rNeS : R2 := fun x y H Q => ∃ a b xs ys ds, x = .ref a /\ y = .ref b /\ H a = some (.lst xs) /\ H b = some (.lst ys) /\ IsDts H ds xs /\ IsDts H ds ys /\ depL ds <= depMax /\ Q (.bl false) H
theorem op_neS (hu : X.A.units + 110 < cLine) : OpR X (compareOp .NotEq) rNeS := by
  intro pins s σ H x y v u Q I rx ry h
  obtain ⟨a, b, xs, ys, ds, rfl, rfl, ha, hb, h2, g2, hd, q⟩ := h
  cases rx
  cases ry
  obtain ⟨its, r, p, _⟩ := I.list (SqL.of ha)
  obtain ⟨its2, r2, p2, _⟩ := I.list (SqL.of hb)
  have l1 : its.toArray.size = ds.length := by rw [List.size_toArray, <- r.length, h2.length]
  have l2 : its2.toArray.size = ds.length := by rw [List.size_toArray, <- r2.length, g2.length]
  refine SeqAt.RcNeAt.lists (s := s) (A := X.A) (e := fun j => decide (ds[j]? = ds[j]?)) p.isList p2.isList (by rw [l1, l2]) (by lia) (items_eq (n := depMax) (A := X.A.in1) I.hok hd (by show X.A.units + 1 + depMax < cLine; unfold depMax; lia) h2 g2 r r2) _ _ _ _ ?_
  have e : (!(List.range its.toArray.size).all fun j => decide (ds[j]? = ds[j]?)) = false := by simp
  rw [e]
  exact ⟨.bl false, H, I, rfl, q⟩
theorem op_neUL (hu : X.A.units + 110 < cLine) : OpR X (compareOp .NotEq) (fun x y H Q => rNe x y H Q \/ ((∃ ds es, IsDt H (.tup ds) x /\ IsDt H (.tup es) y /\ depL ds <= depMax /\ Q (.bl (!decide (ds = es))) H) \/ (rNeL x y H Q \/ rNeS x y H Q))) := op_ne.or ((op_neD hu).or ((op_neL (by lia)).or (op_neS hu)))
variable {pos : Pos} {e f o : Expr} {te tf to : TE}
end
end L2
end
section
namespace L2
open PySem PySem.Spec PyProof.Rows
section
variable {X : Cx}
noncomputable def Its (x : Str) : It := ⟨fun i _ => i < x.cps.size, fun i H v H' => H' = H /\ ∃ c, x.cps[i]? = some c /\ v = .str ⟨#[c]⟩, fun i _ => x.cps.size <= i⟩
theorem turn_str {P : Program} {w : World} {K : PySem.W.Frag} {tg : Expr} (it : Addr) (x : Str) (t : Tok) : Turn P w K tg (Its x) [it] it (fun i h => h.IsStrIter it "str_ascii_iterator" x t i) where
  mem := by simp
  obj := fun i h st b hb => by
    have e : b = it := by simpa using hb
    subst e
    obtain ⟨o, q, _, d⟩ := st
    exact ⟨_, q, fun v z => by rw [d] at z; cases z⟩
  keep := fun i h h' st k => by
    obtain ⟨o, q, r⟩ := st
    exact ⟨o, k it (by simp) _ q, r⟩
  item := by
    intro X hP hw hK hc i pins s σ H E I hf st hg
    subst hP hw hK
    obtain ⟨f0, f1, f2, f3, f4, f5⟩ := hf it (by simp)
    have hi : i < x.cps.size := hg
    have hx : x.cps[i]? = some x.cps[i] := Array.getElem?_eq_getElem hi
    refine wpAny_pyNext_ascii_item st hx fun h' st' sb => ?_
    have I1 : Inv X pins σ H { s with heap := h', toks := s.toks + 1 } := I.turned (t' := s.toks + 1) (fun b o hb e => (sb.2 b hb).trans e) f0 f1 f3 f4 f5
    obtain ⟨o, e, c, d⟩ := id st'
    exact ⟨_, rfl, go_of (s := { s with heap := h', toks := s.toks + 1 }) e c d (by decide) ⟨.str ⟨#[x.cps[i]]⟩, H, I1, ⟨_, rfl⟩, ⟨rfl, _, hx, rfl⟩, st', fun b hb => (hf b hb).1⟩⟩
  done := by
    intro X hP hw hK hc i pins s σ H E I hf st hg
    subst hP hw hK
    obtain ⟨f0, f1, f2, f3, f4, f5⟩ := hf it (by simp)
    have hi : x.cps.size <= i := hg
    exact wpAny_pyNext_ascii_end (I.ok.hd hc) st (Array.getElem?_eq_none hi) fun h' eb => ⟨rfl, I.turned (t' := s.toks) (fun b o hb e => eb b o hb e) f0 f1 f3 f4 f5⟩
  self := fun _ _ _ _ _ st h => wpAny_pyIter_striter_ascii st h
noncomputable def iStr (tl : TE) : TI := fun σ H R => tl σ H fun v H1 => ∃ x, v = .str x /\ x.cps.all (· < 128) = true /\ R (Its x) H1
theorem pi_str {tg l : Expr} {tl : TE} (hl : PE X l tl) : PI X tg l (iStr tl) := by
  intro pins s σ H R I h
  refine thn (hl pins s σ H _ I h) fun v s1 ⟨x, H1, I1, r1, q1⟩ => ?_
  obtain ⟨z, e, ha, q⟩ := q1
  subst e
  obtain ⟨t, rfl⟩ := r1
  refine wpAny_pyIter_ascii ha ?_
  refine ⟨s1.heap.objs.size, [s1.heap.objs.size], _, _, H1, rfl, I1.kept (t' := s1.toks) fun b o e => Heap.get?_push_of_some _ e, turn_str _ z t, ⟨_, Heap.get?_push_size _ rfl, rfl, rfl⟩, fun b hb => ?_, q⟩
  have e : b = s1.heap.objs.size := by simpa using hb
  subst e
  exact I1.fpOk (Nat.le_refl _) (I1.hok.fresh (Nat.le_refl _))
theorem wi_str {tg l : Expr} {tl : TE} (hl : Hd (PE X l tl)) : Hd (PI X tg l (iStr tl)) := ⟨pi_str hl.out⟩
end
end L2
end
section
namespace L2
open PySem PySem.Spec PyProof.Rows
section
variable {X : Cx}
end
end L2
end
section
namespace L2
open PySem PySem.Spec PyProof.Rows
theorem stand_led (t : SetTable) (n : Nat) : (t.orStandIn n).led = t.led := by
  unfold SetTable.orStandIn; split <;> rfl
theorem lay_led (t : SetTable) (es : Array (Int × Value)) (h : Int) (x : Value) : (layNew t es h x).2.1.led = t.led := by
  unfold layNew
  split
  · exact stand_led _ _
  · rfl
theorem laid_led {mask finger moves : Nat} {led plain : Bool} {hs : Array Int} {r : SetTable × Array Nat} (h : SetTable.laid mask finger moves led plain hs = some r) : r.1.led = led /\ r.1.plain = plain := by
  unfold SetTable.laid at h
  cases hc : SetTable.layClean mask hs with
  | none => rw [hc] at h; cases h
  | some ow => rw [hc] at h; cases h; exact ⟨rfl, rfl⟩
theorem relay_led (t : SetTable) (es : Array (Int × Value)) (n : Nat) : (relayAll t es n).2.1.led = t.led := by
  unfold relayAll
  cases hr : t.relaid (es.map (·.1)) n with
  | none => rfl
  | some r =>
    obtain ⟨t', order⟩ := r
    have := laid_led hr
    dsimp only
    split
    · exact this.1
    · rfl
theorem relay_plain (t : SetTable) (es : Array (Int × Value)) (n : Nat) (hp : t.plain = false) : (relayAll t es n).2.1.plain = false := by
  unfold relayAll
  cases hr : t.relaid (es.map (·.1)) n with
  | none => rfl
  | some r =>
    obtain ⟨t', order⟩ := r
    have := laid_led hr
    dsimp only
    split
    · exact this.2.trans hp
    · rfl
noncomputable def valS : Value -> Str
  | .str x _ => x
  | _ => Str.empty
noncomputable def strsOf (es : List (Int × Value)) : List Str := es.map fun e => valS e.2
noncomputable def SetS (prog : Program) (w : World) (h : Heap) (a : Addr) (zs : List Str) : Prop :=
  ∃ (es : Array (Int × Value)) (ep : Nat) (t : SetTable), h.get? a = some { cls := .type "set", dict := none, data := .set es ep t, slots := #[] } /\ ElemsOf (strKind prog w) es.toList /\ t.fits es.size = true /\
    t.led = (!w.params.followText "set-order") /\ (t.plain = false \/ es = #[]) /\ es.size < 4000 /\ (strsOf es.toList).Nodup /\ ∀ x, x ∈ strsOf es.toList ↔ x ∈ zs
theorem SetS.at {prog : Program} {w : World} {h h' : Heap} {a : Addr} {zs : List Str} (S : SetS prog w h a zs) (k : ∀ o, h.get? a = some o -> h'.get? a = some o) : SetS prog w h' a zs := by
  obtain ⟨es, ep, t, ho, r⟩ := S
  exact ⟨es, ep, t, k _ ho, r⟩
section
variable {prog : Program} {w : World} {A : Around} {E : Value -> Shared -> Prop} {s : Shared} {a : Addr} {zs : List Str}
theorem elem_str {es : List (Int × Value)} (h : ElemsOf (strKind prog w) es) {e : Int × Value} (he : e ∈ es) : ∃ t, e.2 = .str (valS e.2) t /\ e.1 = (strKind prog w).hash (valS e.2) := by
  obtain ⟨⟨k, hk, hh⟩, _⟩ := h e he
  obtain ⟨t, ht⟩ := Value.isStrOf_shape (x := k) (v := e.2) hk
  have : valS e.2 = k := by rw [ht]; rfl
  exact ⟨t, by rw [this]; exact ht, by rw [this]; exact hh⟩
theorem found_iff {es : List (Int × Value)} (h : ElemsOf (strKind prog w) es) (x : Str) : (∃ e ∈ es, (strKind prog w).is x e.2 = true) ↔ x ∈ strsOf es := by
  constructor
  · rintro ⟨e, he, hx⟩
    obtain ⟨t, ht⟩ := Value.isStrOf_shape (x := x) (v := e.2) hx
    exact List.mem_map.mpr ⟨e, he, by rw [ht]; rfl⟩
  · intro hx
    obtain ⟨e, he, rfl⟩ := List.mem_map.mp hx
    obtain ⟨t, ht, _⟩ := elem_str h he
    refine ⟨e, he, ?_⟩
    rw [ht]
    exact strKind_is _ _ _ _
theorem set_put {es es' : Array (Int × Value)} {ep : Nat} {t t' : SetTable} {Q : Unit -> Shared -> Prop} (ho : s.heap.get? a = some { cls := .type "set", dict := none, data := .set es ep t, slots := #[] }) (hz : es'.size < 4096)
    (h : ∀ h', Heap.SameBut a s.heap h' -> h'.get? a = some { cls := .type "set", dict := none, data := .set es' (ep + 1) t', slots := #[] } -> Q () { s with heap := h' }) : wpAny (model prog w) A (storeSet a es' t') Q E s := by
  refine wpAny_storeSet_of (ep := ep) (t := t) ho rfl (h _ (Heap.SameBut.update s.heap a _) ?_) (fits_of_scanBound hz)
  have := Heap.get?_update_self (Obj.putSet es' t') ho (by rw [putSet_of (ep := ep) (t := t) es' t' rfl]; rfl)
  rw [this, putSet_of (ep := ep) (t := t) es' t' rfl]
theorem nodup_perm_snoc {l l' : List Str} {x : Str} (p : List.Perm l' (l ++ [x])) (nd : l.Nodup) (h : x ∉ l) : l'.Nodup := by
  refine p.nodup_iff.mpr (List.nodup_append.mpr ⟨nd, by simp, fun y hy z hz => ?_⟩)
  rw [List.mem_singleton.mp hz]
  exact fun e => h (e ▸ hy)
theorem set_add {x : Str} {tk : Tok} {Q : Bool -> Shared -> Prop} (S : SetS prog w s.heap a zs) (hl : zs.length < 3900)
    (h : ∀ b h', Heap.SameBut a s.heap h' -> SetS prog w h' a (zs ++ [x]) -> Q b { s with heap := h' }) : wpAny (model prog w) A (setAddHashed a (.str x tk) ((strKind prog w).hash x)) Q E s := by
  obtain ⟨es, ep, t, ho, hel, hf, hled, hpl, hsz, nd, hm⟩ := S
  have hsz' : es.size < 3950 := by
    have := List.Nodup.length_le_of_subset nd fun y hy => (hm y).mp hy
    rw [strsOf, List.length_map, Array.length_toList] at this
    lia
  have hkey : (strKind prog w).is x (.str x tk) = true := strKind_is _ _ _ _
  have hsc : (Value.str x tk).scannable = true := rfl
  unfold setAddHashed setAddHashedIn
  refine wpAny_holding (wpAny_bind (wpAny_setState_of ho rfl hf ?_))
  dsimp only
  rw [byScan_of hsc (by show es.size < 4096; lia) hel, if_pos rfl]
  unfold setAddByScan
  refine wpAny_bind (wpAny_bind (wpAny_rule (wpAny_bind (wpAny_setScan_of hkey ho rfl hf hel ?_))))
  cases hr : List.findIdx? (fun e => (strKind prog w).is x e.2) es.toList with
  | some j =>
    obtain ⟨hj, hpj, _⟩ := List.findIdx?_eq_some_iff_getElem.mp hr
    have hx : x ∈ zs := (hm x).mp ((found_iff hel x).mp ⟨es.toList[j], List.getElem_mem hj, hpj⟩)
    refine wpAny_pure (wpAny_pure ?_)
    refine h false s.heap (Heap.SameBut.refl a s.heap) ⟨es, ep, t, ho, hel, hf, hled, hpl, hsz, nd, fun y => ?_⟩
    rw [hm y, List.mem_append, List.mem_singleton]
    exact ⟨.inl, fun z => z.elim id fun e => e ▸ hx⟩
  | none =>
    have hx : x ∉ strsOf es.toList := fun z => by
      obtain ⟨e, he, q⟩ := (found_iff hel x).mpr z
      have := List.findIdx?_eq_none_iff.mp hr e he
      rw [q] at this; cases this
    have hperm := layNew_perm t es ((strKind prog w).hash x) (.str x tk)
    have hfits := layNew_fits t es ((strKind prog w).hash x) (.str x tk)
    have hled1 := lay_led t es ((strKind prog w).hash x) (.str x tk)
    dsimp only
    generalize layNew t es ((strKind prog w).hash x) (.str x tk) = L at hperm hfits hled1 ⊢
    obtain ⟨es1, t1, dum, gave⟩ := L
    dsimp only at hperm hfits hled1 ⊢
    rw [Array.toList_push] at hperm
    have hel1 : ElemsOf (strKind prog w) es1.toList := (hel.push hkey hsc).perm hperm
    have hps : (strsOf es1.toList).Perm (strsOf es.toList ++ [x]) := by
      have := hperm.map (fun e : Int × Value => valS e.2)
      rw [List.map_append] at this
      exact this
    have nd1 := nodup_perm_snoc hps nd hx
    have hm1 : ∀ y, y ∈ strsOf es1.toList ↔ y ∈ zs ++ [x] := fun y => by
      rw [hps.mem_iff, List.mem_append, List.mem_append, hm y]
    have hs1 : es1.size = es.size + 1 := by
      have := hperm.length_eq
      rw [List.length_append, Array.length_toList, Array.length_toList] at this
      simpa using this
    have gw : ∀ (b : Bool) {s₁ : Shared} {Q' : Unit -> Shared -> Prop}, Q' () s₁ -> wpAny (model prog w) A (match b with | true => rule "set.scan.the-table-gave-way" | false => pure ()) Q' E s₁ := fun b s₁ Q' q => by
      cases b
      · exact wpAny_pure q
      · exact wpAny_rule q
    refine wpAny_bind (gw _ ?_)
    cases e : t1.plain
    case' false =>
      rw [if_neg Bool.false_ne_true]
      refine wpAny_bind (wpAny_pure ?_)
      simp only [if_true]
      have hf2 := hfits
      have hl2 : t1.led = t.led := hled1
      have hp2 : t1.plain = false := e
      clear e hfits hled1
      generalize t1 = t2 at hf2 hl2 hp2 ⊢
    case' true =>
      rw [if_pos rfl, hashByValue_scannable 8 hsc]
      refine wpAny_bind (wpAny_pure ?_)
      simp only [show plainKind (.str x tk) = false from rfl, Bool.false_eq_true, if_false]
      have hf2 := SetTable.fits_plain_off hfits
      have hl2 : ({ t1 with plain := false } : SetTable).led = t.led := hled1
      have hp2 : ({ t1 with plain := false } : SetTable).plain = false := rfl
      clear e hfits hled1
      generalize ({ t1 with plain := false } : SetTable) = t2 at hf2 hl2 hp2 ⊢
    all_goals
      refine wpAny_bind (set_put ho (by lia) fun h1 hb1 ho1 => ?_)
      split
      · have hp := relayAll_perm t2 es1 (SetTable.grown es1.size)
        have hfr := relayAll_fits t2 es1 (SetTable.grown es1.size)
        have hlr := relay_led t2 es1 (SetTable.grown es1.size)
        have hpr := relay_plain t2 es1 (SetTable.grown es1.size) hp2
        generalize relayAll t2 es1 (SetTable.grown es1.size) = R at hp hfr hlr hpr ⊢
        obtain ⟨es2, t3, g2⟩ := R
        dsimp only at hp hfr hlr hpr ⊢
        have hs2 : es2.size = es1.size := by rw [<- Array.length_toList, hp.length_eq, Array.length_toList]
        have hp' : (strsOf es2.toList).Perm (strsOf es1.toList) := hp.map _
        refine wpAny_bind (gw _ (wpAny_bind (set_put (s := { s with heap := h1 }) ho1 (by lia) fun h2 hb2 ho2 => wpAny_pure (wpAny_pure ?_))))
        exact h true h2 (hb1.trans hb2) ⟨es2, _, t3, ho2, hel1.perm hp, hfr, by rw [hlr, hl2, hled], .inl hpr, by lia, hp'.nodup_iff.mpr nd1, fun y => (hp'.mem_iff).trans (hm1 y)⟩
      · exact wpAny_pure (wpAny_pure (h true h1 hb1 ⟨es1, _, t2, ho1, hel1, hf2, by rw [hl2, hled], .inl hp2, by lia, nd1, hm1⟩))
end
end L2
end
section
namespace L2
open PySem PySem.Spec PyProof.Rows
section
variable {prog : Program} {w : World} {A : Around} {R : Result -> Shared -> Prop} {I : Addr} {fp wr : List Addr} {G : Array GenState -> Array GenState -> Prop} {n : Nat} {P : Nat -> Value -> Prop} {St : Nat -> Shared -> Prop}
theorem set_fill (W : WalksS prog w A.in1 I fp wr G n P St) (S : Addr) (hS : S ∉ fp) (zs : List Str) (hn : n = zs.length) (hval : ∀ i v, P i v -> ∃ (x : Str) (t : Tok), zs[i]? = some x /\ v = .str x t) (hb : zs.length < 3900) :
    ∀ (k i : Nat) (s : Shared), n - i = k -> i <= n -> St i s -> SetS prog w s.heap S (zs.take i) -> (∀ s', Moved (S :: wr) G s s' -> SetS prog w s'.heap S zs -> R (.ok (.ret .none)) s') ->
      codeAny (model prog w) A (.builtin "set.update.loop" ⟨[.ref S, .ref I], []⟩) R s := by
  have hw : S ∉ wr := fun h => hS (W.sub _ h)
  have sub : ∀ b ∈ wr, b ∈ S :: wr := fun b h => List.mem_cons_of_mem _ h
  intro k
  induction k with
  | zero =>
    intro i s hk hi st hs q
    obtain rfl : i = n := by lia
    refine codeAny_builtin F.entry_set_update_loop ?_
    rw [Around.under_plainId F.plain_set_update_loop _]
    show wpAny _ A.in1 (pyNext (.ref I) >>= _) _ _ s
    refine wpAny_bind (W.done s _ _ st fun s' m => ?_)
    refine wpAny_pure (q s' (m.mono sub) ?_)
    rw [List.take_of_length_le (by lia)] at hs
    exact hs.at fun o e => m.heap S o hw e
  | succ k ih =>
    intro i s hk hi st hs q
    have lt : i < n := by lia
    refine codeAny_builtin F.entry_set_update_loop ?_
    rw [Around.under_plainId F.plain_set_update_loop _]
    show wpAny _ A.in1 (pyNext (.ref I) >>= _) _ _ s
    refine wpAny_bind (W.item i s _ _ lt st fun v s1 hP st1 m => ?_)
    obtain ⟨x, t, hx, rfl⟩ := hval i v hP
    have hs1 := hs.at (h' := s1.heap) fun o e => m.heap S o hw e
    show wpAny _ A.in1 (holding [Value.str x t] (setAdd S (.str x t)) >>= _) _ _ s1
    unfold setAdd
    refine wpAny_bind (wpAny_holding (wpAny_holding (wpAny_bind ((strKind prog w).pyHash (k := x) (strKind_is _ _ _ _) ?_))))
    refine set_add (s := { s1 with toks := s1.toks + 1 }) (zs := zs.take i) hs1 (by rw [List.length_take]; lia) fun b h' hb' hs2 => ?_
    have e2 : zs.take i ++ [x] = zs.take (i + 1) := by rw [List.take_add_one, hx]; rfl
    rw [e2] at hs2
    refine wpAny_pure ⟨plainId_quiet F.plain_set_update_loop _, ih (i + 1) _ (by lia) lt (W.frame _ s1 _ _ st1 (Nat.le_succ _) fun c hc o e => ?_) hs2 fun s2 m2 q2 => ?_⟩
    · rw [hb'.2 c fun z : c = S => hS (z ▸ hc)]; exact e
    · exact q s2 (Moved.trans W.gtrans ((m.mono sub).then_heap (Nat.le_succ _) fun c o hc e => by rw [hb'.2 c fun z : c = S => hc (z ▸ List.mem_cons_self)]; exact e) m2) q2
end
theorem strsAre_at : ∀ {vs : List Value} {ss : List Str} {i : Nat} {v : Value}, StrsAre vs ss -> vs[i]? = some v -> ∃ (x : Str) (t : Tok), ss[i]? = some x /\ v = .str x t
  | _, _, i, v, .nil, e => by simp at e
  | _, _, 0, v, .cons x t _, e => by simp at e; exact ⟨x, t, rfl, e.symm⟩
  | _, _, i + 1, v, .cons x t r, e => by
    obtain ⟨y, u, h1, h2⟩ := strsAre_at (i := i) r (by simpa using e)
    exact ⟨y, u, by simpa using h1, h2⟩
section
variable {prog : Program} {w : World} {A : Around} {E : Value -> Shared -> Prop} {s : Shared}
noncomputable def emptySet (w : World) : Obj := { cls := .type "set", dict := none, data := .set #[] 0 (.fresh 0 0 (!w.params.followText "set-order")) }
theorem emptySet_is {h : Heap} {a : Addr} (e : h.get? a = some (emptySet w)) : SetS prog w h a [] := by
  refine ⟨#[], 0, _, e, fun x hx => ?_, by rfl, rfl, .inr rfl, by decide, List.nodup_nil, fun x => Iff.rfl⟩
  simp at hx
theorem set_new_code (a : Value) {Q₁ : Value -> Shared -> Prop} (h : Q₁ (.ref s.heap.objs.size) { s with heap := s.heap.push (emptySet w) }) :
    codeAny (model prog w) A (.call (.builtin "set.__new__") ⟨[.type "set", a], []⟩) (wants Q₁ E) s := by
  refine codeAny_of_tree ?_
  show wpAny _ A.in1 (checkBuiltinCall "set.__new__" ⟨[.type "set", a], []⟩ >>= fun _ => again (.builtin "set.__new__" ⟨[.type "set", a], []⟩)) _ _ s
  refine wpAny_bind (wpAny_of_eq (F.newCall_set_1 a) (wpAny_pure ⟨plainId_quiet F.plain_set_new _, codeAny_builtin F.entry_set_new ?_⟩))
  rw [Around.under_plainId F.plain_set_new _]
  unfold Builtin.«set.__new__» Builtin.Frozenset.newClass
  have hsub := sub_set_self
  obtain ⟨hp, g, d, tk, os⟩ := s
  dsimp only at h ⊢
  wp_walk
  refine wpAny_askSetting (wpAny_pure ?_)
  dsimp only
  simp only [newObj]
  exact wpAny_bind (wpAny_alloc (wpAny_pure (wpAny_pure h)))
theorem call_set_str {l : Addr} {its : Array Value} {zs : List Str} {Q : Value -> Shared -> Prop} (hh : A.handled = none) (hl : s.heap.IsList l its) (hi : StrsAre its.toList zs) (hb : zs.length < 3900)
    (h : ∀ (h' : Heap) (tk : Nat), SetS prog w h' s.heap.objs.size zs -> (∀ b o, s.heap.get? b = some o -> h'.get? b = some o) -> Q (.ref s.heap.objs.size) { s with heap := h', toks := tk }) :
    wpAny (model prog w) A (call (.type "set") [.ref l]) Q E s := by
  obtain ⟨c, tl, hmro⟩ := F.called_set.mro
  have made := F.called_set.made
  have sub := F.called_set.sub
  refine wpAny_call (codeAny_of_tree ?_)
  show wpAny _ _ (callAny (.type "set") _) _ _ _
  refine wpAny_pure ⟨Code.quiet_builtin _ (by decide +kernel), codeAny_builtin F.entry_type_call ?_⟩
  rw [Around.under_plain (weight_type_call_type "set" [.ref l] []) rfl]
  have g1 := F.called_set.notType
  have g2 := F.called_set.canCreate
  have g3 := F.typeCall_set_1 (.ref l)
  repeat (any_goals (first | assumption | wp_step))
  refine codeAny_mono (set_new_code (.ref l) (E := E) (Q₁ := fun u s1 => u = .ref s.heap.objs.size /\ s1 = { s with heap := s.heap.push (emptySet w) }) ⟨rfl, rfl⟩) fun r s1 hr => ?_
  cases r with
  | error e => exact hr
  | ok fl =>
    cases fl with
    | ret obj =>
      obtain ⟨rfl, rfl⟩ := hr
      have hS : (s.heap.push (emptySet w)).get? s.heap.objs.size = some (emptySet w) := Heap.get?_push_size _ rfl
      have hT : Shared.TypeIs { s with heap := s.heap.push (emptySet w) } (.ref s.heap.objs.size) "set" := ⟨_, hS, rfl⟩
      have hT' : ∀ {k : Nat}, Shared.TypeIs { s with heap := s.heap.push (emptySet w), toks := k } (.ref s.heap.objs.size) "set" := ⟨_, hS, rfl⟩
      have li := F.called_set.init.lookup
      have bi := F.called_set.init.bind (.ref s.heap.objs.size)
      repeat (any_goals (first | assumption | wp_step))
      refine codeAny_mono (codeAny_call_builtin (R := wants (fun r s2 => r = .none /\ ∃ h' tk, s2 = { s with heap := h', toks := tk } /\ SetS prog w h' s.heap.objs.size zs /\ (∀ b o, s.heap.get? b = some o -> h'.get? b = some o)) E) F.called_set.init.plain F.entry_set_init (check_set_init_1 hT ?_)) fun r2 s2 hr2 => ?_
      · obtain ⟨ol, hol, hcl, nl, hdl⟩ := hl
        obtain ⟨oc, od, oda, os⟩ := ol
        simp only at hcl hdl
        subst hcl; subst hdl
        have hol' : (s.heap.push (emptySet w)).get? l = some { cls := .type "list", dict := od, data := .seq its nl, slots := os } := Heap.get?_push_of_some _ hol
        have e1 := F.sub_list_set
        have e2 := F.sub_list_frozenset
        have e3 : (Value.type "list" == Value.type "dict") = false := by decide
        have hl1 : (s.heap.push (emptySet w)).IsList l its := ⟨_, hol', rfl, nl, rfl⟩
        unfold Builtin.«set.__init__» noKeywords Builtin.Frozenset.updateFrom
        generalize hPI : pyIter = PI
        wp_walk
        subst hPI
        refine wpAny_pyIter_list hl1 (wpAny_bind (wpAny_runValue ?_))
        have lS : l < s.heap.objs.size := Heap.lt_size hol
        have hh3 : A.in1.in1.in1.handled = none := by simp [hh]
        have nI : l ≠ (s.heap.push (emptySet w)).objs.size := by rw [Heap.size_push]; exact Nat.ne_of_lt (Nat.lt_succ_of_lt lS)
        have nS : s.heap.objs.size ∉ [(s.heap.push (emptySet w)).objs.size, l] := by
          rw [Heap.size_push]
          simp only [List.mem_cons, List.not_mem_nil, or_false, not_or]
          exact ⟨Nat.ne_of_lt (Nat.lt_succ_self _), Nat.ne_of_gt lS⟩
        have len : its.size = zs.length := by rw [<- Array.length_toList]; exact hi.length
        have val : ∀ (i : Nat) (v : Value), its[i]? = some v -> ∃ (x : Str) (t : Tok), zs[i]? = some x /\ v = .str x t := fun i v e => strsAre_at hi (by rw [Array.getElem?_toList]; exact e)
        refine set_fill ((Walks.list hh3 _ l nI its).toS) s.heap.objs.size nS zs len val hb (its.size - 0) 0 _ (by lia) (Nat.zero_le _) ⟨⟨_, Heap.get?_push_size _ rfl, rfl, rfl⟩, (hl1.push _)⟩ ?start ?fin
        case start =>
          rw [List.take_zero]
          exact emptySet_is (Heap.get?_push_of_some _ hS)
        case fin =>
          intro s' m hs'
          obtain ⟨h', g', d', tk', os'⟩ := s'
          have eg : g' = s.gens := m.gens
          have ed : d' = s.drawn := m.drawn
          have eo : os' = s.os := m.os
          subst eg; subst ed; subst eo
          refine wpAny_pure ?_
          show wpAny _ _ (ret Value.none) _ _ _
          refine wpAny_pure ⟨rfl, h', tk', rfl, hs', fun b o e => ?_⟩
          have lb := Heap.lt_size e
          refine m.heap b o ?_ (Heap.get?_push_of_some _ (Heap.get?_push_of_some _ e))
          simp only [List.mem_cons, List.not_mem_nil, or_false, not_or]
          exact ⟨Nat.ne_of_lt lb, by rw [Heap.size_push]; exact Nat.ne_of_lt (Nat.lt_succ_of_lt lb)⟩
      · cases r2 with
        | error e => exact hr2
        | ok f2 =>
          cases f2 with
          | ret r =>
            obtain ⟨rfl, h', tk, rfl, hs', k⟩ := hr2
            repeat (any_goals (first | assumption | wp_step))
            exact h _ _ hs' k
          | _ => exact hr2.elim
    | _ => exact hr.elim
end
end L2
end
section
namespace L2
open PySem PySem.Spec PyProof.Rows
theorem slot_sit : Slot "set_iterator" "__next__" "set_iterator.__next__" := .of (owner := "set_iterator") (n := "__next__") (by rw [typeLookup_type, builtinLookup_eq_fast]; kernel_rfl) (by decide +kernel) (by decide +kernel) (by decide +kernel) (by first | exact .inl (by decide +kernel) | exact .inr (by decide +kernel)) (by rw [isSubtype_type]; kernel_rfl)
theorem slot_siti : Slot "set_iterator" "__iter__" "set_iterator.__iter__" := .of (owner := "set_iterator") (n := "__iter__") (by rw [typeLookup_type, builtinLookup_eq_fast]; kernel_rfl) (by decide +kernel) (by decide +kernel) (by decide +kernel) (by first | exact .inl (by decide +kernel) | exact .inr (by decide +kernel)) (by rw [isSubtype_type]; kernel_rfl)
theorem entry_sit : entryFor table "set_iterator.__next__" = some Builtin.«set_iterator.__next__» := entryFor_of_tree (by kernel_rfl)
theorem owner_sit : Manifest.owners.lookup (String.ofList ['r', 'o', 't', 'a', 'r', 'e', 't', 'i', '_', 't', 'e', 's'].reverse) = some Manifest.sig_set_iterator := by kernel_rfl
theorem args_sit (a : Value) : argsOk "set_iterator.__next__" ⟨[a], []⟩ := by
  unfold argsOk; rw [signature?_of (id := "set_iterator.__next__") (n := ['_', '_', 't', 'x', 'e', 'n', '_', '_']) (o := ['r', 'o', 't', 'a', 'r', 'e', 't', 'i', '_', 't', 'e', 's']) (by kernel_rfl) owner_sit]; kernel_rfl
theorem entry_setiter : entryFor table "set.__iter__" = some Builtin.«frozenset.__iter__» := entryFor_alias (id' := "frozenset.__iter__") (by kernel_rfl) rfl (by decide +kernel) (by kernel_rfl)
theorem erase_perm {α : Type} : ∀ (l : List α) (i : Nat) (h : i < l.length), (l[i] :: l.eraseIdx i).Perm l
  | x :: l, 0, _ => .refl _
  | x :: l, i + 1, h => by
    have hi : i < l.length := by simpa using h
    have := erase_perm l i hi
    show (l[i] :: x :: l.eraseIdx i).Perm (x :: l)
    exact (List.Perm.swap x l[i] _).trans (List.Perm.cons x this)
section
variable {M : Model} {prog : Program} {w : World} {A : Around} {E : Value -> Shared -> Prop} {s : Shared}
theorem wp_choose' {src : Source} {n : Nat} {Q : Nat -> Shared -> Prop} (h0 : n ≠ 0) (h : ∀ i d, i < n -> Q i { s with drawn := d }) : wpAny M A (choose src n) Q E s := fun Γ p hΓ => by
  show Sem.wp M Γ (.choose src n .pure) _ _ p s
  rw [Sem.wp_choose]
  exact ⟨h0, h _ _ (Nat.mod_lt _ (by lia))⟩
theorem draw_order {α : Type} : ∀ (n : Nat) (xs : List α) (s : Shared) (Q : List α -> Shared -> Prop), xs.length = n -> (∀ ys d, ys.Perm xs -> Q ys { s with drawn := d }) -> wpAny M A (drawOrder n xs) Q E s
  | 0, xs, s, Q, hl, q => by
    have : xs = [] := List.length_eq_zero_iff.mp hl
    subst this
    exact wpAny_pure (q [] s.drawn (.refl _))
  | n + 1, [], s, Q, hl, q => by simp at hl
  | n + 1, x :: xs, s, Q, hl, q => by
    unfold drawOrder
    refine wpAny_bind (wp_choose' (by simp) fun i d hi => ?_)
    rw [List.getElem?_eq_getElem hi]
    dsimp only
    refine wpAny_bind (draw_order n _ _ _ (by rw [List.length_eraseIdx, if_pos hi]; simp at hl ⊢; lia) fun ys d' p => wpAny_pure (q _ d' ?_))
    exact (List.Perm.cons _ p).trans (erase_perm _ _ hi)
theorem pick_go {α : Type} (next : Nat -> Nat) : ∀ (fuel k : Nat) (left : List α) (out : Array α), left.length = fuel -> (pickOrder.go next fuel k left out).toList.Perm (out.toList ++ left)
  | 0, k, left, out, hl => by
    have : left = [] := List.length_eq_zero_iff.mp hl
    subst this
    unfold pickOrder.go
    simp
  | fuel + 1, k, left, out, hl => by
    have hi : next k % left.length < left.length := Nat.mod_lt _ (by lia)
    unfold pickOrder.go
    rw [List.getElem?_eq_getElem hi]
    dsimp only
    refine (pick_go next fuel (k + 1) _ _ (by rw [List.length_eraseIdx, if_pos hi]; lia)).trans ?_
    rw [Array.toList_push, List.append_assoc]
    exact List.Perm.append_left _ (erase_perm _ _ hi)
theorem pick_perm {α : Type} (next : Nat -> Nat) (xs : Array α) : (pickOrder next xs).toList.Perm xs.toList := by
  have := pick_go next xs.size 0 xs.toList #[] (by simp)
  simpa [pickOrder] using this
noncomputable def sIt (first : Value) (i : Nat) (a : Addr) (n ep : Nat) : Obj := { cls := .type "set_iterator", data := .fields #[first, .int i 0, .ref a, .int n 0, .int ep 0] }
theorem stop_end {α : Type} {Q' : α -> Shared -> Prop} {E' : Value -> Shared -> Prop} (hh : A.handled = none) (h : ∀ e h', Shared.TypeIs { s with heap := h' } e "StopIteration" -> (∀ b o, s.heap.get? b = some o -> h'.get? b = some o) -> E' e { s with heap := h' }) :
    wpAny (model prog w) A.in1 (newExc (.type "StopIteration") [] >>= fun e => (raiseNew e : Sem α)) Q' E' s := by
  refine wpAny_bind ?_
  simp only [newExc, newTuple]
  refine wpAny_bind (wpAny_newObj_type ?_ (by size_fits))
  refine wpAny_bind (m := firstArgMember _ _) (wpAny_of_eq (a := Value.none) (by first | rfl | (simp only [firstArgMember]; rfl)) (wpAny_newObj_type ?_ (by size_fits)))
  simp only [raiseNew]
  refine wpAny_bind (wpAny_handled ?_)
  rw [show A.in1.handled = none from hh]
  refine wpAny_bind (wpAny_pure (wpAny_throw (h (.ref _) _ ⟨_, Heap.get?_push_size _ rfl, rfl⟩ fun b o e => Heap.get?_push_of_some _ (Heap.get?_push_of_some _ e))))
noncomputable def SAt (h : Heap) (a : Addr) (es : Array (Int × Value)) (ep : Nat) (t : SetTable) : Prop := h.get? a = some { cls := .type "set", dict := none, data := .set es ep t, slots := #[] } /\ t.fits es.size = true
theorem set_entries {a : Addr} {es : Array (Int × Value)} {ep : Nat} {t : SetTable} {Q : Array (Int × Value) -> Shared -> Prop} (S : SAt s.heap a es ep t) (h : Q es s) : wpAny (model prog w) A (setEntries a) Q E s := by
  unfold setEntries
  exact wpAny_bind (wpAny_setState_of S.1 rfl S.2 (wpAny_pure h))
theorem fields_put {I : Addr} {vs : Array Value} {k : Nat} {v : Value} {Q : Unit -> Shared -> Prop} (ho : s.heap.get? I = some { cls := .type "set_iterator", data := .fields vs }) (hk : k < vs.size)
    (h : ∀ h', (∀ b o, b ≠ I -> s.heap.get? b = some o -> h'.get? b = some o) -> h'.get? I = some { cls := .type "set_iterator", data := .fields (vs.setIfInBounds k v) } -> Q () { s with heap := h' }) : wpAny (model prog w) A (setField (.ref I) k v) Q E s := by
  refine wpAny_setField ho rfl hk (h _ (fun b o hb e => ?_) ?_)
  · exact (Heap.get?_update_other _ _ (Ne.symm hb)).trans e
  · have := Heap.get?_update_self (Obj.mapFields (·.setIfInBounds k v)) ho (Obj.isFreed_of_fields (Obj.data_mapFields rfl _))
    rw [this]; rfl
theorem next_int {I a : Addr} {slot i n ep : Nat} {es : Array (Int × Value)} {t : SetTable} {r : Option (Value × Nat)} {Q : Option Value -> Shared -> Prop} (hh : A.handled = none) (hI : s.heap.get? I = some (sIt (.int slot 0) i a n ep)) (S : SAt s.heap a es ep t) (hn : es.size = n)
    (hr : ∀ (A' : Around) (E' : Value -> Shared -> Prop) (Q' : Option (Value × Nat) -> Shared -> Prop), Q' r s -> wpAny (model prog w) A' (setNext a slot i ep) Q' E' s)
    (h : match r with
      | some (x, nx) => ∀ h', (∀ b o, b ≠ I -> s.heap.get? b = some o -> h'.get? b = some o) -> h'.get? I = some (sIt (.int nx 0) (i + 1) a n ep) -> Q (some x) { s with heap := h' }
      | none => ∀ h', (∀ b o, b ≠ I -> s.heap.get? b = some o -> h'.get? b = some o) -> Q none { s with heap := h' }) : wpAny (model prog w) A (pyNext (.ref I)) Q E s := by
  have hT : s.TypeIs (.ref I) "set_iterator" := ⟨_, hI, rfl⟩
  unfold pyNext
  refine wpAny_bind (wpAny_attempt (wpAny_callSpecial?_slot (name := Str.ofString "__next__") hT slot_sit (wpAny_call_entry slot_sit hT entry_sit ?_ (args_sit _))))
  unfold Builtin.«set_iterator.__next__»
  refine wpAny_bind (wpAny_pure ?_)
  refine wpAny_bind (wpAny_fieldsOf hI rfl ?_)
  refine wpAny_bind (set_entries S ?_)
  rw [if_neg (by rw [hn]; simp)]
  refine wpAny_bind (hr _ _ _ ?_)
  have et : ((slot : Int)).toNat = slot := Int.toNat_natCast _
  cases r with
  | some p =>
    obtain ⟨x, nx⟩ := p
    dsimp only at h ⊢
    refine wpAny_bind (fields_put hI (by simp) fun h1 k1 i1 => wpAny_bind (fields_put (s := { s with heap := h1 }) i1 (by simp) fun h2 k2 i2 => ?_))
    exact wpAny_pure ⟨_, rfl, wpAny_pure (h h2 (fun b o hb e => k2 b o hb (k1 b o hb e)) (by rw [i2]; simp [sIt, rawInt]))⟩
  | none =>
    dsimp only at h ⊢
    refine wpAny_bind (fields_put hI (by simp) fun h1 k1 i1 => ?_)
    refine stop_end (s := { s with heap := h1 }) hh fun e h2 hT2 k2 => ?_
    refine wpAny_bind (wpAny_isInstance (T := "StopIteration") (b := true) hT2 isSubtype_stop ?_)
    exact wpAny_pure (h h2 fun b o hb e => k2 b o (k1 b o hb e))
end
end L2
end
section
namespace L2
open PySem PySem.Spec PyProof.Rows PySem.W
section
variable {prog : Program} {w : World} {A : Around} {E : Value -> Shared -> Prop} {s : Shared}
theorem next_ref {I a tp : Addr} {i n ep : Nat} {es : Array (Int × Value)} {t : SetTable} {vs : Array Value} {m : Nat} {Q : Option Value -> Shared -> Prop} (hh : A.handled = none) (hI : s.heap.get? I = some (sIt (.ref tp) i a n ep)) (S : SAt s.heap a es ep t) (hn : es.size = n)
    (hP : s.heap.get? tp = some { cls := .type "tuple", data := .seq vs m })
    (h : (∃ (j : Nat) (u : Tok) (e : Int × Value), vs[i]? = some (.int j u) /\ es[j]? = some e /\ ∀ h', (∀ b o, b ≠ I -> s.heap.get? b = some o -> h'.get? b = some o) -> h'.get? I = some (sIt (.ref tp) (i + 1) a n ep) -> Q (some e.2) { s with heap := h' }) \/
      (vs[i]? = none /\ ∀ h', (∀ b o, b ≠ I -> s.heap.get? b = some o -> h'.get? b = some o) -> Q none { s with heap := h' })) : wpAny (model prog w) A (pyNext (.ref I)) Q E s := by
  have hT : s.TypeIs (.ref I) "set_iterator" := ⟨_, hI, rfl⟩
  unfold pyNext
  refine wpAny_bind (wpAny_attempt (wpAny_callSpecial?_slot (name := Str.ofString "__next__") hT slot_sit (wpAny_call_entry slot_sit hT entry_sit ?_ (args_sit _))))
  unfold Builtin.«set_iterator.__next__»
  refine wpAny_bind (wpAny_pure ?_)
  refine wpAny_bind (wpAny_fieldsOf hI rfl ?_)
  refine wpAny_bind (set_entries S ?_)
  rw [if_neg (by rw [hn]; simp)]
  dsimp only
  refine wpAny_bind (wpAny_seqItems hP rfl ?_)
  dsimp only
  rw [Int.toNat_natCast]
  rcases h with ⟨j, u, e, h1, h2, h3⟩ | ⟨h1, h2⟩
  · rw [h1]
    dsimp only
    rw [Int.toNat_natCast, Int.toNat_natCast]
    have sn : ∀ {R : Value -> Shared -> Prop} {E' : Value -> Shared -> Prop} {A' : Around}, R e.2 s -> wpAny (model prog w) A' (setNextDrawn a j ep) R E' s := fun {R E' A'} q => by
      unfold setNextDrawn
      refine wpAny_bind (wpAny_setState_of S.1 rfl S.2 ?_)
      dsimp only
      rw [if_neg (by simp), h2]
      exact wpAny_bind (wpAny_pure (wpAny_pure q))
    refine wpAny_bind (sn (wpAny_bind (fields_put hI (by simp) fun h' k1 i1 => ?_)))
    exact wpAny_pure ⟨_, rfl, wpAny_pure (h3 h' k1 (by rw [i1]; simp [sIt, rawInt]))⟩
  · rw [h1]
    dsimp only
    refine wpAny_bind (fields_put hI (by simp) fun h3 k3 i3 => wpAny_bind (fields_put (s := { s with heap := h3 }) i3 (by simp) fun h4 k4 i4 => ?_))
    refine stop_end (s := { s with heap := h4 }) hh fun e h5 hT2 k5 => ?_
    refine wpAny_bind (wpAny_isInstance (T := "StopIteration") (b := true) hT2 isSubtype_stop ?_)
    exact wpAny_pure (h2 h5 fun b o hb e => k5 b o (k4 b o hb (k3 b o hb e)))
theorem by_text {Q : Bool -> Shared -> Prop} (h : Q (w.params.followText "set-order") s) : wpAny (model prog w) A setsByText Q E s := by
  unfold setsByText
  exact wpAny_bind (wpAny_askSetting (wpAny_pure h))
theorem siti_self {I : Addr} {o : Obj} {Q : Value -> Shared -> Prop} (hI : s.heap.get? I = some o) (hc : o.cls = .type "set_iterator") (h : Q (.ref I) s) : wpAny (model prog w) A (pyIter (.ref I)) Q E s := by
  have hT : s.TypeIs (.ref I) "set_iterator" := ⟨_, hI, hc⟩
  have ent : entryFor table "set_iterator.__iter__" = some Builtin.«dict_keyiterator.__iter__» := entryFor_alias (id' := "dict_keyiterator.__iter__") (by kernel_rfl) rfl (by decide +kernel) (by kernel_rfl)
  have arg : argsOk "set_iterator.__iter__" ⟨[.ref I], []⟩ := by
    unfold argsOk; rw [signature?_of (id := "set_iterator.__iter__") (n := ['_', '_', 'r', 'e', 't', 'i', '_', '_']) (o := ['r', 'o', 't', 'a', 'r', 'e', 't', 'i', '_', 't', 'e', 's']) (by kernel_rfl) owner_sit]; kernel_rfl
  refine wpAny_pyIter_slot hT slot_siti (wpAny_call_entry slot_siti hT ent ?_ arg)
  unfold Builtin.«dict_keyiterator.__iter__»
  refine wpAny_bind (wpAny_pure ?_)
  exact wpAny_pure ⟨_, rfl, "set_iterator", _, hT, slot_sit.lookup, h⟩
theorem walk_text {I a : Addr} (hne : a ≠ I) {es : Array (Int × Value)} {ep : Nat} {t : SetTable} (bt : w.params.followText "set-order" = true) (hh : A.handled = none) :
    WalksS prog w A I [I, a] [I] (fun x y => y = x) es.size (fun i v => ((pickOrder (w.params.setOrder a ep) es).toList.map (·.2))[i]? = some v) (fun i s => s.heap.get? I = some (sIt (.int 0 0) i a es.size ep) /\ SAt s.heap a es ep t) where
  sub := fun b hb => by simp at hb; simp [hb]
  grefl := fun _ => rfl
  gtrans := fun _ _ _ h1 h2 => h2.trans h1
  frame := fun i s h' tk st _ k => ⟨k I (by simp) _ st.1, k a (by simp) _ st.2.1, st.2.2⟩
  item := fun i s Q E hi st q => by
    have hs : (pickOrder (w.params.setOrder a ep) es).toList.length = es.size := by rw [(pick_perm _ es).length_eq, Array.length_toList]
    have hi' : i < (pickOrder (w.params.setOrder a ep) es).toList.length := by lia
    have hx : (pickOrder (w.params.setOrder a ep) es)[i]? = some ((pickOrder (w.params.setOrder a ep) es).toList[i]) := by rw [<- Array.getElem?_toList]; exact List.getElem?_eq_getElem hi'
    refine next_int (slot := 0) (r := some (((pickOrder (w.params.setOrder a ep) es).toList[i]).2, 0)) hh st.1 st.2 rfl (fun A' E' Q' q' => ?_) fun h' k hI => ?_
    · unfold setNext
      refine wpAny_bind (wpAny_setState_of st.2.1 rfl st.2.2 (wpAny_bind (by_text ?_)))
      rw [bt, if_pos rfl, if_neg (by simp)]
      unfold setWalk
      refine wpAny_bind (wpAny_bind (wpAny_setState_of st.2.1 rfl st.2.2 (wpAny_bind (by_text ?_))))
      rw [bt, if_pos rfl]
      refine wpAny_bind (wpAny_askSetting (wpAny_pure (wpAny_pure ?_)))
      show Q' (((pickOrder (w.params.setOrder a ep) es)[i]?).map fun e => (e.2, 0)) s
      rw [hx]; exact q'
    · refine q _ _ ?_ ⟨hI, k a _ hne st.2.1, st.2.2⟩ ⟨fun b o hb e => k b o (fun z => hb (by simp [z])) e, rfl, rfl, rfl, Nat.le_refl _⟩
      rw [List.getElem?_map, List.getElem?_eq_getElem hi']; rfl
  done := fun s Q E st q => by
    have hs : (pickOrder (w.params.setOrder a ep) es).toList.length = es.size := by rw [(pick_perm _ es).length_eq, Array.length_toList]
    have hx : (pickOrder (w.params.setOrder a ep) es)[es.size]? = none := by rw [<- Array.getElem?_toList]; exact List.getElem?_eq_none (by lia)
    refine next_int (slot := 0) (r := none) hh st.1 st.2 rfl (fun A' E' Q' q' => ?_) fun h' k => q _ ⟨fun b o hb e => k b o (fun z => hb (by simp [z])) e, rfl, rfl, rfl, Nat.le_refl _⟩
    unfold setNext
    refine wpAny_bind (wpAny_setState_of st.2.1 rfl st.2.2 (wpAny_bind (by_text ?_)))
    rw [bt, if_pos rfl, if_neg (by simp)]
    unfold setWalk
    refine wpAny_bind (wpAny_bind (wpAny_setState_of st.2.1 rfl st.2.2 (wpAny_bind (by_text ?_))))
    rw [bt, if_pos rfl]
    refine wpAny_bind (wpAny_askSetting (wpAny_pure (wpAny_pure ?_)))
    show Q' (((pickOrder (w.params.setOrder a ep) es)[es.size]?).map fun e => (e.2, 0)) s
    rw [hx]; exact q'
  self := fun i s Q E st q => siti_self st.1 rfl q
theorem walk_one {I a : Addr} (hne : a ≠ I) {es : Array (Int × Value)} {ep : Nat} {t : SetTable} (bt : w.params.followText "set-order" = false) (led : t.led = true) (h1 : es.size <= 1) (hh : A.handled = none) :
    WalksS prog w A I [I, a] [I] (fun x y => y = x) es.size (fun i v => (es.toList.map (·.2))[i]? = some v) (fun i s => s.heap.get? I = some (sIt (.int (if i = 0 then 0 else t.place.getD 0 0 + 1 : Nat) 0) i a es.size ep) /\ SAt s.heap a es ep t) where
  sub := fun b hb => by simp at hb; simp [hb]
  grefl := fun _ => rfl
  gtrans := fun _ _ _ h1 h2 => h2.trans h1
  frame := fun i s h' tk st _ k => ⟨k I (by simp) _ st.1, k a (by simp) _ st.2.1, st.2.2⟩
  item := fun i s Q E hi st q => by
    obtain rfl : i = 0 := by lia
    have hz : es.size = 1 := by lia
    have hp : t.place.size = 1 := by
      have := st.2.2
      simp only [SetTable.fits, Bool.and_eq_true, beq_iff_eq] at this
      lia
    have hdr : (!t.plain && decide (es.size > 1)) = false := by rw [hz]; simp
    refine next_int (slot := 0) (r := some ((es[0]'(by lia)).2, t.place.getD 0 0 + 1)) hh (by simpa using st.1) st.2 rfl (fun A' E' Q' q' => ?_) fun h' k hI => ?_
    · unfold setNext
      refine wpAny_bind (wpAny_setState_of st.2.1 rfl st.2.2 (wpAny_bind (by_text ?_)))
      rw [bt, if_neg Bool.false_ne_true]
      dsimp only
      refine wpAny_ite_split (fun z => absurd (hdr.symm.trans (show (!t.plain && decide (es.size > 1)) = true from z)) Bool.false_ne_true) (fun _ => ?_)
      refine wpAny_bind ?_
      show wpAny _ _ (if (!t.led && !es.isEmpty) = true then _ else pure PUnit.unit) _ _ s
      rw [led, if_neg (by simp)]
      refine wpAny_pure (wpAny_pure ?_)
      have eb : SetTable.below t.place 0 = 0 := by
        unfold SetTable.below
        rw [hp]
        simp [SetTable.below.go]
      rw [eb, Array.getElem?_eq_getElem (show 0 < es.size by lia), Array.getElem?_eq_getElem (show 0 < t.place.size by lia)]
      have eg : t.place.getD 0 0 = t.place[0]'(by lia) := by rw [Array.getD_eq_getD_getElem?, Array.getElem?_eq_getElem (show 0 < t.place.size by lia)]; rfl
      rw [eg] at q'
      exact q'
    · refine q _ _ ?_ ⟨by rw [if_neg (by lia)]; exact hI, k a _ hne st.2.1, st.2.2⟩ ⟨fun b o hb e => k b o (fun z => hb (by simp [z])) e, rfl, rfl, rfl, Nat.le_refl _⟩
      rw [List.getElem?_map, Array.getElem?_toList, Array.getElem?_eq_getElem (show 0 < es.size by lia)]; rfl
  done := fun s Q E st q => by
    have hp : t.place.size = es.size := by
      have := st.2.2
      simp only [SetTable.fits, Bool.and_eq_true, beq_iff_eq] at this
      lia
    have hdr : (!t.plain && decide (es.size > 1)) = false := by simp; lia
    refine next_int (r := none) hh st.1 st.2 rfl (fun A' E' Q' q' => ?_) fun h' k => q _ ⟨fun b o hb e => k b o (fun z => hb (by simp [z])) e, rfl, rfl, rfl, Nat.le_refl _⟩
    unfold setNext
    refine wpAny_bind (wpAny_setState_of st.2.1 rfl st.2.2 (wpAny_bind (by_text ?_)))
    rw [bt, if_neg Bool.false_ne_true]
    dsimp only
    refine wpAny_ite_split (fun z => absurd (hdr.symm.trans (show (!t.plain && decide (es.size > 1)) = true from z)) Bool.false_ne_true) (fun _ => ?_)
    refine wpAny_bind ?_
    show wpAny _ _ (if (!t.led && !es.isEmpty) = true then _ else pure PUnit.unit) _ _ s
    rw [led, if_neg (by simp)]
    refine wpAny_pure (wpAny_pure ?_)
    have eb : SetTable.below t.place (if es.size = 0 then 0 else t.place.getD 0 0 + 1) = es.size := by
      rcases Nat.lt_or_ge es.size 1 with hz | hz
      · have z0 : es.size = 0 := by lia
        unfold SetTable.below
        rw [hp, z0]
        simp [SetTable.below.go]
      · have z1 : es.size = 1 := by lia
        have eg : ∀ d, t.place.getD 0 d = t.place[0]'(by lia) := fun d => by rw [Array.getD_eq_getD_getElem?, Array.getElem?_eq_getElem (show 0 < t.place.size by lia)]; rfl
        unfold SetTable.below
        rw [hp, z1]
        simp [SetTable.below.go, eg]
    rw [eb, Array.getElem?_eq_none (Nat.le_refl _)]
    exact q'
  self := fun i s Q E st q => siti_self st.1 rfl q
theorem walk_drawn {I a tp : Addr} (hne : a ≠ I) (hnt : tp ≠ I) {es : Array (Int × Value)} {ep m : Nat} {t : SetTable} {ps : List Nat} (hp : ps.Perm (List.range es.size)) (hh : A.handled = none) :
    WalksS prog w A I [I, a, tp] [I] (fun x y => y = x) es.size (fun i v => (ps.map fun j => (es.getD j (0, .none)).2)[i]? = some v)
      (fun i s => s.heap.get? I = some (sIt (.ref tp) i a es.size ep) /\ SAt s.heap a es ep t /\ s.heap.get? tp = some { cls := .type "tuple", data := .seq (ps.map fun i => rawInt (i : Nat)).toArray m }) where
  sub := fun b hb => by simp at hb; simp [hb]
  grefl := fun _ => rfl
  gtrans := fun _ _ _ h1 h2 => h2.trans h1
  frame := fun i s h' tk st _ k => ⟨k I (by simp) _ st.1, ⟨k a (by simp) _ st.2.1.1, st.2.1.2⟩, k tp (by simp) _ st.2.2⟩
  item := fun i s Q E hi st q => by
    have hl : ps.length = es.size := by rw [hp.length_eq, List.length_range]
    have hi' : i < ps.length := by lia
    have hj : ps[i] < es.size := List.mem_range.mp (hp.mem_iff.mp (List.getElem_mem hi'))
    refine next_ref hh st.1 st.2.1 rfl st.2.2 (.inl ⟨ps[i], 0, es[ps[i]], ?_, Array.getElem?_eq_getElem hj, fun h' k hI => ?_⟩)
    · simp [List.getElem?_eq_getElem hi', rawInt]
    · refine q _ _ ?_ ⟨hI, ⟨k a _ hne st.2.1.1, st.2.1.2⟩, k tp _ hnt st.2.2⟩ ⟨fun b o hb e => k b o (fun z => hb (by simp [z])) e, rfl, rfl, rfl, Nat.le_refl _⟩
      rw [List.getElem?_map, List.getElem?_eq_getElem hi']
      simp [Array.getD_eq_getD_getElem?, Array.getElem?_eq_getElem hj]
  done := fun s Q E st q => by
    have hl : ps.length = es.size := by rw [hp.length_eq, List.length_range]
    refine next_ref hh st.1 st.2.1 rfl st.2.2 (.inr ⟨?_, fun h' k => q _ ⟨fun b o hb e => k b o (fun z => hb (by simp [z])) e, rfl, rfl, rfl, Nat.le_refl _⟩⟩)
    simp [hl]
  self := fun i s Q E st q => siti_self st.1 rfl q
end
end L2
end
section
namespace L2
open PySem PySem.Spec PyProof.Rows PySem.W
section
variable {prog : Program} {w : World} {A : Around} {E : Value -> Shared -> Prop} {s : Shared}
theorem iter_set {a : Addr} {zs : List Str} {Q : Value -> Shared -> Prop} (S : SetS prog w s.heap a zs)
    (h : ∀ (I : Addr) (h' : Heap) (d : Drawn) (fp : List Addr) (St : Nat -> Shared -> Prop) (os : List Value), (∀ b o, s.heap.get? b = some o -> h'.get? b = some o) -> (∀ b ∈ fp, s.heap.objs.size <= b \/ b = a) -> s.heap.objs.size <= I ->
      (∃ ys : List Str, StrsAre os ys /\ ys.Nodup /\ ∀ x, x ∈ ys ↔ x ∈ zs) -> (∀ A' : Around, A'.handled = none -> WalksS prog w A' I fp [I] (fun x y => y = x) os.length (fun i v => os[i]? = some v) St) -> (∀ tk, St 0 { s with heap := h', drawn := d, toks := tk }) -> Q (.ref I) { s with heap := h', drawn := d }) :
    wpAny (model prog w) A (pyIter (.ref a)) Q E s := by
  obtain ⟨es, ep, t, ho, hel, hf, hled, hpl, hsz, nd, hm⟩ := S
  have hT : s.TypeIs (.ref a) "set" := ⟨_, ho, rfl⟩
  have S0 : SAt s.heap a es ep t := ⟨ho, hf⟩
  have la : a < s.heap.objs.size := Heap.lt_size ho
  have vals : ∀ os : List Value, os.Perm (es.toList.map (·.2)) -> ∃ ys : List Str, StrsAre os ys /\ ys.Nodup /\ ∀ x, x ∈ ys ↔ x ∈ zs := fun os p => by
    have all : ∀ v ∈ os, ∃ u, v = .str (valS v) u := fun v hv => by
      obtain ⟨e, he, rfl⟩ := List.mem_map.mp (p.mem_iff.mp hv)
      obtain ⟨u, h1, _⟩ := elem_str hel he
      exact ⟨u, h1⟩
    have are : ∀ l : List Value, (∀ v ∈ l, ∃ u, v = .str (valS v) u) -> StrsAre l (l.map valS) := by
      intro l
      induction l with
      | nil => intro _; exact .nil
      | cons v l ih =>
        intro hv
        obtain ⟨u, e⟩ := hv v List.mem_cons_self
        have := ih fun x hx => hv x (List.mem_cons_of_mem _ hx)
        rw [List.map_cons]
        rw [e]
        exact .cons _ u this
    have pp : (os.map valS).Perm (strsOf es.toList) := by
      have := p.map valS
      rw [List.map_map] at this
      exact this
    exact ⟨os.map valS, are os all, pp.nodup_iff.mpr nd, fun x => (pp.mem_iff).trans (hm x)⟩
  refine wpAny_pyIter_slot hT F.slot_set_iter (wpAny_call_entry F.slot_set_iter hT entry_setiter ?_ (F.args_set_iter_1 _))
  unfold Builtin.«frozenset.__iter__» Builtin.Frozenset.slot0
  refine wpAny_bind (wpAny_pure ?_)
  unfold Builtin.Frozenset.sizeOf
  refine wpAny_bind (wpAny_bind (set_entries S0 (wpAny_pure ?_)))
  unfold setDrawn
  refine wpAny_bind (wpAny_bind (wpAny_setState_of S0.1 rfl S0.2 (wpAny_bind (by_text (wpAny_pure ?_)))))
  have size_ne : a ≠ s.heap.objs.size := Nat.ne_of_lt la
  cases bt : w.params.followText "set-order" with
  | true =>
    refine wpAny_ite_split (fun z => absurd z (by simp)) (fun _ => ?_)
    refine wpAny_bind (wpAny_pure ?_)
    refine wpAny_bind (wpAny_setEpoch_of S0.1 rfl S0.2 ?_)
    unfold newFields
    refine wpAny_bind (wpAny_newObj_type (wpAny_pure ⟨_, rfl, "set_iterator", _, ⟨_, Heap.get?_push_size _ rfl, rfl⟩, slot_sit.lookup, ?_⟩) (by size_fits))
    have pp := (pick_perm (w.params.setOrder a ep) es).map (·.2)
    have ol : ((pickOrder (w.params.setOrder a ep) es).toList.map (·.2)).length = es.size := by rw [pp.length_eq]; simp
    refine h s.heap.objs.size _ s.drawn [s.heap.objs.size, a] (fun i s' => s'.heap.get? s.heap.objs.size = some (sIt (.int 0 0) i a es.size ep) /\ SAt s'.heap a es ep t) ((pickOrder (w.params.setOrder a ep) es).toList.map (·.2)) (fun b o e => Heap.get?_push_of_some _ e) (fun b hb => ?_) (Nat.le_refl _) (vals _ pp) (fun A' hA => by rw [ol]; exact walk_text size_ne (t := t) bt hA) (fun tk => ⟨Heap.get?_push_size _ rfl, Heap.get?_push_of_some _ S0.1, S0.2⟩)
    simp at hb
    rcases hb with rfl | rfl
    · exact .inl (Nat.le_refl _)
    · exact .inr rfl
  | false =>
    rw [bt] at hled
    rcases Nat.lt_or_ge 1 es.size with h2 | h1
    · have pl : t.plain = false := by
        rcases hpl with z | z
        · exact z
        · rw [z] at h2; simp at h2
      refine wpAny_ite_split (fun _ => ?_) (fun z => absurd (show (!false && (!t.plain && decide (es.size > 1))) = true by rw [pl]; simp; lia) z)
      refine wpAny_bind (draw_order es.size (List.range es.size) s _ (by simp) fun ps d hp => ?_)
      refine wpAny_bind (wpAny_newTuple ?_ (by rw [List.length_map, hp.length_eq, List.length_range]; exact fits_of_scanBound (by show es.size < 4096; lia)))
      have o1 : ∀ {o : Obj} {b : Addr}, s.heap.get? b = some o -> (s.heap.push { cls := .type "tuple", data := .seq (ps.map fun (i : Nat) => rawInt i).toArray }).get? b = some o := fun e => Heap.get?_push_of_some _ e
      refine wpAny_bind (wpAny_setEpoch_of (o1 S0.1) rfl S0.2 ?_)
      unfold newFields
      refine wpAny_bind (wpAny_newObj_type (wpAny_pure ⟨_, rfl, "set_iterator", _, ⟨_, Heap.get?_push_size _ rfl, rfl⟩, slot_sit.lookup, ?_⟩) (by size_fits))
      have hl : ps.length = es.size := by rw [hp.length_eq, List.length_range]
      have pp : (ps.map fun j => (es.getD j (0, .none)).2).Perm (es.toList.map (·.2)) := by
        refine (hp.map _).trans ?_
        have e : (List.range es.size).map (fun j => (es.getD j (0, .none)).2) = es.toList.map (·.2) := by
          refine List.ext_getElem? fun i => ?_
          rw [List.getElem?_map, List.getElem?_map]
          by_cases hi : i < es.size
          · have a1 : (List.range es.size)[i]? = some i := by simp [hi]
            have a2 : es.toList[i]? = some es[i] := by simp [hi]
            rw [a1, a2]
            simp [Array.getD_eq_getD_getElem?, Array.getElem?_eq_getElem hi]
          · have a1 : (List.range es.size)[i]? = none := by simp; lia
            have a2 : es.toList[i]? = none := by simp; lia
            rw [a1, a2]; rfl
        rw [e]
      have sz1 : (s.heap.push { cls := .type "tuple", data := .seq (ps.map fun (i : Nat) => rawInt i).toArray }).objs.size = s.heap.objs.size + 1 := Heap.size_push _ _
      have n1 : a ≠ (s.heap.push { cls := .type "tuple", data := .seq (ps.map fun (i : Nat) => rawInt i).toArray }).objs.size := by rw [sz1]; exact Nat.ne_of_lt (Nat.lt_succ_of_lt la)
      have n2 : s.heap.objs.size ≠ (s.heap.push { cls := .type "tuple", data := .seq (ps.map fun (i : Nat) => rawInt i).toArray }).objs.size := by rw [sz1]; exact Nat.ne_of_lt (Nat.lt_succ_self _)
      refine h (s.heap.push { cls := .type "tuple", data := .seq (ps.map fun (i : Nat) => rawInt i).toArray }).objs.size _ d [(s.heap.push { cls := .type "tuple", data := .seq (ps.map fun (i : Nat) => rawInt i).toArray }).objs.size, a, s.heap.objs.size]
        (fun i s' => s'.heap.get? (s.heap.push { cls := .type "tuple", data := .seq (ps.map fun (i : Nat) => rawInt i).toArray }).objs.size = some (sIt (.ref s.heap.objs.size) i a es.size ep) /\ SAt s'.heap a es ep t /\ s'.heap.get? s.heap.objs.size = some { cls := .type "tuple", data := .seq (ps.map fun i => rawInt (i : Nat)).toArray 0 })
        (ps.map fun j => (es.getD j (0, .none)).2) (fun b o e => Heap.get?_push_of_some _ (o1 e)) (fun b hb => ?_) (by rw [sz1]; exact Nat.le_succ _) (vals _ pp) (fun A' hA => by rw [List.length_map, hl]; exact walk_drawn (m := 0) n1 n2 (t := t) (ep := ep) hp hA) (fun tk => ⟨Heap.get?_push_size _ rfl, ⟨Heap.get?_push_of_some _ (o1 S0.1), S0.2⟩, Heap.get?_push_of_some _ (Heap.get?_push_size _ rfl)⟩)
      simp only [List.mem_cons, List.not_mem_nil, or_false] at hb
      rcases hb with rfl | rfl | rfl
      · exact .inl (by rw [sz1]; exact Nat.le_succ _)
      · exact .inr rfl
      · exact .inl (Nat.le_refl _)
    · refine wpAny_ite_split (fun z => absurd (show (!false && (!t.plain && decide (es.size > 1))) = true from z) (by simp; lia)) (fun _ => ?_)
      refine wpAny_bind (wpAny_pure ?_)
      refine wpAny_bind (wpAny_setEpoch_of S0.1 rfl S0.2 ?_)
      unfold newFields
      refine wpAny_bind (wpAny_newObj_type (wpAny_pure ⟨_, rfl, "set_iterator", _, ⟨_, Heap.get?_push_size _ rfl, rfl⟩, slot_sit.lookup, ?_⟩) (by size_fits))
      have ol : (es.toList.map (·.2)).length = es.size := by simp
      refine h s.heap.objs.size _ s.drawn [s.heap.objs.size, a] (fun i s' => s'.heap.get? s.heap.objs.size = some (sIt (.int (if i = 0 then 0 else t.place.getD 0 0 + 1 : Nat) 0) i a es.size ep) /\ SAt s'.heap a es ep t) (es.toList.map (·.2)) (fun b o e => Heap.get?_push_of_some _ e) (fun b hb => ?_) (Nat.le_refl _) (vals _ (.refl _)) (fun A' hA => by rw [ol]; exact walk_one size_ne (t := t) bt (by simpa using hled) h1 hA) (fun tk => ⟨Heap.get?_push_size _ rfl, Heap.get?_push_of_some _ S0.1, S0.2⟩)
      simp at hb
      rcases hb with rfl | rfl
      · exact .inl (Nat.le_refl _)
      · exact .inr rfl
theorem hint_set {r : Addr} {Q : Bool -> Shared -> Prop} (hT : s.TypeIs (.ref r) "set") (h : Q false s) : wpAny (model prog w) A (Builtin.List.listLengthHint (.ref r)) Q E s := by
  unfold Builtin.List.listLengthHint
  refine wpAny_bind (wpAny_specialOf hT PySem.F.slot_set_len.lookup ?_)
  generalize hid : ("set.__len__" : String) = id0
  wp_delta
  rw [show splitId id0 = some ("set", "__len__") from by subst hid; decide +kernel]
  subst hid
  refine wpAny_bind (wpAny_isInstance (T := "set") (b := true) hT (by rw [isSubtype_type]; kernel_rfl) ?_)
  refine wpAny_ite_split (fun z => absurd z (by decide)) (fun _ => wpAny_ite_split (fun _ => wpAny_bind (wpAny_typeOf hT (wpAny_pure h))) (fun z => absurd (by decide +kernel) z))
theorem collect_set {a : Addr} {zs : List Str} {R : List Value -> Shared -> Prop} (hh : A.handled = none) (S : SetS prog w s.heap a zs) (hz : zs.length < 3900)
    (h : ∀ (h' : Heap) (tk : Nat) (d : Drawn) (os : List Value) (ys : List Str), (∀ b o, s.heap.get? b = some o -> h'.get? b = some o) -> StrsAre os ys -> ys.Nodup -> (∀ x, x ∈ ys ↔ x ∈ zs) -> R os { s with heap := h', toks := tk, drawn := d }) :
    wpAny (model prog w) A (collect (.ref a)) R E s := by
  have la : a < s.heap.objs.size := let ⟨_, _, _, ho, _⟩ := S; Heap.lt_size ho
  unfold collect
  refine wpAny_bind (wpAny_runValue (codeAny_builtin entry_proto_collect' ?_))
  rw [Around.under_plainId PySem.F.plain_proto_collect _]
  show wpAny _ A.in1 (newList [] >>= fun u => again (.builtin "list.__iadd__" ⟨[u, .ref a], []⟩)) _ _ s
  refine wpAny_bind (wpAny_newObj_type (wpAny_pure ⟨plainId_quiet PySem.F.plain_list_iadd _, codeAny_builtin entry_list_iadd' ?_⟩))
  rw [Around.under_plainId PySem.F.plain_list_iadd _]
  have hL : (s.heap.push { cls := .type "list", data := .seq ([] : List Value).toArray }).get? s.heap.objs.size = some { cls := .type "list", data := .seq #[] } := Heap.get?_push_size _ rfl
  have S1 : SetS prog w (s.heap.push { cls := .type "list", data := .seq ([] : List Value).toArray }) a zs := S.at fun o e => Heap.get?_push_of_some _ e
  have hT : Shared.TypeIs { s with heap := s.heap.push { cls := .type "list", data := .seq ([] : List Value).toArray } } (.ref a) "set" := let ⟨_, _, _, ho, _⟩ := S1; ⟨_, ho, rfl⟩
  have sz1 : (s.heap.push { cls := .type "list", data := .seq ([] : List Value).toArray }).objs.size = s.heap.objs.size + 1 := Heap.size_push _ _
  have k0 : ∀ b o, s.heap.get? b = some o -> (s.heap.push { cls := .type "list", data := .seq ([] : List Value).toArray }).get? b = some o := fun b o e => Heap.get?_push_of_some _ e
  show wpAny _ A.in1 (Builtin.List.listExtendWith (.ref s.heap.objs.size) (.ref a) (.ref s.heap.objs.size)) _ _ _
  generalize s.heap.push { cls := .type "list", data := .seq ([] : List Value).toArray } = g1 at hL S1 hT sz1 k0 ⊢
  have nLa : s.heap.objs.size ≠ a := Nat.ne_of_gt la
  unfold Builtin.List.listExtendWith
  refine wpAny_bind (wpAny_typeOf (T := "set") hT ?_)
  have e1 : Builtin.List.listSameRef (.ref s.heap.objs.size) (.ref a) = false := by simp [Builtin.List.listSameRef, nLa]
  simp only [e1, show (Value.type "set" == Value.type "list") = false by decide, show (Value.type "set" == Value.type "tuple") = false by decide, Bool.or_false, Bool.false_eq_true, if_false]
  refine wpAny_bind (iter_set S1 fun I h2 d fp St os k2 hfp hI are W st => ?_)
  obtain ⟨ys, sa, nd, mem⟩ := are
  have hL2 := k2 _ _ hL
  have nf : s.heap.objs.size ∉ fp := fun z => by
    rcases hfp _ z with q | q
    · rw [sz1] at q; lia
    · exact nLa q
  have nI : s.heap.objs.size ≠ I := by rw [sz1] at hI; lia
  have hT2 : Shared.TypeIs { s with heap := h2, drawn := d } (.ref a) "set" := let ⟨_, _, _, ho, _⟩ := S1; ⟨_, k2 _ _ ho, rfl⟩
  refine wpAny_bind (wpAny_holding (hint_set hT2 ?_))
  have lo : os.length = ys.length := sa.length
  have fit : os.length <= sizeLine := by
    have := List.Nodup.length_le_of_subset nd fun y hy => (mem y).mp hy
    exact Nat.le_trans (show os.length <= 4000 by lia) (by decide)
  have key : ∀ (g : Heap) (c tk : Nat), St 0 { s with heap := g, drawn := d, toks := tk } -> (∀ b o, b ≠ s.heap.objs.size -> h2.get? b = some o -> g.get? b = some o) -> g.get? s.heap.objs.size = some { cls := .type "list", data := .seq #[] c } ->
      codeAny (model prog w) A (.builtin "list.extend.loop" ⟨[.ref s.heap.objs.size, .ref I, .ref s.heap.objs.size], []⟩) (fun r s' => ∃ (h' : Heap) (tk : Nat) (acc : Array Value) (c' : Nat), r = .ok (.ret (.ref s.heap.objs.size)) /\ s' = { s with heap := h', toks := tk, drawn := d } /\ (∀ b o, s.heap.get? b = some o -> h'.get? b = some o) /\
        h'.get? s.heap.objs.size = some { cls := .type "list", dict := none, data := .seq acc c', slots := #[] } /\ ItemsOf (fun i v => os[i]? = some v) acc os.length) { s with heap := g, drawn := d, toks := tk } := by
    intro g c tk st' kg hg
    refine codeAny_extend_loopS (W A.in1 (by simpa using hh)) fit s.heap.objs.size nf (.ref s.heap.objs.size) os.length 0 _ #[] c rfl (Nat.zero_le _) st' hg (ItemsOf.nil _) fun s' acc c' m hS' hacc => ?_
    obtain ⟨hx, gx, dx, tx, ox⟩ := s'
    have eg : gx = s.gens := m.gens
    have ed : dx = d := m.drawn
    have eo : ox = s.os := m.os
    subst eg; subst ed; subst eo
    refine ⟨hx, tx, acc, c', rfl, rfl, fun b o e => ?_, hS', hacc⟩
    have lb := Heap.lt_size e
    refine m.heap b o ?_ (kg b o (Nat.ne_of_lt lb) (k2 b o (k0 b o e)))
    simp only [List.mem_cons, List.not_mem_nil, or_false, not_or]
    exact ⟨Nat.ne_of_lt lb, Nat.ne_of_lt (Nat.lt_trans lb (by rw [sz1] at hI; exact hI))⟩
  have fin : ∀ (r : Result) (s' : Shared), (∃ (h' : Heap) (tk : Nat) (acc : Array Value) (c' : Nat), r = .ok (.ret (.ref s.heap.objs.size)) ∧ s' = { s with heap := h', toks := tk, drawn := d } ∧ (∀ b o, s.heap.get? b = some o → h'.get? b = some o) ∧
        h'.get? s.heap.objs.size = some { cls := .type "list", dict := none, data := .seq acc c', slots := #[] } /\ ItemsOf (fun i v => os[i]? = some v) acc os.length) -> ∃ (h' : Heap) (tk c' : Nat), r = .ok (.ret (.ref s.heap.objs.size)) /\ s' = { s with heap := h', toks := tk, drawn := d } /\ h'.get? s.heap.objs.size = some { cls := .type "list", dict := none, data := .seq os.toArray c', slots := #[] } /\ R os { s with heap := h', toks := tk, drawn := d } := by
    rintro r s' ⟨h', tk, acc, c', rfl, rfl, k, hS', hacc⟩
    have e : acc = os.toArray := by
      refine Array.ext (by rw [List.size_toArray]; exact hacc.1) fun i h1 h2 => ?_
      have := hacc.2 i acc[i] (Array.getElem?_eq_getElem h1)
      rw [List.size_toArray] at h2
      rw [List.getElem?_eq_getElem h2] at this
      injection this with this
      rw [<- this]; simp
    subst e
    exact ⟨h', tk, c', rfl, rfl, hS', h h' tk d os ys k sa nd mem⟩
  refine wpAny_ite_split (fun _ => ?touch) (fun _ => wpAny_pure ⟨plainId_quiet PySem.F.plain_extend_loop _, codeAny_mono (key h2 0 s.toks (st _) (fun b o _ e => e) hL2) fun r s' y => ?last⟩)
  case last =>
    obtain ⟨h', tk, c', rfl, rfl, hS', q⟩ := fin r s' y
    show wpAny _ A (load s.heap.objs.size >>= _) _ _ _
    exact wpAny_bind (wpAny_load hS' (wpAny_pure q))
  case touch =>
    refine wpAny_bind (wpAny_rule (wpAny_bind ?_))
    show wpAny _ _ (updateSeq s.heap.objs.size (·.push .none) >>= fun _ => updateSeq s.heap.objs.size (·.pop)) _ _ _
    refine wpAny_bind (wpAny_updateSeq hL2 rfl ?_)
    have u2 := Heap.get?_update_self (Obj.mapSeq (·.push Value.none)) hL2 rfl
    refine wpAny_updateSeq (hz := by seq_fits) u2 rfl ?_
    have u3 := Heap.get?_update_self (Obj.mapSeq (·.pop)) u2 rfl
    have oth : ∀ b o, b ≠ s.heap.objs.size -> h2.get? b = some o -> ((h2.update s.heap.objs.size (Obj.mapSeq (·.push Value.none))).update s.heap.objs.size (Obj.mapSeq (·.pop))).get? b = some o := fun b o hb e => (Heap.get?_update_other _ _ (Ne.symm hb)).trans ((Heap.get?_update_other _ _ (Ne.symm hb)).trans e)
    refine wpAny_pure ⟨plainId_quiet PySem.F.plain_extend_loop _, codeAny_mono (key _ _ s.toks ((W A hh).frame 0 _ _ _ (st s.toks) (Nat.le_refl _) fun b hb o e => oth b o (fun z => nf (z ▸ hb)) e) oth u3) fun r s' y => ?_⟩
    obtain ⟨h', tk, c', rfl, rfl, hS', q⟩ := fin r s' y
    show wpAny _ A (load s.heap.objs.size >>= _) _ _ _
    exact wpAny_bind (wpAny_load hS' (wpAny_pure q))
end
end L2
end
section
namespace L2
open PySem PySem.Spec PyProof.Rows
theorem bt_set : bootBuiltins "set" = some (.type "set") := by decide +kernel
theorem bt_max : bootBuiltins "max" = some (.builtin "max") := by decide +kernel
theorem bt_all : bootBuiltins "all" = some (.builtin "all") := by decide +kernel
section
variable {X : Cx}
theorem op_fdivB : OpR X (binaryOp .FloorDiv) (rI (fun _ j => 0 < j /\ j < 2 ^ 200) fun i j => .int (i / j)) := opI fun i j _ _ _ _ _ hc q => by
  have h1 : (0 : Int) < j := hc.1
  have h2 : j < 2 ^ 200 := hc.2
  have h3 : j.natAbs < 2 ^ 200 := by lia
  exact floordiv_int (by lia) (by rw [Int.fdiv_eq_ediv_of_nonneg i (by lia)]; exact q) (.inl (PyProof.noPylong_of_log2 (Nat.lt_of_lt_of_le ((Nat.log2_lt (by lia)).mpr h3) (by decide))))
theorem op_mulU : OpR X (binaryOp .Mult) (fun x y H Q => rI CMul (fun i j => .int (i * j)) x y H Q \/ rRep x y H Q) := op_mul.or op_rep
noncomputable def rSplit : V -> List V -> Hp -> VK -> Prop := fun x xs H Q => ∃ a b : Str, x = .str a /\ xs = [.str b] /\ (b.length == 0) = false /\ a.length + 2 <= sizeLine /\ ∀ p, H p = none -> Q (.ref p) (upd H p (.lst ((Txt.split a b).map V.str)))
theorem mt_split : MtR X "str.split" rSplit := by
  intro pins s σ H x xs v us Q I rx rxs h
  obtain ⟨a, b, rfl, rfl, hb, hz, q⟩ := h
  obtain ⟨t, rfl⟩ := rx
  obtain ⟨u, rfl, ru⟩ := rxs.one
  obtain ⟨t2, rfl⟩ := ru
  have hn : (Builtin.Str.partsBetween a (Builtin.Str.occurrences a b 0 a.length (a.length + 1)) b.length).length <= sizeLine := by
    have e1 := StrLaws.occ_length_le a b 0 a.length (a.length + 1)
    rw [length_partsBetween]; lia
  have fin : ∀ (l : List (Str × Tok)) (k : Nat), l.map (·.1) = Txt.split a b -> l.length <= sizeLine -> EP X pins σ Q (.ref s.heap.objs.size) { s with heap := s.heap.push { cls := .type "list", data := .seq (strValues l).toArray }, toks := k } := fun l k e hl =>
    ⟨.ref _, _, I.lnew (t' := k) (ofStrs (strsAre_of_values l)) (by rw [List.length_map, List.length_map]; exact hl), rfl, by rw [e]; exact q _ I.fresh⟩
  cases h1 : (decide (a.length < b.length) || decide (Builtin.Str.strKind a < Builtin.Str.strKind b))
  case true => exact call_meets F.slot_str_split (typeIs_str _ _ _) F.entry_str_split (F.args_str_split_2 _ _) (meets_str_split_cannot_occur a b t t2 h1) (fin [(a, t)] s.toks (if_pos h1).symm (by show 1 <= sizeLine; decide))
  cases hf : (Builtin.Str.occurrences a b 0 a.length (a.length + 1)).isEmpty
  case true => exact call_meets F.slot_str_split (typeIs_str _ _ _) F.entry_str_split (F.args_str_split_2 _ _) (meets_str_split_not_found a b t t2 h1 hb hf) (fin [(a, t)] s.toks ((if_neg (ne_true_of_eq_false h1)).trans (if_pos hf)).symm (by show 1 <= sizeLine; decide))
  refine call_meets F.slot_str_split (typeIs_str _ _ _) F.entry_str_split (F.args_str_split_2 _ _) (meets_str_split_sep a b t t2 h1 hb hf (by lia) hn) ?_
  show wants _ _ _ { s with toks := _, heap := s.heap.push { cls := .type "list", data := .seq (strsFrom s.toks (Builtin.Str.partsBetween a (Builtin.Str.occurrences a b 0 a.length (a.length + 1)) b.length)).toArray } }
  rw [strsFrom_eq]
  refine fin (numbered s.toks _) _ ((numbered_texts _ _).trans ((if_neg (ne_true_of_eq_false h1)).trans (if_neg (ne_true_of_eq_false hf))).symm) ?_
  have e := congrArg List.length (numbered_texts s.toks (Builtin.Str.partsBetween a (Builtin.Str.occurrences a b 0 a.length (a.length + 1)) b.length))
  rw [List.length_map] at e
  rw [e]; exact hn
theorem Inv.setd {pins : List (Addr × Obj)} {σ : St} {H : Hp} {s : Shared} (I : Inv X pins σ H s) (d : Drawn) : Inv X pins σ H { s with drawn := d } := ⟨I.ok, I.os, I.bare, I.base, I.loc, I.cell, I.free, I.freeC, I.pin, I.hok, I.len⟩
theorem sorted_set {pins : List (Addr × Obj)} {s : Shared} {σ : St} {H : Hp} {a : Addr} {zs : List Str} {Q : VK} (hc : X.calm = true) (I : Inv X pins σ H s) (S : SetS X.prog X.w s.heap a zs) (h64 : zs.length < 64)
    (q : ∀ (p : Addr) (ys : List Str), H p = none -> ys.Nodup -> (∀ x, x ∈ ys ↔ x ∈ zs) -> sortedS ys = true -> Q (.ref p) (upd H p (.lst (ys.map V.str)))) :
    wpAny (model X.prog X.w) X.A (call (.builtin "sorted") [.ref a]) (EP X pins σ Q) X.xe s := by
  have hh := I.ok.hd hc
  refine Calls.call_function_entry kind_sorted plain_sorted entry_sorted (args_sorted1 _) ?_
  unfold Builtin.«sorted»
  refine wpAny_bind (m := checkCount "sorted" 1 1 _) (wpAny_pure ?_)
  refine wpAny_bind (collect_set (A := X.A.in1) hh S (by lia) fun h' tk d os ss keep hS nd mem => ?_)
  have hl : os.length = ss.length := hS.length
  have le : ss.length <= zs.length := List.Nodup.length_le_of_subset nd fun y hy => (mem y).mp hy
  have fit : os.length <= sizeLine := Nat.le_trans (show os.length <= 64 by lia) (by decide)
  refine wpAny_bind (wpAny_newList ?_ fit)
  have hoL : (h'.push { cls := .type "list", data := .seq os.toArray }).get? h'.objs.size = some (seqObj "list" os.toArray 0) := Heap.get?_push_size _ rfl
  refine wpAny_bind (wpAny_holding (wpAny_call_entry slot_list_sort ⟨_, hoL, rfl⟩ entry_list_sort (list_sort_treeK strKind_oneLt hoL hS.keysOf (fun v₁ v₂ rest e => keyKind_strs (by rw [<- e]; exact hS)) (by lia) fun st' a1 a2 => ⟨_, rfl, ?_⟩) (args_list_sort _)))
  obtain ⟨ys, b1, b2, b3⟩ := sorted_out_str hS a1 a2
  refine wpAny_pure ⟨_, rfl, ?_⟩
  have I1 : Inv X pins σ H { s with heap := h', toks := tk, drawn := d } := (I.kept (t' := tk) keep).setd d
  obtain ⟨e, hat2⟩ := sortedHeap_at (out := (arrOf st').map (·.2)) hoL
  have hz : (ys.map V.str).length <= sizeLine := by rw [List.length_map, b2.length_eq, <- hl]; exact fit
  refine ⟨.ref h'.objs.size, upd H h'.objs.size (.lst (ys.map V.str)), ?_, rfl, q _ ys (I1.hok.fresh (Nat.le_refl _)) (b2.nodup_iff.mpr nd) (fun x => b2.mem_iff.trans (mem x)) b3⟩
  refine I1.laid (t' := tk) (fun b o hb => ?_) (Nat.le_refl _) ⟨hz, _, e, ofStrs b1, ?_⟩
  · have hlt : b < h'.objs.size := Heap.lt_size hb
    rw [sortedHeap_old (Nat.ne_of_lt hlt) (by rw [Heap.size_push]; exact Nat.lt_succ_of_lt hlt)]
    exact Heap.get?_push_of_some _ hb
  · rw [hat2]
theorem strsOfVals : ∀ {us : List Value} {ys : List Str}, Vals (ys.map V.str) us -> StrsAre us ys
  | _, [], h => by cases h; exact .nil
  | _, y :: ys, h => by
    rw [List.map_cons] at h
    cases h with
    | cons r rs =>
      obtain ⟨t, rfl⟩ := r
      exact .cons _ _ (strsOfVals rs)
noncomputable def tSS (te : TE) : TE := fun σ H Q => te σ H fun x H1 => ∃ (a : Addr) (zs : List Str), [x] = [V.ref a] /\ H1 a = some (.lst (zs.map V.str)) /\ zs.length < 64 /\
  ∀ (p : Addr) (ys : List Str), H1 p = none -> ys.Nodup -> (∀ x, x ∈ ys ↔ x ∈ zs) -> sortedS ys = true -> Q (.ref p) (upd H1 p (.lst (ys.map V.str)))
theorem pe_ss {e : Expr} {te : TE} {p1 p2 pos1 pos2 : Pos} (hc : X.calm = true) (hg1 : Gl X "sorted") (hm1 : X.mg "sorted" = none) (hg2 : Gl X "set") (hm2 : X.mg "set" = none) (he : PE X e te) (hs : notStar e = true) :
    PE X (.Call (.Name "sorted" p1) [.Call (.Name "set" p2) [e] [] pos2] [] pos1) (tSS te) := by
  intro pins s σ H Q I h
  refine wpAny_Call_Name_kw (ld_blt I hg1 hm1 bt_sorted ?_ (by decide) (by decide))
  refine PyProof.Rows.callWith_builtin1 ?_ (star_cons rfl) rfl
  rw [star_cons (e := .Call (.Name "set" p2) [e] [] pos2) rfl]
  show wpAny _ _ (spliced ((false, eval (.Call (.Name "set" p2) [e] [] pos2) X.env) :: backTo pos1 (starEach [] X.env))) _ _ s
  refine Calls.spliced_cons ?_
  refine wpAny_Call_Name_kw (ld_blt I hg2 hm2 bt_set ?_ (by decide) (by decide))
  refine PyProof.Rows.callWith_type1 ?_ (star_cons hs) rfl
  refine thn (qa_cons he pa_nil hs pos2 pins s σ H (fun xs H1 => ∃ (a : Addr) (zs : List Str), xs = [.ref a] /\ H1 a = some (.lst (zs.map V.str)) /\ zs.length < 64 /\ ∀ (p : Addr) (ys : List Str), H1 p = none -> ys.Nodup -> (∀ x, x ∈ ys ↔ x ∈ zs) -> sortedS ys = true -> Q (.ref p) (upd H1 p (.lst (ys.map V.str)))) I ?_) fun us s1 ⟨vs, H1, I1, r1, a, zs, ea, hH, h64, q⟩ => ?_
  · exact h
  subst ea
  obtain ⟨u, rfl, ru⟩ := r1.one
  cases ru
  obtain ⟨z, its, n, r, hl, e⟩ := I1.lstM hH
  have are : StrsAre its zs := strsOfVals r
  refine call_set_str (A := X.A) (its := its.toArray) (I1.ok.hd hc) ⟨_, e, rfl, n, rfl⟩ (by simpa using are) (by lia) fun h' tk S keep => ?_
  refine Calls.spliced_nil ?_
  exact sorted_set hc (I1.kept (t' := tk) keep) S h64 q
theorem we_ss {e : Expr} {te : TE} {p1 p2 pos1 pos2 : Pos} (hc : X.calm = true) (hg1 : Gl X "sorted") (hm1 : X.mg "sorted" = none) (hg2 : Gl X "set") (hm2 : X.mg "set" = none) (he : Hd (PE X e te)) (hs : notStar e = true := by rfl) :
    Hd (PE X (.Call (.Name "sorted" p1) [.Call (.Name "set" p2) [e] [] pos2] [] pos1) (tSS te)) := ⟨pe_ss hc hg1 hm1 hg2 hm2 he.out hs⟩
end
end L2
end
section
namespace L2
open PySem PySem.Spec PyProof.Rows
section
variable {X : Cx}
noncomputable def rEqLK (K : PySem.W.Frag) : R2 := fun x y H Q => ∃ a b xs, x = .ref a /\ y = .ref b /\ SqL K H a xs /\ H b = some (.lst []) /\ Q (.bl (decide (xs = []))) H
theorem op_eqLK (hu : X.A.units < cLine) : OpR X (compareOp .Eq) (rEqLK X.K) := by
  intro pins s σ H x y v u Q I rx ry h
  obtain ⟨a, b, xs, rfl, rfl, ha, hb, q⟩ := h
  cases rx
  cases ry
  obtain ⟨its, r, p, _⟩ := I.list ha
  obtain ⟨its2, r2, p2, _⟩ := I.list (SqL.of hb)
  cases r2
  by_cases hx : xs = []
  · subst hx
    cases r
    refine SeqAt.RcAt.lists (A := X.A) (e := fun _ => true) p.isList p2.isList rfl hu (fun j h1 => by simp at h1) _ _ _ _ ⟨.bl true, H, I, rfl, ?_⟩
    simpa using q
  · refine SeqAt.RcAt.lists_lengths (A := X.A) p.isList p2.isList ?_ hu _ _ _ _ ⟨.bl false, H, I, rfl, ?_⟩
    · have := r.length
      have h0 : its ≠ [] := fun z => hx (by subst z; cases xs with | nil => rfl | cons _ _ => simp at this)
      cases its with
      | nil => exact absurd rfl h0
      | cons _ _ => simp
    · rw [decide_eq_false hx] at q
      exact q
end
noncomputable def kyC : Key := Sum.inr (Str.ofString "cells")
noncomputable def kyN : Key := Sum.inr (Str.ofString "next")
noncomputable def kyR : Key := Sum.inr (Str.ofString "rest")
noncomputable def kyT : Key := Sum.inr (Str.ofString "count")
noncomputable def kyK : Key := Sum.inr (Str.ofString "knots")
structure HdIs (H : Hp) (p c : Addr) (cs : List Int) (n r t : Int) (kn : Option Int) (kvs : List (Key × V)) : Prop where
  at_ : H p = some (.dK kvs)
  len : kvs.length <= 20
  cell : valV kvs kyC = some (.ref c)
  nxt : valV kvs kyN = some (.int n)
  rst : valV kvs kyR = some (.int r)
  cnt : valV kvs kyT = some (.int t)
  knt : valV kvs kyK = kn.map V.int
  lst : H c = some (.lst (cs.map V.int))
  c1 : 1 <= cs.length
  c64 : cs.length <= 64
  n0 : 0 <= n
theorem k_ne1 : kyC ≠ kyN /\ kyC ≠ kyR /\ kyC ≠ kyT /\ kyC ≠ kyK /\ kyN ≠ kyR /\ kyN ≠ kyT /\ kyN ≠ kyK /\ kyR ≠ kyT /\ kyR ≠ kyK /\ kyT ≠ kyK := by decide +kernel
section
variable {H : Hp} {p c : Addr} {cs : List Int} {n r t : Int} {kn : Option Int} {kvs : List (Key × V)}
theorem HdIs.pc (h : HdIs H p c cs n r t kn kvs) : c ≠ p := fun e => by
  have h1 := h.at_
  have h2 := h.lst
  rw [<- e, h2] at h1
  cases h1
theorem put_len {kvs : List (Key × V)} {k : Key} {v : V} (h : (valV kvs k).isSome = true) : (putK kvs k v).length = kvs.length := by
  unfold putK
  rw [valV_any, if_pos h, List.length_map]
theorem HdIs.putN (h : HdIs H p c cs n r t kn kvs) (n' : Int) (h0 : 0 <= n') : HdIs (upd H p (.dK (putK kvs kyN (.int n')))) p c cs n' r t kn (putK kvs kyN (.int n')) := by
  obtain ⟨a1, a2, a3, a4, a5, a6, a7, a8, a9, a10⟩ := k_ne1
  refine ⟨upd_same, by rw [put_len (by rw [h.nxt]; rfl)]; exact h.len, ?_, ?_, ?_, ?_, ?_, by rw [upd_ne h.pc]; exact h.lst, h.c1, h.c64, h0⟩
  · rw [valV_put, if_neg a1]; exact h.cell
  · rw [valV_put, if_pos rfl]
  · rw [valV_put, if_neg a5.symm]; exact h.rst
  · rw [valV_put, if_neg a6.symm]; exact h.cnt
  · rw [valV_put, if_neg a7.symm]; exact h.knt
theorem HdIs.putR (h : HdIs H p c cs n r t kn kvs) (r' : Int) : HdIs (upd H p (.dK (putK kvs kyR (.int r')))) p c cs n r' t kn (putK kvs kyR (.int r')) := by
  obtain ⟨a1, a2, a3, a4, a5, a6, a7, a8, a9, a10⟩ := k_ne1
  refine ⟨upd_same, by rw [put_len (by rw [h.rst]; rfl)]; exact h.len, ?_, ?_, ?_, ?_, ?_, by rw [upd_ne h.pc]; exact h.lst, h.c1, h.c64, h.n0⟩
  · rw [valV_put, if_neg a2]; exact h.cell
  · rw [valV_put, if_neg a5]; exact h.nxt
  · rw [valV_put, if_pos rfl]
  · rw [valV_put, if_neg a8.symm]; exact h.cnt
  · rw [valV_put, if_neg a9.symm]; exact h.knt
theorem HdIs.putT (h : HdIs H p c cs n r t kn kvs) (t' : Int) : HdIs (upd H p (.dK (putK kvs kyT (.int t')))) p c cs n r t' kn (putK kvs kyT (.int t')) := by
  obtain ⟨a1, a2, a3, a4, a5, a6, a7, a8, a9, a10⟩ := k_ne1
  refine ⟨upd_same, by rw [put_len (by rw [h.cnt]; rfl)]; exact h.len, ?_, ?_, ?_, ?_, ?_, by rw [upd_ne h.pc]; exact h.lst, h.c1, h.c64, h.n0⟩
  · rw [valV_put, if_neg a3]; exact h.cell
  · rw [valV_put, if_neg a6]; exact h.nxt
  · rw [valV_put, if_neg a8]; exact h.rst
  · rw [valV_put, if_pos rfl]
  · rw [valV_put, if_neg a10.symm]; exact h.knt
theorem HdIs.putK' (h : HdIs H p c cs n r t kn kvs) (k' : Int) (hl : kn ≠ none \/ kvs.length <= 10) : HdIs (upd H p (.dK (putK kvs kyK (.int k')))) p c cs n r t (some k') (putK kvs kyK (.int k')) := by
  obtain ⟨a1, a2, a3, a4, a5, a6, a7, a8, a9, a10⟩ := k_ne1
  refine ⟨upd_same, ?_, ?_, ?_, ?_, ?_, ?_, by rw [upd_ne h.pc]; exact h.lst, h.c1, h.c64, h.n0⟩
  · rcases hl with z | z
    · rw [put_len]
      · exact h.len
      · rw [h.knt]
        cases kn with
        | none => exact absurd rfl z
        | some _ => rfl
    · exact Nat.le_trans (length_putK _ _ _) (by lia)
  · rw [valV_put, if_neg a4]; exact h.cell
  · rw [valV_put, if_neg a7]; exact h.nxt
  · rw [valV_put, if_neg a9]; exact h.rst
  · rw [valV_put, if_neg a10]; exact h.cnt
  · rw [valV_put, if_pos rfl]; rfl
end
noncomputable def Hn (H : Hp) (p c : Addr) (cs : List Int) (kn : Option Int) : Prop := ∃ n r t kvs, HdIs H p c cs n r t kn kvs /\ (kn = none -> kvs.length <= 10)
noncomputable def Ex (p : Addr) (H H' : Hp) : Prop := ∀ b o, b ≠ p -> H b = some o -> H' b = some o
theorem Ex.trans {p : Addr} {H H1 H2 : Hp} (a : Ex p H H1) (b : Ex p H1 H2) : Ex p H H2 := fun c o n h => b c o n (a c o n h)
theorem ex_upd {p : Addr} {H : Hp} {o : HO} : Ex p H (upd H p o) := fun b u n h => by rw [upd_ne n]; exact h
theorem ex_new {p q : Addr} {H : Hp} {o : HO} (h : H q = none) : Ex p H (upd H q o) := fun b u n e => by rw [upd_ne (ne_of_none e h)]; exact e
theorem Same.ex {p : Addr} {H H' : Hp} (s : Same H H') : Ex p H H' := fun b o _ h => s b o h
theorem HdIs.keep {H H' : Hp} {p c : Addr} {cs : List Int} {n r t : Int} {kn : Option Int} {kvs : List (Key × V)} (h : HdIs H p c cs n r t kn kvs) (s : Same H H') : HdIs H' p c cs n r t kn kvs :=
  ⟨s _ _ h.at_, h.len, h.cell, h.nxt, h.rst, h.cnt, h.knt, s _ _ h.lst, h.c1, h.c64, h.n0⟩
theorem Hn.keep {H H' : Hp} {p c : Addr} {cs : List Int} {kn : Option Int} (h : Hn H p c cs kn) (s : Same H H') : Hn H' p c cs kn := by
  obtain ⟨n, r, t, kvs, a, b⟩ := h; exact ⟨n, r, t, kvs, a.keep s, b⟩
theorem Hn.new {H : Hp} {p c q : Addr} {cs : List Int} {kn : Option Int} {o : HO} (h : Hn H p c cs kn) (hq : H q = none) : Hn (upd H q o) p c cs kn := h.keep fun b u e => by rw [upd_ne (ne_of_none e hq)]; exact e
theorem Hn.ne {H : Hp} {p c q : Addr} {cs : List Int} {kn : Option Int} (h : Hn H p c cs kn) (hq : H q = none) : q ≠ p := by
  obtain ⟨n, r, t, kvs, a, _⟩ := h
  intro z; rw [z, a.at_] at hq; cases hq
theorem Hn.tups {H H' : Hp} {p c : Addr} {cs : List Int} {kn : Option Int} (h : Hn H p c cs kn) (x : Ex p H H') : Tups H H' := fun b xs e => by
  obtain ⟨n, r, t, kvs, a, _⟩ := h
  exact x b _ (ne_of e a.at_ (by intro z; cases z)) e
end L2
end
section
namespace L2
open PySem PySem.Spec PyProof.Rows
section
variable {X : Cx}
end
end L2
end
section
namespace L2
open PySem PySem.Spec PyProof.Rows PyProof.V
section
variable {X : Cx}
variable {pos : Pos}
end
end L2
end
section
namespace L2
open PySem PySem.Spec PyProof.Rows
section
variable {X : Cx} {pos pos' apos : Pos} {o e value : Expr} {es : List Expr} {f : Str} {ta tv to te : TE} {tA : TA}
theorem vals_get : ∀ {xs : List V} {us : List Value} {i : Nat} {v : Value}, Vals xs us -> us[i]? = some v -> ∃ x, xs[i]? = some x /\ RelV x v
  | _, _, i, v, .nil, e => by simp at e
  | _, _, 0, v, .cons r _, e => by simp at e; subst e; exact ⟨_, rfl, r⟩
  | _, _, i + 1, v, .cons _ t, e => by
    obtain ⟨x, h1, h2⟩ := vals_get (i := i) t (by simpa using e)
    exact ⟨x, by simpa using h1, h2⟩
noncomputable def rAll (K : PySem.W.Frag) : List V -> Hp -> VK -> Prop := fun ws H Q => ∃ (p : Addr) (bs : List Bool), ws = [.ref p] /\ SqL K H p (bs.map V.bl) /\ Q (.bl (bs.all id)) H
theorem call_all (hc : X.calm = true) : CallR X (.builtin "all") (rAll X.K) := by
  intro pins s σ H ws us Q I r h
  obtain ⟨p, bs, rfl, hq, q⟩ := h
  obtain ⟨u, rfl, ru⟩ := r.one
  cases ru
  have hh := I.ok.hd hc
  obtain ⟨its, rv, pl, _⟩ := I.list hq
  have hl : s.heap.IsList p its.toArray := pl.isList
  obtain ⟨ob, o1, o2, k, o3⟩ := id hl
  have ne : p ≠ s.heap.objs.size := Nat.ne_of_lt (Heap.lt_size o1)
  have W := (Walks.list (prog := X.prog) (w := X.w) (A := X.A.in1) hh s.heap.objs.size p ne its.toArray).toS
  have lb : its.length = bs.length := by have := rv.length; rw [List.length_map] at this; exact this.symm
  have bv : ∀ (i : Nat) (v : Value), its.toArray[i]? = some v -> v = .bool (bs.getD i false) := fun i v e => by
    have e' : its[i]? = some v := by simpa using e
    have hi : i < bs.length := by have := (List.getElem?_eq_some_iff.mp e').1; lia
    obtain ⟨x, h1, h2⟩ := vals_get rv e'
    rw [List.getElem?_map, List.getElem?_eq_getElem hi] at h1
    cases h1
    rw [List.getD_eq_getElem?_getD, List.getElem?_eq_getElem hi]
    exact h2
  refine call_all_walkS (wpAny_pyIter_list hl ?_)
  refine ⟨s.heap.objs.size, _, _, _, _, _, _, fun i => bs.getD i false, rfl, W, ⟨⟨_, Heap.get?_push_size _ rfl, rfl, rfl⟩, hl.push _⟩, ?_, fun s' hm => ?_⟩
  · intro i v s' Q' E' hP hq'
    rw [bv i v hP]
    exact wpAny_truthy_bool hq'
  · obtain ⟨h', g', d', tk', os'⟩ := s'
    have z1 : g' = s.gens := hm.gens
    have z2 : d' = s.drawn := hm.drawn
    have z3 : os' = s.os := hm.os
    subst z1 z2 z3
    have keep : ∀ b o, s.heap.get? b = some o -> h'.get? b = some o := fun b o e => hm.heap b o (fun hb => absurd (Heap.lt_size e) ((List.mem_singleton.mp hb) ▸ Nat.lt_irrefl _)) (Heap.get?_push_of_some _ e)
    refine ⟨.bl (bs.all id), H, I.kept (t' := tk') keep, ?_, q⟩
    have e : (List.range its.toArray.size).all (fun i => bs.getD i false) = bs.all id := by
      rw [List.size_toArray, lb]
      have : (List.range bs.length).map (fun i => bs.getD i false) = bs := by
        refine List.ext_getElem? fun i => ?_
        by_cases hi : i < bs.length
        · rw [List.getElem?_map, List.getElem?_eq_getElem (by simpa using hi), List.getElem?_eq_getElem hi]
          simp [List.getD_eq_getElem?_getD, List.getElem?_eq_getElem hi]
        · rw [List.getElem?_eq_none (by simpa using hi), List.getElem?_eq_none (by lia)]
      conv => rhs; rw [<- this]
      rw [List.all_map]; rfl
    rw [e]; rfl
end
end L2
end
section
namespace L2
open PySem PySem.Spec PyProof.Rows
section
variable {X : Cx}
end
end L2
end
section
namespace Kn
open PySem PySem.W PyProof.Rows
section
variable {lt : Nat -> Nat -> Bool}
end
end Kn
namespace L2
open PySem PySem.Spec PyProof.Rows PySem.W
open Kn (sLt krun)
mutual
noncomputable def ltD : Dt -> Dt -> Option Bool
  | .int i, e => match e with | .int j => some (decide (i < j)) | _ => none
  | .str x, e => match e with | .str y => some (sLt x y) | _ => none
  | .tup ds, e => match e with | .tup es => ltDs ds es | _ => none
noncomputable def ltDs : List Dt -> List Dt -> Option Bool
  | [], es => some (decide (es ≠ []))
  | d :: ds, es => match es with | [] => some false | e :: es => if d = e then ltDs ds es else ltD d e
end
section
open PySem.SeqAt
open PySem.AutoSeq1 (wpAny_loadPart')
open PySem.MeetsSeq PySem.MeetsSeq2 PySem.MeetsSeq3
variable {P : Program} {w : World} {H : Hp}
end
end L2
end
section
namespace L2
open PySem PySem.Spec PyProof.Rows PySem.W
open Kn (sLt krun)
section
variable {prog : Program} {w : World} {A : Around} {E : Value -> Shared -> Prop} {s : Shared} {H : Hp}
noncomputable def ltB (ds : List (List Dt)) (i j : Nat) : Bool := (ltDs (ds.getD i []) (ds.getD j [])).getD false
end
section
variable {X : Cx}
end
end L2
end
section
namespace Tm
open PySem PySem.W PyProof.Rows
noncomputable def gallop' : Bool -> Keyed -> Array Keyed -> Nat -> Nat -> Nat -> StateT SortSt Sem (Option Nat) := sortPriv% PySem.Builtin.gallop
noncomputable def mergeLo' : Array Keyed -> Array Keyed -> StateT SortSt Sem (Array Keyed) := sortPriv% PySem.Builtin.mergeLo
noncomputable def mergeHi' : Array Keyed -> Array Keyed -> StateT SortSt Sem (Array Keyed) := sortPriv% PySem.Builtin.mergeHi
section
variable {M : Model} {A : Around} {E : Value -> Shared -> Prop} {s : Shared} {κ : SortKind} {S : Keyed -> Prop} {L : Keyed -> Keyed -> Bool}
noncomputable def Cmp (M : Model) (A : Around) (E : Value -> Shared -> Prop) (s : Shared) (κ : SortKind) (S : Keyed -> Prop) (L : Keyed -> Keyed -> Bool) : Prop :=
  ∀ (x y : Keyed) (st : SortSt) (Q : Option Bool -> SortSt -> Prop), kindOf st = κ -> S x -> S y -> Q (some (L x y)) st -> wpS M A E s (lt' x y) Q st
theorem wp_elem {arr : Array Keyed} {i : Nat} {st : SortSt} {Q : Keyed -> SortSt -> Prop} (h : i < arr.size) (q : Q arr[i] st) : wpS M A E s (elem' arr i) Q st := by
  rw [elem'_eq, Array.getElem?_eq_getElem h]
  exact wpS_pure q
noncomputable def bey (L : Keyed -> Keyed -> Bool) (left : Bool) (key x : Keyed) : Bool := if left = true then L x key else !(L key x)
theorem wp_bey {left : Bool} {key : Keyed} {arr : Array Keyed} {i : Nat} {st : SortSt} {Q : Option Bool -> SortSt -> Prop} (C : Cmp M A E s κ S L) (hk : kindOf st = κ) (h : i < arr.size) (sx : S arr[i]) (sk : S key) (q : Q (some (bey L left key arr[i])) st) :
    wpS M A E s (do let x <- elem' arr i; if left = true then lt' x key else do let r <- lt' key x; pure (r.map (!·))) Q st := by
  refine wpS_bind (wp_elem h ?_)
  cases left with
  | true => exact C _ _ _ _ hk sx sk q
  | false => exact wpS_bind (C _ _ _ _ hk sk sx (wpS_pure q))
theorem wp_search {n : Nat} {B : Nat -> Bool} {st : SortSt} {f : Nat -> (Option (Option Nat) × Nat × Nat) -> StateT SortSt Sem (ForInStep (Option (Option Nat) × Nat × Nat))} {Q : (Option (Option Nat) × Nat × Nat) -> SortSt -> Prop} {lo hi : Nat}
    (mono : ∀ i j, i <= j -> j < n -> B j = true -> B i = true) (h1 : lo <= hi) (h2 : hi <= n) (h3 : ∀ i, i < lo -> B i = true) (h4 : ∀ i, hi <= i -> i < n -> B i = false)
    (hf : ∀ (t lo hi : Nat) (R : ForInStep (Option (Option Nat) × Nat × Nat) -> SortSt -> Prop), lo <= hi -> hi <= n -> (hi <= lo -> R (.done (none, lo, hi)) st) ->
      (lo < hi -> (B (lo + (hi - lo) / 2) = true -> R (.yield (none, lo + (hi - lo) / 2 + 1, hi)) st) /\ (B (lo + (hi - lo) / 2) = false -> R (.yield (none, lo, lo + (hi - lo) / 2)) st)) -> wpS M A E s (f t (none, lo, hi)) R st)
    (q : ∀ k, k <= n -> (∀ i, i < k -> B i = true) -> (∀ i, k <= i -> i < n -> B i = false) -> Q (none, k, k) st) : wpS M A E s (forIn [:n] (none, lo, hi) f) Q st := by
  refine wpS_mono (wpS_forRange (I := fun t c st' => ∃ lo hi, c = (none, lo, hi) /\ st' = st /\ lo <= hi /\ hi <= n /\ hi - lo <= n - t /\ (∀ i, i < lo -> B i = true) /\ (∀ i, hi <= i -> i < n -> B i = false))
    (Q := fun c st' => ∃ k, c = (none, k, k) /\ st' = st /\ k <= n /\ (∀ i, i < k -> B i = true) /\ (∀ i, k <= i -> i < n -> B i = false)) ?step ?fin ⟨lo, hi, rfl, rfl, h1, h2, by lia, h3, h4⟩) ?post
  case fin =>
    rintro c st' ⟨lo, hi, rfl, rfl, a1, a2, a3, a4, a5⟩
    have : lo = hi := by lia
    subst this
    exact ⟨lo, rfl, rfl, a2, a4, a5⟩
  case step =>
    rintro t c st' _ ht ⟨lo, hi, rfl, rfl, a1, a2, a3, a4, a5⟩
    refine hf t lo hi _ a1 a2 (fun hge => ?_) (fun hlt => ⟨fun e => ?_, fun e => ?_⟩)
    · have : lo = hi := by lia
      subst this
      exact ⟨lo, rfl, rfl, a2, a4, a5⟩
    · exact ⟨_, _, rfl, rfl, by lia, a2, by lia, fun i hi' => mono i _ (by lia) (by lia) e, a5⟩
    · refine ⟨_, _, rfl, rfl, by lia, by lia, by lia, a4, fun i h5 h6 => ?_⟩
      cases e' : B i with
      | false => rfl
      | true => rw [mono _ i h5 h6 e'] at e; cases e
  case post =>
    rintro c st' ⟨k, rfl, rfl, a2, a4, a5⟩
    exact q k a2 a4 a5
theorem wp_gallop {left : Bool} {key : Keyed} {arr : Array Keyed} {base n hint : Nat} {st : SortSt} {Q : Option Nat -> SortSt -> Prop} (C : Cmp M A E s κ S L) (hk : kindOf st = κ) (sk : S key) (hz : base + n <= arr.size) (hS : ∀ i (h : i < arr.size), S arr[i]) (hh : hint < n)
    (B : Nat -> Bool) (hB : ∀ i (h : base + i < arr.size), i < n -> bey L left key arr[base + i] = B i) (mono : ∀ i j, i <= j -> j < n -> B j = true -> B i = true)
    (q : ∀ k, k <= n -> (∀ i, i < k -> B i = true) -> (∀ i, k <= i -> i < n -> B i = false) -> Q (some k) st) : wpS M A E s (gallop' left key arr base n hint) Q st := by
  have ask : ∀ (i : Nat) (Q : Option Bool -> SortSt -> Prop), i < n -> Q (some (B i)) st -> wpS M A E s (do let x <- elem' arr (base + i); if left = true then lt' x key else do let r <- lt' key x; pure (r.map (!·))) Q st := fun i Q hi h => by
    have hz' : base + i < arr.size := by lia
    exact wp_bey C hk hz' (hS _ hz') sk (by rw [hB i hz' hi]; exact h)
  have monoF : ∀ i j, i <= j -> j < n -> B i = false -> B j = false := fun i j hij hj h => by
    cases e : B j with
    | false => rfl
    | true => rw [mono i j hij hj e] at h; cases h
  unfold gallop'
  refine wpS_bind (ask hint _ hh ?_)
  dsimp only
  cases e0 : B hint with
  | true =>
    rw [if_pos rfl]
    refine wpS_bind (wpS_mono (wpS_forRange (I := fun t c st' => ∃ lastofs ofs, c = (none, lastofs, ofs) /\ st' = st /\ lastofs < ofs /\ t + 1 <= ofs /\ hint + lastofs < n /\ B (hint + lastofs) = true)
      (Q := fun c st' => ∃ lastofs ofs, c = (none, lastofs, ofs) /\ st' = st /\ lastofs < ofs /\ hint + lastofs < n /\ B (hint + lastofs) = true /\ (ofs ≥ n - hint \/ (hint + ofs < n /\ B (hint + ofs) = false))) ?step ?fin ⟨0, 1, rfl, rfl, by lia, by lia, hh, e0⟩) ?post)
    case fin =>
      rintro c st' ⟨lo, ofs, rfl, rfl, a1, a2, a3, a4⟩
      exact ⟨lo, ofs, rfl, rfl, a1, a3, a4, .inl (by lia)⟩
    case step =>
      rintro t c st' _ ht ⟨lo, ofs, rfl, rfl, a1, a2, a3, a4⟩
      dsimp only
      by_cases hge : ofs ≥ n - hint
      · rw [if_pos hge]
        exact wpS_pure ⟨lo, ofs, rfl, rfl, a1, a3, a4, .inl hge⟩
      · rw [if_neg hge]
        refine wpS_bind (ask _ _ (by lia) ?_)
        dsimp only
        cases e : B (hint + ofs) with
        | true => exact wpS_pure ⟨_, _, rfl, rfl, by lia, by lia, by lia, e⟩
        | false => exact wpS_pure ⟨_, _, rfl, rfl, a1, a3, a4, .inr ⟨by lia, e⟩⟩
    case post =>
      rintro c st' ⟨lo, ofs, rfl, rfl, a1, a3, a4, a5⟩
      dsimp only
      refine wpS_bind (wp_search (B := B) mono ?_ ?_ (fun i hi => mono i (hint + lo) (by lia) a3 a4) (fun i h5 h6 => ?_) (fun t lo hi R l1 l2 r1 r2 => ?_) fun k k1 k2 k3 => wpS_pure (q k k1 k2 k3))
      · lia
      · lia
      · rcases a5 with a5 | a5
        · lia
        · exact monoF (hint + ofs) i (by lia) h6 a5.2
      · dsimp only
        by_cases hge : lo ≥ hi
        · rw [if_pos hge]; exact wpS_pure (r1 hge)
        · rw [if_neg hge]
          refine wpS_bind (ask _ _ (by lia) ?_)
          cases e : B (lo + (hi - lo) / 2) with
          | true => exact wpS_pure ((r2 (by lia)).1 e)
          | false => exact wpS_pure ((r2 (by lia)).2 e)
  | false =>
    rw [if_neg (by decide)]
    refine wpS_bind (wpS_mono (wpS_forRange (I := fun t c st' => ∃ lastofs ofs, c = (none, lastofs, ofs) /\ st' = st /\ lastofs < ofs /\ t + 1 <= ofs /\ lastofs <= hint /\ B (hint - lastofs) = false)
      (Q := fun c st' => ∃ lastofs ofs, c = (none, lastofs, ofs) /\ st' = st /\ lastofs < ofs /\ lastofs <= hint /\ B (hint - lastofs) = false /\ (ofs ≥ hint + 1 \/ (ofs <= hint /\ B (hint - ofs) = true))) ?step ?fin ⟨0, 1, rfl, rfl, by lia, by lia, by lia, e0⟩) ?post)
    case fin =>
      rintro c st' ⟨lo, ofs, rfl, rfl, a1, a2, a3, a4⟩
      exact ⟨lo, ofs, rfl, rfl, a1, a3, a4, .inl (by lia)⟩
    case step =>
      rintro t c st' _ ht ⟨lo, ofs, rfl, rfl, a1, a2, a3, a4⟩
      dsimp only
      by_cases hge : ofs ≥ hint + 1
      · rw [if_pos hge]
        exact wpS_pure ⟨lo, ofs, rfl, rfl, a1, a3, a4, .inl hge⟩
      · rw [if_neg hge]
        refine wpS_bind (ask _ _ (by lia) ?_)
        dsimp only
        cases e : B (hint - ofs) with
        | true => exact wpS_pure ⟨_, _, rfl, rfl, a1, a3, a4, .inr ⟨by lia, e⟩⟩
        | false => exact wpS_pure ⟨_, _, rfl, rfl, by lia, by lia, by lia, e⟩
    case post =>
      rintro c st' ⟨lo, ofs, rfl, rfl, a1, a3, a4, a5⟩
      dsimp only
      refine wpS_bind (wp_search (B := B) mono ?_ ?_ (fun i hi => ?_) (fun i h5 h6 => monoF (hint - lo) i (by lia) h6 a4) (fun t lo hi R l1 l2 r1 r2 => ?_) fun k k1 k2 k3 => wpS_pure (q k k1 k2 k3))
      · lia
      · lia
      · rcases a5 with a5 | a5
        · lia
        · exact mono i (hint - ofs) (by lia) (by lia) a5.2
      · dsimp only
        by_cases hge : lo ≥ hi
        · rw [if_pos hge]; exact wpS_pure (r1 hge)
        · rw [if_neg hge]
          refine wpS_bind (ask _ _ (by lia) ?_)
          cases e : B (lo + (hi - lo) / 2) with
          | true => exact wpS_pure ((r2 (by lia)).1 e)
          | false => exact wpS_pure ((r2 (by lia)).2 e)
end
end Tm
end
section
namespace Tm
open PySem PySem.W PyProof.Rows
structure Ord (S : Keyed -> Prop) (L : Keyed -> Keyed -> Bool) : Prop where
  asym : ∀ x y, S x -> S y -> L x y = true -> L y x = false
  trans : ∀ x y z, S x -> S y -> S z -> L y x = false -> L z y = false -> L z x = false
noncomputable def Srt (L : Keyed -> Keyed -> Bool) (l : List Keyed) : Prop := l.Pairwise fun x y => L y x = false
section
variable {S : Keyed -> Prop} {L : Keyed -> Keyed -> Bool} {la lb out : List Keyed} {ia ib : Nat}
noncomputable def MI (L : Keyed -> Keyed -> Bool) (la lb out : List Keyed) (ia ib : Nat) : Prop :=
  out.Perm (la.take ia ++ lb.take ib) /\ Srt L out /\ (∀ x ∈ out, ∀ y ∈ la.drop ia, L y x = false) /\ ∀ x ∈ out, ∀ y ∈ lb.drop ib, L y x = false
theorem srt_drop {l : List Keyed} {i : Nat} (h : Srt L l) (hi : i < l.length) : ∀ y ∈ l.drop (i + 1), L y l[i] = false := by
  have h' : Srt L (l.drop i) := List.Pairwise.sublist (List.drop_sublist _ _) h
  rw [List.drop_eq_getElem_cons hi] at h'
  exact (List.pairwise_cons.mp h').1
theorem mem_drop_succ {l : List Keyed} {i : Nat} {y : Keyed} (h : y ∈ l.drop (i + 1)) : y ∈ l.drop i := by
  rw [show l.drop (i + 1) = (l.drop i).drop 1 by rw [List.drop_drop]] at h
  exact List.mem_of_mem_drop h
theorem mem_drop_get {l : List Keyed} {i : Nat} (h : i < l.length) : l[i] ∈ l.drop i := by rw [List.drop_eq_getElem_cons h]; exact List.mem_cons_self
theorem MI.a (hl : Srt L la) (h : MI L la lb out ia ib) (hi : ia < la.length) (le : ∀ y ∈ lb.drop ib, L y la[ia] = false) : MI L la lb (out ++ [la[ia]]) (ia + 1) ib := by
  obtain ⟨h1, h2, h3, h4⟩ := h
  refine ⟨?_, List.pairwise_append.mpr ⟨h2, List.pairwise_singleton _ _, fun x hx y hy => ?_⟩, fun x hx y hy => ?_, fun x hx y hy => ?_⟩
  · rw [List.take_add_one, List.getElem?_eq_getElem hi]
    show (out ++ [la[ia]]).Perm (la.take ia ++ [la[ia]] ++ lb.take ib)
    refine (h1.append_right _).trans ?_
    rw [List.append_assoc, List.append_assoc]
    exact List.Perm.append_left _ List.perm_append_comm
  · rw [List.mem_singleton.mp hy]; exact h3 x hx _ (mem_drop_get hi)
  · rcases List.mem_append.mp hx with z | z
    · exact h3 x z y (mem_drop_succ hy)
    · rw [List.mem_singleton.mp z]; exact srt_drop hl hi y hy
  · rcases List.mem_append.mp hx with z | z
    · exact h4 x z y hy
    · rw [List.mem_singleton.mp z]; exact le y hy
theorem MI.b (hl : Srt L lb) (h : MI L la lb out ia ib) (hi : ib < lb.length) (le : ∀ y ∈ la.drop ia, L y lb[ib] = false) : MI L la lb (out ++ [lb[ib]]) ia (ib + 1) := by
  obtain ⟨h1, h2, h3, h4⟩ := h
  refine ⟨?_, List.pairwise_append.mpr ⟨h2, List.pairwise_singleton _ _, fun x hx y hy => ?_⟩, fun x hx y hy => ?_, fun x hx y hy => ?_⟩
  · rw [List.take_add_one, List.getElem?_eq_getElem hi]
    show (out ++ [lb[ib]]).Perm (la.take ia ++ (lb.take ib ++ [lb[ib]]))
    rw [<- List.append_assoc]
    exact h1.append_right _
  · rw [List.mem_singleton.mp hy]; exact h4 x hx _ (mem_drop_get hi)
  · rcases List.mem_append.mp hx with z | z
    · exact h3 x z y hy
    · rw [List.mem_singleton.mp z]; exact le y hy
  · rcases List.mem_append.mp hx with z | z
    · exact h4 x z y (mem_drop_succ hy)
    · rw [List.mem_singleton.mp z]; exact srt_drop hl hi y hy
theorem take_drop_succ {l : List Keyed} {i k : Nat} (h : i + k < l.length) : (l.drop i).take (k + 1) = (l.drop i).take k ++ [l[i + k]] := by
  rw [List.take_add_one, List.getElem?_drop, List.getElem?_eq_getElem h]; rfl
theorem MI.as (hl : Srt L la) (h : MI L la lb out ia ib) : ∀ k, ia + k <= la.length -> (∀ i (hi : ia + i < la.length), i < k -> ∀ y ∈ lb.drop ib, L y la[ia + i] = false) -> MI L la lb (out ++ (la.drop ia).take k) (ia + k) ib
  | 0, _, _ => by simpa using h
  | k + 1, hk, le => by
    have ih := MI.as hl h k (by lia) fun i hi hik => le i hi (by lia)
    have := ih.a hl (show ia + k < la.length by lia) (le k (by lia) (by lia))
    rw [take_drop_succ (by lia), <- List.append_assoc]
    exact this
theorem MI.bs (hl : Srt L lb) (h : MI L la lb out ia ib) : ∀ k, ib + k <= lb.length -> (∀ i (hi : ib + i < lb.length), i < k -> ∀ y ∈ la.drop ia, L y lb[ib + i] = false) -> MI L la lb (out ++ (lb.drop ib).take k) ia (ib + k)
  | 0, _, _ => by simpa using h
  | k + 1, hk, le => by
    have ih := MI.bs hl h k (by lia) fun i hi hik => le i hi (by lia)
    have := ih.b hl (show ib + k < lb.length by lia) (le k (by lia) (by lia))
    rw [take_drop_succ (by lia), <- List.append_assoc]
    exact this
noncomputable def Mg (L : Keyed -> Keyed -> Bool) (la lb r : List Keyed) : Prop := r.Perm (la ++ lb) /\ Srt L r
theorem MI.endb (hl : Srt L la) (h : MI L la lb out ia ib) (e : ib = lb.length) : Mg L la lb (out ++ la.drop ia ++ lb.drop ib) := by
  obtain ⟨h1, h2, h3, h4⟩ := h
  subst e
  rw [List.drop_length, List.append_nil]
  rw [List.take_length] at h1
  refine ⟨?_, List.pairwise_append.mpr ⟨h2, List.Pairwise.sublist (List.drop_sublist _ _) hl, h3⟩⟩
  refine (h1.append_right _).trans ?_
  rw [List.append_assoc]
  refine (List.Perm.append_left _ List.perm_append_comm).trans ?_
  rw [<- List.append_assoc, List.take_append_drop]
theorem MI.enda (hl : Srt L lb) (h : MI L la lb out ia ib) (e : ia = la.length) : Mg L la lb (out ++ la.drop ia ++ lb.drop ib) := by
  obtain ⟨h1, h2, h3, h4⟩ := h
  subst e
  rw [List.drop_length, List.append_nil]
  rw [List.take_length] at h1
  refine ⟨?_, List.pairwise_append.mpr ⟨h2, List.Pairwise.sublist (List.drop_sublist _ _) hl, h4⟩⟩
  refine (h1.append_right _).trans ?_
  rw [List.append_assoc, List.take_append_drop]
theorem MI.lasta (hl : Srt L lb) (h : MI L la lb out ia ib) (e : ia + 1 = la.length) (le : ∀ y ∈ lb, L la[ia] y = false) : Mg L la lb (out ++ lb.drop ib ++ la.drop ia) := by
  obtain ⟨h1, h2, h3, h4⟩ := h
  have hd : la.drop ia = [la[ia]] := by rw [List.drop_eq_getElem_cons (by lia), List.drop_of_length_le (by lia)]
  refine ⟨?_, ?_⟩
  · rw [List.append_assoc]
    refine (h1.append_right _).trans ?_
    rw [List.append_assoc]
    have : (lb.take ib ++ (lb.drop ib ++ la.drop ia)).Perm (la.drop ia ++ lb) := by
      rw [<- List.append_assoc, List.take_append_drop]
      exact List.perm_append_comm
    refine (List.Perm.append_left _ this).trans ?_
    rw [<- List.append_assoc, List.take_append_drop]
  · rw [List.append_assoc]
    refine List.pairwise_append.mpr ⟨h2, List.pairwise_append.mpr ⟨List.Pairwise.sublist (List.drop_sublist _ _) hl, by rw [hd]; exact List.pairwise_singleton _ _, fun x hx y hy => ?_⟩, fun x hx y hy => ?_⟩
    · rw [hd] at hy
      rw [List.mem_singleton.mp hy]
      exact le x (List.mem_of_mem_drop hx)
    · rcases List.mem_append.mp hy with z | z
      · exact h4 x hx y z
      · exact h3 x hx y z
end
end Tm
end
section
namespace Tm
open PySem PySem.W PyProof.Rows
noncomputable def SG0 (st st' : SortSt) : Prop := kindOf st' = kindOf st /\ arrOf st' = arrOf st /\ pendingOf st' = pendingOf st /\ failedOf st' = failedOf st
theorem SG0.refl (st : SortSt) : SG0 st st := ⟨rfl, rfl, rfl, rfl⟩
theorem SG0.trans {a b c : SortSt} (h : SG0 a b) (k : SG0 b c) : SG0 a c := ⟨k.1.trans h.1, k.2.1.trans h.2.1, k.2.2.1.trans h.2.2.1, k.2.2.2.trans h.2.2.2⟩
theorem ext1 (a : Array Keyed) (i : Nat) : (a.extract i).toList = a.toList.drop i := by
  rw [Array.toList_extract]
  simp only [List.extract]
  rw [List.take_of_length_le (by simp)]
theorem ext2 (a : Array Keyed) (i k : Nat) : (a.extract i (i + k)).toList = (a.toList.drop i).take k := by
  rw [Array.toList_extract]
  simp [List.extract]
section
variable {M : Model} {A : Around} {E : Value -> Shared -> Prop} {s : Shared} {κ : SortKind} {S : Keyed -> Prop} {L : Keyed -> Keyed -> Bool}
theorem wp_gal {left : Bool} {key : Keyed} {arr : Array Keyed} {base n hint : Nat} {st : SortSt} {Q : Option Nat -> SortSt -> Prop} (C : Cmp M A E s κ S L) (O : Ord S L) (hk : kindOf st = κ) (sk : S key) (hz : base + n <= arr.size) (hS : ∀ i (h : i < arr.size), S arr[i]) (hh : hint < n)
    (hs : ∀ i j (hi : base + i < arr.size) (hj : base + j < arr.size), i < j -> j < n -> L arr[base + j] arr[base + i] = false)
    (q : ∀ k, k <= n -> (∀ i (h : base + i < arr.size), i < k -> bey L left key arr[base + i] = true) -> (∀ i (h : base + i < arr.size), k <= i -> i < n -> bey L left key arr[base + i] = false) -> Q (some k) st) : wpS M A E s (gallop' left key arr base n hint) Q st := by
  have hB : ∀ i (h : base + i < arr.size), (if h : base + i < arr.size then bey L left key arr[base + i] else false) = bey L left key arr[base + i] := fun i h => dif_pos h
  refine wp_gallop C hk sk hz hS hh (fun i => if h : base + i < arr.size then bey L left key arr[base + i] else false) (fun i h _ => (hB i h).symm) (fun i j hij hj e => ?_) fun k k1 k2 k3 => q k k1 (fun i h hi => by rw [<- hB i h]; exact k2 i hi) (fun i h h1 h2 => by rw [<- hB i h]; exact k3 i h1 h2)
  have zj : base + j < arr.size := by lia
  have zi : base + i < arr.size := by lia
  rw [hB j zj] at e
  rw [hB i zi]
  by_cases eij : i = j
  · subst eij; exact e
  have l := hs i j zi zj (by lia) hj
  unfold bey at e ⊢
  cases left with
  | true =>
    rw [if_pos rfl] at e ⊢
    cases z : L arr[base + i] key with
    | true => rfl
    | false => rw [O.trans key _ _ sk (hS _ zi) (hS _ zj) z l] at e; cases e
  | false =>
    rw [if_neg (by decide)] at e ⊢
    have e' : L key arr[base + j] = false := by simpa using e
    rw [O.trans _ _ key (hS _ zi) (hS _ zj) sk l e']
    rfl
theorem wp_lo {a b : Array Keyed} {st : SortSt} {Q : Array Keyed -> SortSt -> Prop} (C : Cmp M A E s κ S L) (O : Ord S L) (hk : kindOf st = κ) (hSa : ∀ i (h : i < a.size), S a[i]) (hSb : ∀ i (h : i < b.size), S b[i])
    (ha : Srt L a.toList) (hb : Srt L b.toList) (na : 0 < a.size) (nb : 0 < b.size) (h0 : ∀ x ∈ a.toList, L b[0] x = true) (h1 : ∀ y ∈ b.toList, L y a[a.size - 1] = true)
    (q : ∀ r st', SG0 st st' -> Mg L a.toList b.toList r.toList -> Q r st') : wpS M A E s (mergeLo' a b) Q st := by
  have La : a.toList.length = a.size := Array.length_toList
  have Lb : b.toList.length = b.size := Array.length_toList
  have Sa : ∀ x ∈ a.toList, S x := fun x hx => by
    obtain ⟨i, hi, rfl⟩ := List.getElem_of_mem hx
    rw [Array.getElem_toList]; exact hSa i (by lia)
  have Sb : ∀ x ∈ b.toList, S x := fun x hx => by
    obtain ⟨i, hi, rfl⟩ := List.getElem_of_mem hx
    rw [Array.getElem_toList]; exact hSb i (by lia)
  -- what stands behind is not less
  have leA : ∀ (ia : Nat) (h : ia < a.size) (z : Keyed), S z -> L a[ia] z = false -> ∀ y ∈ a.toList.drop ia, L y z = false := fun ia h z sz e y hy => by
    rw [List.drop_eq_getElem_cons (by lia)] at hy
    rcases List.mem_cons.mp hy with rfl | hy
    · rw [Array.getElem_toList]; exact e
    · have := srt_drop ha (show ia < a.toList.length by lia) y hy
      rw [Array.getElem_toList] at this
      exact O.trans _ _ _ sz (hSa ia h) (Sa y (List.mem_of_mem_drop hy)) e this
  have leB : ∀ (ib : Nat) (h : ib < b.size) (z : Keyed), S z -> L b[ib] z = false -> ∀ y ∈ b.toList.drop ib, L y z = false := fun ib h z sz e y hy => by
    rw [List.drop_eq_getElem_cons (by lia)] at hy
    rcases List.mem_cons.mp hy with rfl | hy
    · rw [Array.getElem_toList]; exact e
    · have := srt_drop hb (show ib < b.toList.length by lia) y hy
      rw [Array.getElem_toList] at this
      exact O.trans _ _ _ sz (hSb ib h) (Sb y (List.mem_of_mem_drop hy)) e this
  have srtA : ∀ i j (hi : i < a.size) (hj : j < a.size), i < j -> L a[j] a[i] = false := fun i j hi hj hij => by
    have := List.pairwise_iff_getElem.mp ha i j (by lia) (by lia) hij
    simpa using this
  have srtB : ∀ i j (hi : i < b.size) (hj : j < b.size), i < j -> L b[j] b[i] = false := fun i j hi hj hij => by
    have := List.pairwise_iff_getElem.mp hb i j (by lia) (by lia) hij
    simpa using this
  -- the three ends
  have endB : ∀ (out : Array Keyed) (ia ib : Nat), MI L a.toList b.toList out.toList ia ib -> ib = b.size -> Mg L a.toList b.toList (out ++ a.extract ia ++ b.extract ib).toList := fun out ia ib h e => by
    rw [Array.toList_append, Array.toList_append, ext1, ext1]
    exact h.endb ha (by lia)
  have endA : ∀ (out : Array Keyed) (ia ib : Nat), MI L a.toList b.toList out.toList ia ib -> ia = a.size -> Mg L a.toList b.toList (out ++ a.extract ia ++ b.extract ib).toList := fun out ia ib h e => by
    rw [Array.toList_append, Array.toList_append, ext1, ext1]
    exact h.enda hb (by lia)
  have lastA : ∀ (out : Array Keyed) (ia ib : Nat), MI L a.toList b.toList out.toList ia ib -> ia + 1 = a.size -> Mg L a.toList b.toList (out ++ b.extract ib ++ a.extract ia).toList := fun out ia ib h e => by
    rw [Array.toList_append, Array.toList_append, ext1, ext1]
    refine h.lasta hb (by lia) fun y hy => ?_
    have e1 := h1 y hy
    have e2 : a.toList[ia]'(by lia) = a[a.size - 1] := by
      rw [Array.getElem_toList]
      congr 1; lia
    rw [e2]
    exact O.asym _ _ (Sb y hy) (hSa _ (by lia)) e1
  have pushA : ∀ (out : Array Keyed) (ia ib : Nat) (h : ia < a.size), MI L a.toList b.toList out.toList ia ib -> (∀ y ∈ b.toList.drop ib, L y a[ia] = false) -> MI L a.toList b.toList (out.push a[ia]).toList (ia + 1) ib := fun out ia ib h m le => by
    have := m.a ha (show ia < a.toList.length by lia) (by rw [Array.getElem_toList]; exact le)
    rw [Array.getElem_toList] at this
    rw [Array.toList_push]; exact this
  have pushB : ∀ (out : Array Keyed) (ia ib : Nat) (h : ib < b.size), MI L a.toList b.toList out.toList ia ib -> (∀ y ∈ a.toList.drop ia, L y b[ib] = false) -> MI L a.toList b.toList (out.push b[ib]).toList ia (ib + 1) := fun out ia ib h m le => by
    have := m.b hb (show ib < b.toList.length by lia) (by rw [Array.getElem_toList]; exact le)
    rw [Array.getElem_toList] at this
    rw [Array.toList_push]; exact this
  have m0 : MI L a.toList b.toList (#[b[0]] : Array Keyed).toList 0 1 := by
    have h00 : MI L a.toList b.toList (#[] : Array Keyed).toList 0 0 := ⟨by simp, List.Pairwise.nil, fun x hx => by simp at hx, fun x hx => by simp at hx⟩
    exact pushB #[] 0 0 nb h00 fun y hy => O.asym _ _ (hSb 0 nb) (Sa y (List.mem_of_mem_drop hy)) (h0 y (List.mem_of_mem_drop hy))
  unfold mergeLo'
  refine wpS_bind (wpS_lift (wpAny_rule ⟨rfl, ?_⟩))
  refine wpS_bind (wp_elem nb ?_)
  dsimp only
  by_cases e1 : (1 == b.size) = true
  · rw [if_pos e1]
    exact wpS_pure (q _ _ (.refl _) (endB _ _ _ m0 (by simpa using e1)))
  rw [if_neg e1]
  by_cases e2 : (0 + 1 == a.size) = true
  · rw [if_pos e2]
    exact wpS_pure (q _ _ (.refl _) (lastA _ _ _ m0 (by simpa using e2)))
  rw [if_neg e2]
  have e1' : 1 < b.size := by have : 1 ≠ b.size := by simpa using e1
                              lia
  have e2' : 0 + 1 < a.size := by have : 1 ≠ a.size := by simpa using e2
                                  lia
  refine wpS_bind (wpS_get ?_)
  refine wpS_bind (wpS_mono (wpS_forRange (I := fun t c st' => ∃ out ia ib mg, c = (none, out, ia, ib, mg) /\ SG0 st st' /\ MI L a.toList b.toList out.toList ia ib /\ ia + 1 < a.size /\ ib < b.size /\ t + 1 <= ia + ib)
    (Q := fun c st' => ∃ r out ia ib mg, c = (some r, out, ia, ib, mg) /\ SG0 st st' /\ Mg L a.toList b.toList r.toList) ?step ?fin ⟨_, _, _, _, rfl, .refl _, m0, e2', e1', by lia⟩) ?post)
  case fin =>
    rintro c st' ⟨out, ia, ib, mg, rfl, g, m, l1, l2, l3⟩
    lia
  case post =>
    rintro c st' ⟨r, out, ia, ib, mg, rfl, g, m⟩
    exact wpS_pure (q _ _ g m)
  case step =>
    rintro t c st1 _ ht ⟨out, ia, ib, mg, rfl, g1, m1, l1, l2, l3⟩
    have hk1 : kindOf st1 = κ := g1.1.trans hk
    dsimp only
    refine wpS_bind (wpS_mono (wpS_forRange (I := fun u c st' => ∃ out ia ib ac bc, c = (none, out, ia, ib, ac, bc) /\ st' = st1 /\ MI L a.toList b.toList out.toList ia ib /\ ia + 1 < a.size /\ ib < b.size /\ t + 1 <= ia + ib /\ (1 <= u -> t + 2 <= ia + ib))
      (Q := fun c st' => st' = st1 /\ ((∃ r out ia ib ac bc, c = (some r, out, ia, ib, ac, bc) /\ Mg L a.toList b.toList r.toList) \/ ∃ out ia ib ac bc, c = (none, out, ia, ib, ac, bc) /\ MI L a.toList b.toList out.toList ia ib /\ ia + 1 < a.size /\ ib < b.size /\ t + 2 <= ia + ib)) ?istep ?ifin ⟨_, _, _, _, _, rfl, rfl, m1, l1, l2, l3, by lia⟩) ?ipost)
    case ifin =>
      rintro c st' ⟨out, ia, ib, ac, bc, rfl, rfl, m, k1, k2, k3, k4⟩
      exact ⟨rfl, .inr ⟨_, _, _, _, _, rfl, m, k1, k2, k4 (by lia)⟩⟩
    case istep =>
      rintro u c st' _ hu ⟨out, ia, ib, ac, bc, rfl, rfl, m, k1, k2, k3, k4⟩
      dsimp only
      refine wpS_bind (wp_elem k2 ?_)
      refine wpS_bind (wp_elem (show ia < a.size by lia) ?_)
      refine wpS_bind (C _ _ _ _ hk1 (hSb _ k2) (hSa _ (by lia)) ?_)
      dsimp only
      cases eL : L b[ib] a[ia] with
      | true =>
        rw [if_pos rfl]
        refine wpS_bind (wp_elem k2 ?_)
        have m' := pushB out ia ib k2 m (leA ia (by lia) _ (hSb _ k2) (O.asym _ _ (hSb _ k2) (hSa _ (by lia)) eL))
        by_cases z : (ib + 1 == b.size) = true
        · rw [if_pos z]
          exact wpS_pure ⟨rfl, .inl ⟨_, _, _, _, _, _, rfl, endB _ _ _ m' (by simpa using z)⟩⟩
        · rw [if_neg z]
          have z' : ib + 1 < b.size := by have : ib + 1 ≠ b.size := by simpa using z
                                          lia
          split
          · exact wpS_pure ⟨rfl, .inr ⟨_, _, _, _, _, rfl, m', k1, z', by lia⟩⟩
          · exact wpS_pure ⟨_, _, _, _, _, rfl, rfl, m', k1, z', by lia, fun _ => by lia⟩
      | false =>
        rw [if_neg (by decide)]
        refine wpS_bind (wp_elem (show ia < a.size by lia) ?_)
        have m' := pushA out ia ib (by lia) m (leB ib k2 _ (hSa _ (by lia)) eL)
        by_cases z : (ia + 1 + 1 == a.size) = true
        · rw [if_pos z]
          exact wpS_pure ⟨rfl, .inl ⟨_, _, _, _, _, _, rfl, lastA _ _ _ m' (by simpa using z)⟩⟩
        · rw [if_neg z]
          have z' : ia + 1 + 1 < a.size := by have : ia + 1 + 1 ≠ a.size := by simpa using z
                                              lia
          split
          · exact wpS_pure ⟨rfl, .inr ⟨_, _, _, _, _, rfl, m', z', k2, by lia⟩⟩
          · exact wpS_pure ⟨_, _, _, _, _, rfl, rfl, m', z', k2, by lia, fun _ => by lia⟩
    case ipost =>
      rintro c st' ⟨rfl, ⟨r, out, ia, ib, ac, bc, rfl, m⟩ | ⟨out, ia, ib, ac, bc, rfl, m, k1, k2, k3⟩⟩
      · exact wpS_pure ⟨_, _, _, _, _, rfl, g1, m⟩
      dsimp only
      refine wpS_bind (wpS_lift (wpAny_rule ⟨rfl, ?_⟩))
      refine wpS_bind (wpS_mono (wpS_forRange (I := fun u c st'' => ∃ out ia ib mg ac bc, c = (none, out, ia, ib, mg, ac, bc) /\ SG0 st st'' /\ MI L a.toList b.toList out.toList ia ib /\ ia + 1 < a.size /\ ib < b.size /\ t + 2 <= ia + ib)
        (Q := fun c st'' => SG0 st st'' /\ ((∃ r out ia ib mg ac bc, c = (some r, out, ia, ib, mg, ac, bc) /\ Mg L a.toList b.toList r.toList) \/ ∃ out ia ib mg ac bc, c = (none, out, ia, ib, mg, ac, bc) /\ MI L a.toList b.toList out.toList ia ib /\ ia + 1 < a.size /\ ib < b.size /\ t + 2 <= ia + ib)) ?gstep ?gfin ⟨_, _, _, _, _, _, rfl, g1, m, k1, k2, k3⟩) ?gpost)
      case gfin =>
        rintro c st'' ⟨out, ia, ib, mg, ac, bc, rfl, g, m, k1, k2, k3⟩
        exact ⟨g, .inr ⟨_, _, _, _, _, _, rfl, m, k1, k2, k3⟩⟩
      case gpost =>
        rintro c st'' ⟨g, ⟨r, out, ia, ib, mg, ac, bc, rfl, m⟩ | ⟨out, ia, ib, mg, ac, bc, rfl, m, k1, k2, k3⟩⟩
        · exact wpS_pure ⟨_, _, _, _, _, rfl, g, m⟩
        dsimp only
        refine wpS_bind (wpS_modify ?_)
        exact wpS_pure ⟨_, _, _, _, rfl, g.trans ⟨rfl, rfl, rfl, rfl⟩, m, k1, k2, k3⟩
      case gstep =>
        rintro u c st2 _ hu ⟨out, ia, ib, mg, ac, bc, rfl, g2, m, k1, k2, k3⟩
        dsimp only
        have key : ∀ (x y : Keyed), bey L false x y = true -> L x y = false := fun x y h => by simpa [bey] using h
        have key' : ∀ (x y : Keyed), bey L false x y = false -> L x y = true := fun x y h => by simpa [bey] using h
        by_cases c1 : mg > 1
        case' pos => rw [if_pos c1]
        case' neg => rw [if_neg c1]
        all_goals
          refine wpS_bind (wpS_modify ?_)
          have g3 : SG0 st (SortSt.mk' (kindOf st2) (arrOf st2) (pendingOf st2) _ (failedOf st2)) := g2.trans ⟨rfl, rfl, rfl, rfl⟩
          refine wpS_bind (wp_elem k2 ?_)
          refine wpS_bind (wp_gal (left := false) C O (g2.1.trans hk) (hSb _ k2) (by lia) hSa (by lia) (fun i j hi hj hij hjn => srtA _ _ hi hj (by lia)) fun k kn kt kf => ?_)
          dsimp only
          rcases Nat.eq_zero_or_pos k with c2 | c2
          case' inl =>
            rw [if_neg (by lia)]
            have mX := m
            have kX := k1
            have leX := leA ia (by lia) _ (hSb _ k2) (O.asym _ _ (hSb _ k2) (hSa _ (by lia)) (key' _ _ (kf 0 (by lia) (by lia) (by lia))))
            have zX : ia <= ia := Nat.le_refl _
          case' inr =>
            rw [if_pos c2]
            have mX : MI L a.toList b.toList (out ++ a.extract ia (ia + k)).toList (ia + k) ib := by
              rw [Array.toList_append, ext2]
              refine m.as ha k (by lia) fun i hi hik => ?_
              rw [Array.getElem_toList]
              exact leB ib k2 _ (hSa _ (by lia)) (key _ _ (kt i (by lia) hik))
            by_cases z1 : (ia + k + 1 == a.size) = true
            · rw [if_pos z1]
              exact wpS_pure ⟨g3, .inl ⟨_, _, _, _, _, _, _, rfl, lastA _ _ _ mX (by simpa using z1)⟩⟩
            rw [if_neg z1]
            by_cases z2 : (ia + k == a.size) = true
            · rw [if_pos z2]
              exact wpS_pure ⟨g3, .inl ⟨_, _, _, _, _, _, _, rfl, endA _ _ _ mX (by simpa using z2)⟩⟩
            rw [if_neg z2]
            have kX : ia + k + 1 < a.size := by
              have t1 : ia + k + 1 ≠ a.size := by simpa using z1
              have t2 : ia + k ≠ a.size := by simpa using z2
              lia
            have leX := leA (ia + k) (by lia) _ (hSb _ k2) (O.asym _ _ (hSb _ k2) (hSa _ (by lia)) (key' _ _ (kf k (by lia) (by lia) (by lia))))
            have zX : ia <= ia + k := by lia
          all_goals
            refine wpS_bind (wp_elem k2 ?_)
            have m2 := pushB _ _ ib k2 mX leX
            by_cases z : (ib + 1 == b.size) = true
            · rw [if_pos z]
              exact wpS_pure ⟨g3, .inl ⟨_, _, _, _, _, _, _, rfl, endB _ _ _ m2 (by simpa using z)⟩⟩
            rw [if_neg z]
            have z' : ib + 1 < b.size := by have : ib + 1 ≠ b.size := by simpa using z
                                            lia
            refine wpS_bind (wp_elem (Nat.lt_of_succ_lt kX) ?_)
            refine wpS_bind (wp_gal (left := true) C O (g2.1.trans hk) (hSa _ (Nat.lt_of_succ_lt kX)) (by lia) hSb (by lia) (fun i j hi hj hij hjn => srtB _ _ hi hj (by lia)) fun k' kn' kt' kf' => ?_)
            dsimp only
            have keyT : ∀ (x y : Keyed), bey L true x y = true -> L y x = true := fun x y h => by simpa [bey] using h
            have keyF : ∀ (x y : Keyed), bey L true x y = false -> L y x = false := fun x y h => by simpa [bey] using h
            rcases Nat.eq_zero_or_pos k' with c3 | c3
            case' inl =>
              rw [if_neg (by lia)]
              have mY := m2
              have kY := z'
              have leY := leB (ib + 1) z' _ (hSa _ (Nat.lt_of_succ_lt kX)) (keyF _ _ (kf' 0 (by lia) (by lia) (by lia)))
              have yY : ib + 1 <= ib + 1 := Nat.le_refl _
            case' inr =>
              rw [if_pos c3]
              have mY := m2.bs hb k' (by lia) fun i hi hik => by
                rw [Array.getElem_toList]
                exact leA _ (Nat.lt_of_succ_lt kX) _ (hSb _ (by lia)) (O.asym _ _ (hSb _ (by lia)) (hSa _ (Nat.lt_of_succ_lt kX)) (keyT _ _ (kt' i (by lia) hik)))
              rw [<- ext2, <- Array.toList_append] at mY
              by_cases z3 : (ib + 1 + k' == b.size) = true
              · rw [if_pos z3]
                exact wpS_pure ⟨g3, .inl ⟨_, _, _, _, _, _, _, rfl, endB _ _ _ mY (by simpa using z3)⟩⟩
              rw [if_neg z3]
              have kY : ib + 1 + k' < b.size := by have : ib + 1 + k' ≠ b.size := by simpa using z3
                                                   lia
              have leY := leB (ib + 1 + k') kY _ (hSa _ (Nat.lt_of_succ_lt kX)) (keyF _ _ (kf' k' (by lia) (by lia) (by lia)))
              have yY : ib + 1 <= ib + 1 + k' := by lia
            all_goals
              refine wpS_bind (wp_elem (Nat.lt_of_succ_lt kX) ?_)
              have m3 := pushA _ _ _ (Nat.lt_of_succ_lt kX) mY leY
              split
              · rename_i z4
                exact wpS_pure ⟨g3, .inl ⟨_, _, _, _, _, _, _, rfl, lastA _ _ _ m3 (by simpa using z4)⟩⟩
              · rename_i z4
                simp only [beq_iff_eq] at z4
                split
                · exact wpS_pure ⟨g3, .inr ⟨_, _, _, _, _, _, rfl, m3, by lia, kY, by lia⟩⟩
                · exact wpS_pure ⟨_, _, _, _, _, _, rfl, g3, m3, by lia, kY, by lia⟩
end
end Tm
end
section
namespace Tm
open PySem PySem.W PyProof.Rows
section
variable {S : Keyed -> Prop} {L : Keyed -> Keyed -> Bool} {la lb lo : List Keyed} {na nb : Nat}
noncomputable def MH (L : Keyed -> Keyed -> Bool) (la lb lo : List Keyed) (na nb : Nat) : Prop :=
  lo.Perm (la.drop na ++ lb.drop nb) /\ Srt L lo /\ (∀ x ∈ la.take na, ∀ y ∈ lo, L y x = false) /\ ∀ x ∈ lb.take nb, ∀ y ∈ lo, L y x = false
theorem srt_take {l : List Keyed} {i : Nat} (h : Srt L l) (hi : i < l.length) : ∀ x ∈ l.take i, L l[i] x = false := by
  have h' : Srt L (l.take i ++ l.drop i) := by rw [List.take_append_drop]; exact h
  intro x hx
  exact (List.pairwise_append.mp h').2.2 x hx _ (mem_drop_get hi)
theorem mem_take_succ {l : List Keyed} {i : Nat} {y : Keyed} (h : y ∈ l.take i) : y ∈ l.take (i + 1) := by
  rw [List.take_add_one]; exact List.mem_append_left _ h
theorem mem_take_get {l : List Keyed} {i : Nat} (h : i < l.length) : l[i] ∈ l.take (i + 1) := by
  rw [List.take_add_one, List.getElem?_eq_getElem h]; exact List.mem_append_right _ (by simp)
theorem MH.a (hl : Srt L la) (h : MH L la lb lo (na + 1) nb) (hi : na < la.length) (le : ∀ x ∈ lb.take nb, L la[na] x = false) : MH L la lb (la[na] :: lo) na nb := by
  obtain ⟨h1, h2, h3, h4⟩ := h
  refine ⟨?_, List.pairwise_cons.mpr ⟨fun y hy => h3 _ (mem_take_get hi) y hy, h2⟩, fun x hx y hy => ?_, fun x hx y hy => ?_⟩
  · rw [List.drop_eq_getElem_cons hi]; exact h1.cons _
  · rcases List.mem_cons.mp hy with rfl | hy
    · exact srt_take hl hi x hx
    · exact h3 x (mem_take_succ hx) y hy
  · rcases List.mem_cons.mp hy with rfl | hy
    · exact le x hx
    · exact h4 x hx y hy
theorem MH.b (hl : Srt L lb) (h : MH L la lb lo na (nb + 1)) (hi : nb < lb.length) (le : ∀ x ∈ la.take na, L lb[nb] x = false) : MH L la lb (lb[nb] :: lo) na nb := by
  obtain ⟨h1, h2, h3, h4⟩ := h
  refine ⟨?_, List.pairwise_cons.mpr ⟨fun y hy => h4 _ (mem_take_get hi) y hy, h2⟩, fun x hx y hy => ?_, fun x hx y hy => ?_⟩
  · rw [List.drop_eq_getElem_cons hi]
    exact (h1.cons _).trans List.perm_middle.symm
  · rcases List.mem_cons.mp hy with rfl | hy
    · exact le x hx
    · exact h3 x hx y hy
  · rcases List.mem_cons.mp hy with rfl | hy
    · exact srt_take hl hi x hx
    · exact h4 x (mem_take_succ hx) y hy
theorem MH.as (hl : Srt L la) : ∀ (k : Nat) {lo : List Keyed}, MH L la lb lo (na + k) nb -> na + k <= la.length -> (∀ i (hi : na + i < la.length), i < k -> ∀ x ∈ lb.take nb, L la[na + i] x = false) -> MH L la lb ((la.drop na).take k ++ lo) na nb
  | 0, lo, h, _, _ => by simpa using h
  | k + 1, lo, h, hk, le => by
    have := MH.as hl k (MH.a hl h (show na + k < la.length by lia) (le k (by lia) (by lia))) (by lia) fun i hi hik => le i hi (by lia)
    rw [take_drop_succ (by lia), List.append_assoc]
    exact this
theorem MH.bs (hl : Srt L lb) : ∀ (k : Nat) {lo : List Keyed}, MH L la lb lo na (nb + k) -> nb + k <= lb.length -> (∀ i (hi : nb + i < lb.length), i < k -> ∀ x ∈ la.take na, L lb[nb + i] x = false) -> MH L la lb ((lb.drop nb).take k ++ lo) na nb
  | 0, lo, h, _, _ => by simpa using h
  | k + 1, lo, h, hk, le => by
    have := MH.bs hl k (MH.b hl h (show nb + k < lb.length by lia) (le k (by lia) (by lia))) (by lia) fun i hi hik => le i hi (by lia)
    rw [take_drop_succ (by lia), List.append_assoc]
    exact this
theorem MH.cast {nb' : Nat} (h : MH L la lb lo na nb) (e : nb' = nb) : MH L la lb lo na nb' := by rw [e]; exact h
theorem MH.enda (hl : Srt L lb) (h : MH L la lb lo na nb) (e : na = 0) : Mg L la lb (la.take na ++ lb.take nb ++ lo) := by
  obtain ⟨h1, h2, h3, h4⟩ := h
  subst e
  rw [List.take_zero, List.nil_append]
  refine ⟨?_, List.pairwise_append.mpr ⟨List.Pairwise.sublist (List.take_sublist _ _) hl, h2, h4⟩⟩
  refine (List.Perm.append_left _ h1).trans ?_
  rw [List.drop_zero, <- List.append_assoc]
  refine (List.Perm.append_right _ List.perm_append_comm).trans ?_
  rw [List.append_assoc, List.take_append_drop]
theorem MH.endb (hl : Srt L la) (h : MH L la lb lo na nb) (e : nb = 0) : Mg L la lb (la.take na ++ lb.take nb ++ lo) := by
  obtain ⟨h1, h2, h3, h4⟩ := h
  subst e
  rw [List.take_zero, List.append_nil]
  refine ⟨?_, List.pairwise_append.mpr ⟨List.Pairwise.sublist (List.take_sublist _ _) hl, h2, h3⟩⟩
  refine (List.Perm.append_left _ h1).trans ?_
  rw [List.drop_zero, <- List.append_assoc, List.take_append_drop]
theorem MH.firstb (hl : Srt L la) (h : MH L la lb lo na nb) (e : nb = 1) (z : 0 < lb.length) (le : ∀ x ∈ la, L x lb[0] = false) : Mg L la lb (lb.take nb ++ la.take na ++ lo) := by
  obtain ⟨h1, h2, h3, h4⟩ := h
  subst e
  have hd : lb.take 1 = [lb[0]] := by rw [show (1 : Nat) = 0 + 1 from rfl, List.take_add_one, List.getElem?_eq_getElem z]; rfl
  refine ⟨?_, ?_⟩
  · refine (List.Perm.append_left _ h1).trans ?_
    rw [List.append_assoc]
    refine (List.perm_append_comm).trans ?_
    rw [<- List.append_assoc, List.take_append_drop, List.append_assoc]
    refine List.Perm.append_left _ (List.perm_append_comm.trans ?_)
    rw [List.take_append_drop]
  · rw [List.append_assoc]
    refine List.pairwise_append.mpr ⟨by rw [hd]; exact List.pairwise_singleton _ _, List.pairwise_append.mpr ⟨List.Pairwise.sublist (List.take_sublist _ _) hl, h2, h3⟩, fun x hx y hy => ?_⟩
    rcases List.mem_append.mp hy with w | w
    · rw [hd] at hx
      rw [List.mem_singleton.mp hx]
      exact le y (List.mem_of_mem_take w)
    · exact h4 x hx y w
end
theorem ext0 (a : Array Keyed) (i : Nat) : (a.extract 0 i).toList = a.toList.take i := by
  rw [Array.toList_extract]
  simp [List.extract]
theorem ext3 (a : Array Keyed) {i j : Nat} (h : i <= j) : (a.extract i j).toList = (a.toList.drop i).take (j - i) := by
  rw [Array.toList_extract]
theorem cat_rev (u : Array Keyed) (v : Array Keyed) : (u ++ v.reverse).toList.reverse = v.toList ++ u.toList.reverse := by
  rw [Array.toList_append, Array.toList_reverse, List.reverse_append, List.reverse_reverse]
section
variable {M : Model} {A : Around} {E : Value -> Shared -> Prop} {s : Shared} {κ : SortKind} {S : Keyed -> Prop} {L : Keyed -> Keyed -> Bool}
theorem wp_hi {a b : Array Keyed} {st : SortSt} {Q : Array Keyed -> SortSt -> Prop} (C : Cmp M A E s κ S L) (O : Ord S L) (hk : kindOf st = κ) (hSa : ∀ i (h : i < a.size), S a[i]) (hSb : ∀ i (h : i < b.size), S b[i])
    (ha : Srt L a.toList) (hb : Srt L b.toList) (na : 0 < a.size) (nb : 0 < b.size) (h0 : ∀ x ∈ a.toList, L b[0] x = true) (h1 : ∀ y ∈ b.toList, L y a[a.size - 1] = true)
    (q : ∀ r st', SG0 st st' -> Mg L a.toList b.toList r.toList -> Q r st') : wpS M A E s (mergeHi' a b) Q st := by
  have La : a.toList.length = a.size := Array.length_toList
  have Lb : b.toList.length = b.size := Array.length_toList
  have Sa : ∀ x ∈ a.toList, S x := fun x hx => by
    obtain ⟨i, hi, rfl⟩ := List.getElem_of_mem hx
    rw [Array.getElem_toList]; exact hSa i (by lia)
  have Sb : ∀ x ∈ b.toList, S x := fun x hx => by
    obtain ⟨i, hi, rfl⟩ := List.getElem_of_mem hx
    rw [Array.getElem_toList]; exact hSb i (by lia)
  have leA : ∀ (i : Nat) (h : i < a.size) (z : Keyed), S z -> L z a[i] = false -> ∀ x ∈ a.toList.take (i + 1), L z x = false := fun i h z sz e x hx => by
    rw [List.take_add_one, List.getElem?_eq_getElem (by lia)] at hx
    rcases List.mem_append.mp hx with w | w
    · have := srt_take ha (show i < a.toList.length by lia) x w
      rw [Array.getElem_toList] at this
      exact O.trans _ _ _ (Sa x (List.mem_of_mem_take w)) (hSa i h) sz this e
    · have : x = a[i] := by simpa using w
      rw [this]; exact e
  have leB : ∀ (i : Nat) (h : i < b.size) (z : Keyed), S z -> L z b[i] = false -> ∀ x ∈ b.toList.take (i + 1), L z x = false := fun i h z sz e x hx => by
    rw [List.take_add_one, List.getElem?_eq_getElem (by lia)] at hx
    rcases List.mem_append.mp hx with w | w
    · have := srt_take hb (show i < b.toList.length by lia) x w
      rw [Array.getElem_toList] at this
      exact O.trans _ _ _ (Sb x (List.mem_of_mem_take w)) (hSb i h) sz this e
    · have : x = b[i] := by simpa using w
      rw [this]; exact e
  have srtA : ∀ i j (hi : i < a.size) (hj : j < a.size), i < j -> L a[j] a[i] = false := fun i j hi hj hij => by
    have := List.pairwise_iff_getElem.mp ha i j (by lia) (by lia) hij
    simpa using this
  have srtB : ∀ i j (hi : i < b.size) (hj : j < b.size), i < j -> L b[j] b[i] = false := fun i j hi hj hij => by
    have := List.pairwise_iff_getElem.mp hb i j (by lia) (by lia) hij
    simpa using this
  have endA : ∀ (out : Array Keyed) (n m : Nat), MH L a.toList b.toList out.toList.reverse n m -> n = 0 -> Mg L a.toList b.toList (a.extract 0 n ++ b.extract 0 m ++ out.reverse).toList := fun out n m h e => by
    rw [Array.toList_append, Array.toList_append, ext0, ext0, Array.toList_reverse]
    exact h.enda hb e
  have endB : ∀ (out : Array Keyed) (n m : Nat), MH L a.toList b.toList out.toList.reverse n m -> m = 0 -> Mg L a.toList b.toList (a.extract 0 n ++ b.extract 0 m ++ out.reverse).toList := fun out n m h e => by
    rw [Array.toList_append, Array.toList_append, ext0, ext0, Array.toList_reverse]
    exact h.endb ha e
  have firstB : ∀ (out : Array Keyed) (n m : Nat), MH L a.toList b.toList out.toList.reverse n m -> m = 1 -> Mg L a.toList b.toList (b.extract 0 m ++ a.extract 0 n ++ out.reverse).toList := fun out n m h e => by
    rw [Array.toList_append, Array.toList_append, ext0, ext0, Array.toList_reverse]
    refine h.firstb ha e (by lia) fun x hx => ?_
    rw [Array.getElem_toList]
    exact O.asym _ _ (hSb 0 nb) (Sa x hx) (h0 x hx)
  have pushA : ∀ (out : Array Keyed) (n m : Nat) (h : n - 1 < a.size), 0 < n -> MH L a.toList b.toList out.toList.reverse n m -> (∀ x ∈ b.toList.take m, L a[n - 1] x = false) -> MH L a.toList b.toList (out.push a[n - 1]).toList.reverse (n - 1) m := fun out n m h hn mh le => by
    rw [Array.toList_push, List.reverse_append]
    have e : n = n - 1 + 1 := by lia
    rw [e] at mh
    have := MH.a ha mh (show n - 1 < a.toList.length by lia) (by rw [Array.getElem_toList]; exact le)
    rw [Array.getElem_toList] at this
    exact this
  have pushB : ∀ (out : Array Keyed) (n m : Nat) (h : m - 1 < b.size), 0 < m -> MH L a.toList b.toList out.toList.reverse n m -> (∀ x ∈ a.toList.take n, L b[m - 1] x = false) -> MH L a.toList b.toList (out.push b[m - 1]).toList.reverse n (m - 1) := fun out n m h hm mh le => by
    rw [Array.toList_push, List.reverse_append]
    have e : m = m - 1 + 1 := by lia
    rw [e] at mh
    have := MH.b hb mh (show m - 1 < b.toList.length by lia) (by rw [Array.getElem_toList]; exact le)
    rw [Array.getElem_toList] at this
    exact this
  have m0 : MH L a.toList b.toList (#[a[a.size - 1]] : Array Keyed).toList.reverse (a.size - 1) b.size := by
    have h00 : MH L a.toList b.toList (#[] : Array Keyed).toList.reverse a.size b.size := ⟨by rw [List.drop_of_length_le (by lia), List.drop_of_length_le (by lia)]; simp, List.Pairwise.nil, fun x _ y hy => by simp at hy, fun x _ y hy => by simp at hy⟩
    exact pushA #[] a.size b.size (by lia) na h00 fun x hx => O.asym _ _ (Sb x (List.mem_of_mem_take hx)) (hSa _ (by lia)) (h1 x (List.mem_of_mem_take hx))
  have key : ∀ (x y : Keyed), bey L false x y = true -> L x y = false := fun x y h => by simpa [bey] using h
  have key' : ∀ (x y : Keyed), bey L false x y = false -> L x y = true := fun x y h => by simpa [bey] using h
  have keyT : ∀ (x y : Keyed), bey L true x y = true -> L y x = true := fun x y h => by simpa [bey] using h
  have keyF : ∀ (x y : Keyed), bey L true x y = false -> L y x = false := fun x y h => by simpa [bey] using h
  have stBg : ∀ (z : Keyed), S z -> ∀ k', k' <= b.size -> (∀ i (h : 0 + i < b.size), i < k' -> bey L true z b[0 + i] = true) -> ∀ x ∈ b.toList.take k', L z x = false := fun z sz k' hk' kt' x hx => by
    obtain ⟨i, hi, e⟩ := List.getElem_of_mem hx
    rw [List.length_take] at hi
    rw [List.getElem_take, Array.getElem_toList] at e
    have h9 := keyT _ _ (kt' i (by lia) (by lia))
    have h10 : b[0 + i]'(by lia) = x := by rw [<- e]; congr 1; lia
    rw [h10] at h9
    exact O.asym _ _ (Sb x (List.mem_of_mem_take hx)) sz h9
  unfold mergeHi'
  refine wpS_bind (wpS_lift (wpAny_rule ⟨rfl, ?_⟩))
  refine wpS_bind (wp_elem (show a.size - 1 < a.size by lia) ?_)
  dsimp only
  by_cases e1 : (a.size - 1 == 0) = true
  · rw [if_pos e1]
    exact wpS_pure (q _ _ (.refl _) (endA _ _ _ m0 (by simpa using e1)))
  rw [if_neg e1]
  by_cases e2 : (b.size == 1) = true
  · rw [if_pos e2]
    exact wpS_pure (q _ _ (.refl _) (firstB _ _ _ m0 (by simpa using e2)))
  rw [if_neg e2]
  have e1' : 0 < a.size - 1 := by have : a.size - 1 ≠ 0 := by simpa using e1
                                  lia
  have e2' : 1 < b.size := by have : b.size ≠ 1 := by simpa using e2
                              lia
  refine wpS_bind (wpS_get ?_)
  refine wpS_bind (wpS_mono (wpS_forRange (I := fun t c st' => ∃ n m out mg, c = (none, n, m, out, mg) /\ SG0 st st' /\ MH L a.toList b.toList out.toList.reverse n m /\ 0 < n /\ 1 < m /\ n <= a.size /\ m <= b.size /\ t + n + m + 1 <= a.size + b.size)
    (Q := fun c st' => ∃ r n m out mg, c = (some r, n, m, out, mg) /\ SG0 st st' /\ Mg L a.toList b.toList r.toList) ?step ?fin ⟨_, _, _, _, rfl, .refl _, m0, e1', e2', by lia, by lia, by lia⟩) ?post)
  case fin =>
    rintro c st' ⟨n, m, out, mg, rfl, g, mh, l1, l2, l3, l4, l5⟩
    lia
  case post =>
    rintro c st' ⟨r, n, m, out, mg, rfl, g, mh⟩
    exact wpS_pure (q _ _ g mh)
  case step =>
    rintro t c st1 _ ht ⟨n, m, out, mg, rfl, g1, m1, l1, l2, l3, l4, l5⟩
    have hk1 : kindOf st1 = κ := g1.1.trans hk
    dsimp only
    refine wpS_bind (wpS_mono (wpS_forRange (I := fun u c st' => ∃ n m out ac bc, c = (none, n, m, out, ac, bc) /\ st' = st1 /\ MH L a.toList b.toList out.toList.reverse n m /\ 0 < n /\ 1 < m /\ n <= a.size /\ m <= b.size /\ t + n + m + 1 <= a.size + b.size /\ (1 <= u -> t + n + m + 2 <= a.size + b.size))
      (Q := fun c st' => st' = st1 /\ ((∃ r n m out ac bc, c = (some r, n, m, out, ac, bc) /\ Mg L a.toList b.toList r.toList) \/ ∃ n m out ac bc, c = (none, n, m, out, ac, bc) /\ MH L a.toList b.toList out.toList.reverse n m /\ 0 < n /\ 1 < m /\ n <= a.size /\ m <= b.size /\ t + n + m + 2 <= a.size + b.size)) ?istep ?ifin ⟨_, _, _, _, _, rfl, rfl, m1, l1, l2, l3, l4, l5, by lia⟩) ?ipost)
    case ifin =>
      rintro c st' ⟨n, m, out, ac, bc, rfl, rfl, mh, k1, k2, k3, k4, k5, k6⟩
      exact ⟨rfl, .inr ⟨_, _, _, _, _, rfl, mh, k1, k2, k3, k4, k6 (by lia)⟩⟩
    case istep =>
      rintro u c st' _ hu ⟨n, m, out, ac, bc, rfl, rfl, mh, k1, k2, k3, k4, k5, k6⟩
      dsimp only
      have zb : m - 1 < b.size := by lia
      have za : n - 1 < a.size := by lia
      have em : m = m - 1 + 1 := by lia
      have en : n = n - 1 + 1 := by lia
      refine wpS_bind (wp_elem zb ?_)
      refine wpS_bind (wp_elem za ?_)
      refine wpS_bind (C _ _ _ _ hk1 (hSb _ zb) (hSa _ za) ?_)
      dsimp only
      cases eL : L b[m - 1] a[n - 1] with
      | true =>
        rw [if_pos rfl]
        refine wpS_bind (wp_elem za ?_)
        have m' := pushA out n m za k1 mh (by rw [em]; exact leB (m - 1) zb _ (hSa _ za) (O.asym _ _ (hSb _ zb) (hSa _ za) eL))
        by_cases z : (n - 1 == 0) = true
        · rw [if_pos z]
          exact wpS_pure ⟨rfl, .inl ⟨_, _, _, _, _, _, rfl, endA _ _ _ m' (by simpa using z)⟩⟩
        · rw [if_neg z]
          have z' : 0 < n - 1 := by have : n - 1 ≠ 0 := by simpa using z
                                    lia
          split
          · exact wpS_pure ⟨rfl, .inr ⟨_, _, _, _, _, rfl, m', z', k2, by lia, k4, by lia⟩⟩
          · exact wpS_pure ⟨_, _, _, _, _, rfl, rfl, m', z', k2, by lia, k4, by lia, fun _ => by lia⟩
      | false =>
        rw [if_neg (by decide)]
        refine wpS_bind (wp_elem zb ?_)
        have m' := pushB out n m zb (by lia) mh (by rw [en]; exact leA (n - 1) za _ (hSb _ zb) eL)
        by_cases z : (m - 1 == 1) = true
        · rw [if_pos z]
          exact wpS_pure ⟨rfl, .inl ⟨_, _, _, _, _, _, rfl, firstB _ _ _ m' (by simpa using z)⟩⟩
        · rw [if_neg z]
          have z' : 1 < m - 1 := by have : m - 1 ≠ 1 := by simpa using z
                                    lia
          split
          · exact wpS_pure ⟨rfl, .inr ⟨_, _, _, _, _, rfl, m', k1, z', k3, by lia, by lia⟩⟩
          · exact wpS_pure ⟨_, _, _, _, _, rfl, rfl, m', k1, z', k3, by lia, by lia, fun _ => by lia⟩
    case ipost =>
      rintro c st' ⟨rfl, ⟨r, n, m, out, ac, bc, rfl, mh⟩ | ⟨n, m, out, ac, bc, rfl, mh, k1, k2, k3, k4, k5⟩⟩
      · exact wpS_pure ⟨_, _, _, _, _, rfl, g1, mh⟩
      dsimp only
      refine wpS_bind (wpS_lift (wpAny_rule ⟨rfl, ?_⟩))
      refine wpS_bind (wpS_mono (wpS_forRange (I := fun u c st'' => ∃ n m out mg ac bc, c = (none, n, m, out, mg, ac, bc) /\ SG0 st st'' /\ MH L a.toList b.toList out.toList.reverse n m /\ 0 < n /\ 1 < m /\ n <= a.size /\ m <= b.size /\ t + n + m + 2 <= a.size + b.size)
        (Q := fun c st'' => SG0 st st'' /\ ((∃ r n m out mg ac bc, c = (some r, n, m, out, mg, ac, bc) /\ Mg L a.toList b.toList r.toList) \/ ∃ n m out mg ac bc, c = (none, n, m, out, mg, ac, bc) /\ MH L a.toList b.toList out.toList.reverse n m /\ 0 < n /\ 1 < m /\ n <= a.size /\ m <= b.size /\ t + n + m + 2 <= a.size + b.size)) ?gstep ?gfin ⟨_, _, _, _, _, _, rfl, g1, mh, k1, k2, k3, k4, k5⟩) ?gpost)
      case gfin =>
        rintro c st'' ⟨n, m, out, mg, ac, bc, rfl, g, mh, k⟩
        exact ⟨g, .inr ⟨_, _, _, _, _, _, rfl, mh, k⟩⟩
      case gpost =>
        rintro c st'' ⟨g, ⟨r, n, m, out, mg, ac, bc, rfl, mh⟩ | ⟨n, m, out, mg, ac, bc, rfl, mh, k1, k2, k3, k4, k5⟩⟩
        · exact wpS_pure ⟨_, _, _, _, _, rfl, g, mh⟩
        dsimp only
        refine wpS_bind (wpS_modify ?_)
        exact wpS_pure ⟨_, _, _, _, rfl, g.trans ⟨rfl, rfl, rfl, rfl⟩, mh, k1, k2, k3, k4, by lia⟩
      case gstep =>
        rintro u c st2 _ hu ⟨n, m, out, mg, ac, bc, rfl, g2, mh, k1, k2, k3, k4, k5⟩
        dsimp only
        have zb : m - 1 < b.size := by lia
        have em : m = m - 1 + 1 := by lia
        by_cases c1 : mg > 1
        case' pos => rw [if_pos c1]
        case' neg => rw [if_neg c1]
        all_goals
          refine wpS_bind (wpS_modify ?_)
          have g3 : SG0 st (SortSt.mk' (kindOf st2) (arrOf st2) (pendingOf st2) _ (failedOf st2)) := g2.trans ⟨rfl, rfl, rfl, rfl⟩
          refine wpS_bind (wp_elem zb ?_)
          refine wpS_bind (wp_gal (left := false) C O (g2.1.trans hk) (hSb _ zb) (by lia) hSa (by lia) (fun i j hi hj hij hjn => srtA _ _ hi hj (by lia)) fun k kn kt kf => ?_)
          dsimp only
          have stA : ∀ x ∈ a.toList.take k, L b[m - 1] x = false := fun x hx => by
            obtain ⟨i, hi, rfl⟩ := List.getElem_of_mem hx
            rw [List.length_take] at hi
            rw [List.getElem_take, Array.getElem_toList]
            have := key _ _ (kt i (by lia) (by lia))
            simpa using this
          by_cases c2 : n - k > 0
          case' neg =>
            rw [if_neg c2]
            have ek : k = n := by lia
            have mX := mh
            have kX := k1
            have kX3 := k3
            have leX := stA
            rw [ek] at leX
            have zX : n <= n := Nat.le_refl _
          case' pos =>
            rw [if_pos c2]
            have mX := MH.as (na := k) (lo := out.toList.reverse) ha (n - k) (by rw [show k + (n - k) = n by lia]; exact mh) (by lia) fun i hi hik => by
              rw [Array.getElem_toList, em]
              have h9 := key' _ _ (kf (k + i) (by lia) (by lia) (by lia))
              refine leB (m - 1) zb _ (hSa _ (by lia)) (O.asym _ _ (hSb _ zb) (hSa _ (by lia)) ?_)
              simpa using h9
            have eX : (out ++ (a.extract k n).reverse).toList.reverse = (a.toList.drop k).take (n - k) ++ out.toList.reverse := by
              rw [Array.toList_append, Array.toList_reverse, List.reverse_append, List.reverse_reverse, ext3 a (by lia)]
            rw [<- eX] at mX
            by_cases z1 : (k == 0) = true
            · rw [if_pos z1]
              exact wpS_pure ⟨g3, .inl ⟨_, _, _, _, _, _, _, rfl, endA _ _ _ mX (by simpa using z1)⟩⟩
            rw [if_neg z1]
            have kX : 0 < k := by have : k ≠ 0 := by simpa using z1
                                  lia
            have kX3 : k <= a.size := by lia
            have leX := stA
            have zX : k <= n := kn
          all_goals
            refine wpS_bind (wp_elem zb ?_)
            have m2 := pushB _ _ m zb (by lia) mX leX
            by_cases z : (m - 1 == 1) = true
            · rw [if_pos z]
              exact wpS_pure ⟨g3, .inl ⟨_, _, _, _, _, _, _, rfl, firstB _ _ _ m2 (by simpa using z)⟩⟩
            rw [if_neg z]
            have z' : 1 < m - 1 := by have : m - 1 ≠ 1 := by simpa using z
                                      lia
            have za := Nat.lt_of_lt_of_le (Nat.sub_lt kX Nat.one_pos) kX3
            refine wpS_bind (wp_elem za ?_)
            refine wpS_bind (wp_gal (left := true) C O (g2.1.trans hk) (hSa _ za) (by lia) hSb (by lia) (fun i j hi hj hij hjn => srtB _ _ hi hj (by lia)) fun k' kn' kt' kf' => ?_)
            dsimp only
            have leA' := leA _ za
            rw [Nat.sub_add_cancel kX] at leA'
            have stB := stBg _ (hSa _ za) k' (by lia) kt'
            by_cases c3 : m - 1 - k' > 0
            case' neg =>
              rw [if_neg c3]
              have ek' : k' = m - 1 := by lia
              have mY := m2
              have kY := z'
              have leY := stB
              rw [ek'] at leY
              have yY : m - 1 <= m - 1 := Nat.le_refl _
            case' pos =>
              rw [if_pos c3]
              have mY := MH.bs hb (m - 1 - k') (m2.cast (show k' + (m - 1 - k') = m - 1 by lia)) (by lia) fun i hi hik => by
                rw [Array.getElem_toList]
                have h9 := keyF _ _ (kf' (k' + i) (by lia) (by lia) (by lia))
                refine leA' _ (hSb _ (by lia)) ?_
                simpa using h9
              rw [<- ext3 b (show k' <= m - 1 by lia), <- cat_rev] at mY
              split
              · rename_i z5
                exact wpS_pure ⟨g3, .inl ⟨_, _, _, _, _, _, _, rfl, firstB _ _ _ mY (by simpa using z5)⟩⟩
              split
              · rename_i z5
                exact wpS_pure ⟨g3, .inl ⟨_, _, _, _, _, _, _, rfl, endB _ _ _ mY (by simpa using z5)⟩⟩
              rename_i z5 z6
              simp only [beq_iff_eq] at z5 z6
              have kY : 1 < k' := by lia
              have leY := stB
              have yY : k' <= m - 1 := by lia
            all_goals
              refine wpS_bind (wp_elem za ?_)
              have m3 := pushA _ _ _ za kX mY leY
              split
              · rename_i z4
                exact wpS_pure ⟨g3, .inl ⟨_, _, _, _, _, _, _, rfl, endA _ _ _ m3 (by simpa using z4)⟩⟩
              · rename_i z4
                simp only [beq_iff_eq] at z4
                split
                · exact wpS_pure ⟨g3, .inr ⟨_, _, _, _, _, _, rfl, m3, by lia, kY, by lia, by lia, by lia⟩⟩
                · exact wpS_pure ⟨_, _, _, _, _, _, rfl, g3, m3, by lia, kY, by lia, by lia, by lia⟩
end
end Tm
end
section
namespace Tm
open PySem PySem.W PyProof.Rows
theorem wb_list : ∀ (l : List Keyed) (n o : Nat) (arr : Array Keyed), o + n + l.length <= arr.size -> ((l.zipIdx n).foldl (fun a (p : Keyed × Nat) => a.setIfInBounds (o + p.2) p.1) arr).toList = arr.toList.take (o + n) ++ l ++ arr.toList.drop (o + n + l.length)
  | [], n, o, arr, _ => by simp
  | x :: l, n, o, arr, h => by
    have hl : (x :: l).length = l.length + 1 := rfl
    have hz : o + n < arr.size := by lia
    rw [List.zipIdx_cons, List.foldl_cons]
    have ih := wb_list l (n + 1) o (arr.setIfInBounds (o + n) x) (by rw [Array.size_setIfInBounds]; lia)
    rw [ih, Array.toList_setIfInBounds, hl]
    have e1 : (arr.toList.set (o + n) x).take (o + (n + 1)) = arr.toList.take (o + n) ++ [x] := by
      rw [show o + (n + 1) = o + n + 1 by lia, List.take_add_one, List.take_set_of_le (Nat.le_refl _), List.getElem?_set_self (by simpa using hz)]
      rfl
    have e2 : (arr.toList.set (o + n) x).drop (o + (n + 1) + l.length) = arr.toList.drop (o + n + (l.length + 1)) := by
      rw [List.drop_set_of_lt (by lia)]
      congr 1; lia
    rw [e1, e2]
    simp
section
variable {S : Keyed -> Prop} {L : Keyed -> Keyed -> Bool}
theorem at_pure {X1 X2 Y1 Y2 Z : List Keyed} (hX : Srt L (X1 ++ X2)) (hY : Srt L (Y1 ++ Y2)) (hXY : ∀ x ∈ X1, ∀ y ∈ Y1 ++ Y2, L y x = false) (hYX : ∀ y ∈ Y2, ∀ x ∈ X2, L y x = false) (hZ : Mg L X2 Y1 Z) :
    Srt L (X1 ++ Z ++ Y2) /\ (X1 ++ Z ++ Y2).Perm (X1 ++ X2 ++ (Y1 ++ Y2)) := by
  obtain ⟨z1, z2⟩ := hZ
  obtain ⟨a1, a2, a3⟩ := List.pairwise_append.mp hX
  obtain ⟨b1, b2, b3⟩ := List.pairwise_append.mp hY
  refine ⟨?_, ?_⟩
  · rw [List.append_assoc]
    refine List.pairwise_append.mpr ⟨a1, List.pairwise_append.mpr ⟨z2, b2, fun x hx y hy => ?_⟩, fun x hx y hy => ?_⟩
    · rcases List.mem_append.mp (z1.mem_iff.mp hx) with w | w
      · exact hYX y hy x w
      · exact b3 x w y hy
    · rcases List.mem_append.mp hy with w | w
      · rcases List.mem_append.mp (z1.mem_iff.mp w) with w | w
        · exact a3 x hx y w
        · exact hXY x hx y (List.mem_append_left _ w)
      · exact hXY x hx y (List.mem_append_right _ w)
  · rw [List.append_assoc, List.append_assoc]
    refine List.Perm.append_left _ ?_
    refine (z1.append_right _).trans ?_
    rw [List.append_assoc]
noncomputable def SI (L : Keyed -> Keyed -> Bool) (arr : Array Keyed) (p q : Nat) : Prop := ∀ i j (hi : i < arr.size) (hj : j < arr.size), p <= i -> i < j -> j < q -> L arr[j] arr[i] = false
theorem ext_get {arr : Array Keyed} {p q i : Nat} (h : i < (arr.extract p q).toList.length) : ∃ (z : p + i < arr.size), p + i < q /\ (arr.extract p q).toList[i] = arr[p + i] := by
  have h' : i < (arr.extract p q).size := by rw [<- Array.length_toList]; exact h
  rw [Array.size_extract] at h'
  refine ⟨by lia, by lia, ?_⟩
  rw [Array.getElem_toList, Array.getElem_extract]
theorem srt_ext {arr : Array Keyed} {p q : Nat} (h : SI L arr p q) : Srt L (arr.extract p q).toList := by
  refine List.pairwise_iff_getElem.mpr fun i j hi hj hij => ?_
  obtain ⟨z1, z2, e1⟩ := ext_get hi
  obtain ⟨z3, z4, e2⟩ := ext_get hj
  rw [e1, e2]
  exact h _ _ z1 z3 (by lia) (by lia) z4
theorem mem_ext {arr : Array Keyed} {p q : Nat} {x : Keyed} (h : x ∈ (arr.extract p q).toList) : ∃ (i : Nat) (z : i < arr.size), p <= i /\ i < q /\ x = arr[i] := by
  obtain ⟨i, hi, e⟩ := List.getElem_of_mem h
  obtain ⟨z1, z2, e1⟩ := ext_get hi
  exact ⟨p + i, z1, by lia, z2, by rw [<- e, e1]⟩
theorem ext_split {arr : Array Keyed} {p q r : Nat} (h1 : p <= q) (h2 : q <= r) (h3 : r <= arr.size) : (arr.extract p r).toList = (arr.extract p q).toList ++ (arr.extract q r).toList := by
  rw [ext3 arr (by lia), ext3 arr h1, ext3 arr h2]
  rw [show r - p = (q - p) + (r - q) by lia, List.take_add, List.drop_drop]
  rw [show p + (q - p) = q by lia]
end
section
variable {M : Model} {A : Around} {E : Value -> Shared -> Prop} {s : Shared} {κ : SortKind} {S : Keyed -> Prop} {L : Keyed -> Keyed -> Bool}
noncomputable def At (L : Keyed -> Keyed -> Bool) (arr arr' : Array Keyed) (sa n : Nat) : Prop := ∃ seg : List Keyed, arr'.toList = arr.toList.take sa ++ seg ++ arr.toList.drop (sa + n) /\ Srt L seg /\ seg.Perm (arr.extract sa (sa + n)).toList
theorem wp_set {st st1 : SortSt} {Q : PUnit -> SortSt -> Prop} (h : Q ⟨⟩ st1) : wpS M A E s (set st1 : StateT SortSt Sem PUnit) Q st := by
  unfold wpS; rw [StateT.run_set]; exact wpAny_pure ⟨rfl, h⟩
theorem wp_at {i sa na sb nb pa pb : Nat} {st : SortSt} {Q : Bool -> SortSt -> Prop} (C : Cmp M A E s κ S L) (O : Ord S L) (hk : kindOf st = κ) (hf : failedOf st = none) (hS : ∀ i (h : i < (arrOf st).size), S (arrOf st)[i])
    (e1 : (pendingOf st)[i]? = some (sa, na, pa)) (e2 : (pendingOf st)[i + 1]? = some (sb, nb, pb)) (eb : sb = sa + na) (za : 0 < na) (zb : 0 < nb) (hz : sb + nb <= (arrOf st).size) (sA : SI L (arrOf st) sa sb) (sB : SI L (arrOf st) sb (sb + nb))
    (q : ∀ st' : SortSt, kindOf st' = κ -> failedOf st' = none -> pendingOf st' = ((pendingOf st).setIfInBounds i (sa, na + nb, pa)).eraseIdxIfInBounds (i + 1) -> At L (arrOf st) (arrOf st') sa (na + nb) -> Q true st') : wpS M A E s (mergeAt' i) Q st := by
  unfold mergeAt'
  refine wpS_bind (wpS_get ?_)
  dsimp only
  rw [e1, e2]
  dsimp only
  refine wpS_bind (wp_set ?_)
  generalize harr : arrOf st = arr at hS hz sA sB q
  have hb0 : sb < arr.size := by lia
  have harr' : (PyProof.Rows.arrOf st) = arr := harr
  rw [show ((sortPriv% PySem.Builtin.SortState.a) st : Array Keyed) = arr from harr]
  refine wpS_bind (wp_elem hb0 ?_)
  refine wpS_bind (wp_gal (left := false) C O hk (hS _ hb0) (by lia) hS za (fun i j hi hj hij hjn => sA _ _ hi hj (by lia) (by lia) (by lia)) fun k kn kt kf => ?_)
  dsimp only
  have key : ∀ (x y : Keyed), bey L false x y = true -> L x y = false := fun x y h => by simpa [bey] using h
  have key' : ∀ (x y : Keyed), bey L false x y = false -> L x y = true := fun x y h => by simpa [bey] using h
  have keyT : ∀ (x y : Keyed), bey L true x y = true -> L y x = true := fun x y h => by simpa [bey] using h
  have keyF : ∀ (x y : Keyed), bey L true x y = false -> L y x = false := fun x y h => by simpa [bey] using h
  have wS : (arr.extract sa (sa + (na + nb))).toList = (arr.extract sa sb).toList ++ (arr.extract sb (sb + nb)).toList := by
    rw [show sa + (na + nb) = sb + nb by lia]; exact ext_split (by lia) (by lia) hz
  -- nothing moves where the two stand in order
  have stay : (∀ i j (hi : i < arr.size) (hj : j < arr.size), sa <= i -> i < sb -> sb <= j -> j < sb + nb -> L arr[j] arr[i] = false) -> At L arr arr sa (na + nb) := fun h => by
    refine ⟨(arr.extract sa (sa + (na + nb))).toList, ?_, ?_, .refl _⟩
    · rw [ext3 arr (by lia), show sa + (na + nb) - sa = na + nb by lia, List.append_assoc, <- List.drop_drop, List.take_append_drop, List.take_append_drop]
    · rw [wS]
      refine List.pairwise_append.mpr ⟨srt_ext sA, srt_ext sB, fun x hx y hy => ?_⟩
      obtain ⟨i, zi, a1, a2, rfl⟩ := mem_ext hx
      obtain ⟨j, zj, b1, b2, rfl⟩ := mem_ext hy
      exact h i j zi zj a1 a2 b1 b2
  -- what is not above the first of the second run
  have lowX : ∀ i (hi : i < arr.size), sa <= i -> i < sa + k -> ∀ j (hj : j < arr.size), sb <= j -> j < sb + nb -> L arr[j] arr[i] = false := fun i hi a1 a2 j hj b1 b2 => by
    have h1 := key _ _ (kt (i - sa) (by lia) (by lia))
    have h2 : L arr[sb] arr[i] = false := by
      have e : sa + (i - sa) = i := by lia
      simpa [e] using h1
    by_cases ej : j = sb
    · subst ej; exact h2
    · exact O.trans _ _ _ (hS _ hi) (hS _ hb0) (hS _ hj) h2 (sB sb j hb0 hj (by lia) (by lia) b2)
  by_cases c1 : (na - k == 0) = true
  · rw [if_pos c1]
    have ek : k = na := by have : na - k = 0 := by simpa using c1
                           lia
    exact wpS_pure (q _ hk hf rfl (stay fun i j hi hj a1 a2 b1 b2 => lowX i hi a1 (by lia) j hj b1 b2))
  rw [if_neg c1]
  have ek : k < na := by have : na - k ≠ 0 := by simpa using c1
                         lia
  have hl0 : sa + k + (na - k) - 1 < arr.size := by lia
  refine wpS_bind (wp_elem hl0 ?_)
  refine wpS_bind (wp_gal (left := true) C O hk (hS _ hl0) (by lia) hS (by lia) (fun i j hi hj hij hjn => sB _ _ hi hj (by lia) (by lia) (by lia)) fun k2 kn2 kt2 kf2 => ?_)
  dsimp only
  have lastE : sa + k + (na - k) - 1 = sb - 1 := by lia
  have hlast : sb - 1 < arr.size := by lia
  have hiY : ∀ j (hj : j < arr.size), sb + k2 <= j -> j < sb + nb -> ∀ i (hi : i < arr.size), sa <= i -> i < sb -> L arr[j] arr[i] = false := fun j hj b1 b2 i hi a1 a2 => by
    have h1 := keyF _ _ (kf2 (j - sb) (by lia) (by lia) (by lia))
    have h2 : L arr[j] arr[sb - 1] = false := by
      have e : sb + (j - sb) = j := by lia
      simpa [e, lastE] using h1
    by_cases ei : i = sb - 1
    · subst ei; exact h2
    · exact O.trans _ _ _ (hS _ hi) (hS _ hlast) (hS _ hj) (sA i (sb - 1) hi hlast a1 (by lia) (by lia)) h2
  by_cases c2 : (k2 == 0) = true
  · rw [if_pos c2]
    have e0 : k2 = 0 := by simpa using c2
    exact wpS_pure (q _ hk hf rfl (stay fun i j hi hj a1 a2 b1 b2 => hiY j hj (by lia) b2 i hi a1 a2))
  rw [if_neg c2]
  have z2 : 0 < k2 := by have : k2 ≠ 0 := by simpa using c2
                         lia
  have xs : (arr.extract (sa + k) sb).size = na - k := by rw [Array.size_extract]; lia
  have ys : (arr.extract sb (sb + k2)).size = k2 := by rw [Array.size_extract]; lia
  have SX : ∀ i (h : i < (arr.extract (sa + k) sb).size), S (arr.extract (sa + k) sb)[i] := fun i h => by rw [Array.getElem_extract]; exact hS _ (by lia)
  have SY : ∀ i (h : i < (arr.extract sb (sb + k2)).size), S (arr.extract sb (sb + k2))[i] := fun i h => by rw [Array.getElem_extract]; exact hS _ (by lia)
  have sX : Srt L (arr.extract (sa + k) sb).toList := srt_ext fun i j hi hj a1 a2 a3 => sA i j hi hj (by lia) a2 a3
  have sY : Srt L (arr.extract sb (sb + k2)).toList := srt_ext fun i j hi hj a1 a2 a3 => sB i j hi hj a1 a2 (by lia)
  have y0 : 0 < (arr.extract sb (sb + k2)).size := by lia
  have x0 : 0 < (arr.extract (sa + k) sb).size := by lia
  have h0 : ∀ v ∈ (arr.extract (sa + k) sb).toList, L (arr.extract sb (sb + k2))[0] v = true := fun v hv => by
    obtain ⟨i, zi, a1, a2, rfl⟩ := mem_ext hv
    rw [Array.getElem_extract]
    have h9 := key' _ _ (kf (i - sa) (by lia) (by lia) (by lia))
    have e : sa + (i - sa) = i := by lia
    simpa [e] using h9
  have h1 : ∀ v ∈ (arr.extract sb (sb + k2)).toList, L v ((arr.extract (sa + k) sb)[(arr.extract (sa + k) sb).size - 1]'(by lia)) = true := fun v hv => by
    obtain ⟨j, zj, b1, b2, rfl⟩ := mem_ext hv
    rw [Array.getElem_extract]
    have h9 := keyT _ _ (kt2 (j - sb) (by lia) (by lia))
    have e : sb + (j - sb) = j := by lia
    have e' : sa + k + ((arr.extract (sa + k) sb).size - 1) = sa + k + (na - k) - 1 := by rw [xs]; lia
    have e3 : arr[sa + k + ((arr.extract (sa + k) sb).size - 1)]'(by lia) = arr[sa + k + (na - k) - 1] := by congr 1
    have e4 : arr[sb + (j - sb)]'(by lia) = arr[j] := by congr 1
    rw [e3, <- e4]; exact h9
  have fine : ∀ (r : Array Keyed), Mg L (arr.extract (sa + k) sb).toList (arr.extract sb (sb + k2)).toList r.toList -> ∀ arr' : Array Keyed, arr' = r.toList.zipIdx.foldl (fun a (p : Keyed × Nat) => a.setIfInBounds (sa + k + p.2) p.1) arr -> At L arr arr' sa (na + nb) := fun r m arr' ea => by
    have rl : r.toList.length = (na - k) + k2 := by rw [m.1.length_eq, List.length_append, Array.length_toList, Array.length_toList, xs, ys]
    have w := wb_list r.toList 0 (sa + k) arr (by lia)
    have sp1 : (arr.extract sa sb).toList = (arr.extract sa (sa + k)).toList ++ (arr.extract (sa + k) sb).toList := ext_split (by lia) (by lia) (by lia)
    have sp2 : (arr.extract sb (sb + nb)).toList = (arr.extract sb (sb + k2)).toList ++ (arr.extract (sb + k2) (sb + nb)).toList := ext_split (by lia) (by lia) (by lia)
    obtain ⟨p1, p2⟩ := at_pure (X1 := (arr.extract sa (sa + k)).toList) (Y2 := (arr.extract (sb + k2) (sb + nb)).toList) (by rw [<- sp1]; exact srt_ext sA) (by rw [<- sp2]; exact srt_ext sB) (fun x hx y hy => by
      obtain ⟨i, zi, a1, a2, rfl⟩ := mem_ext hx
      rw [<- sp2] at hy
      obtain ⟨j, zj, b1, b2, rfl⟩ := mem_ext hy
      exact lowX i zi a1 a2 j zj b1 b2) (fun y hy x hx => by
      obtain ⟨i, zi, a1, a2, rfl⟩ := mem_ext hx
      obtain ⟨j, zj, b1, b2, rfl⟩ := mem_ext hy
      exact hiY j zj b1 b2 i zi (by lia) a2) m
    refine ⟨_, ?_, p1, ?_⟩
    · rw [ea, w, rl]
      have t1 : arr.toList.take (sa + k + 0) = arr.toList.take sa ++ (arr.extract sa (sa + k)).toList := by
        rw [ext2, Nat.add_zero, List.take_add]
      have t2 : arr.toList.drop (sa + k + 0 + (na - k + k2)) = (arr.extract (sb + k2) (sb + nb)).toList ++ arr.toList.drop (sa + (na + nb)) := by
        rw [ext3 arr (by lia), show sa + k + 0 + (na - k + k2) = sb + k2 by lia, show sa + (na + nb) = sb + k2 + (sb + nb - (sb + k2)) by lia, <- List.drop_drop (i := sb + nb - (sb + k2)) (j := sb + k2), List.take_append_drop]
      rw [t1, t2]
      simp
    · rw [wS, sp1, sp2]; exact p2
  by_cases c3 : na - k <= k2
  · rw [if_pos c3]
    refine wpS_bind (wp_lo C O hk SX SY sX sY x0 y0 h0 h1 fun r st' g m => ?_)
    refine wpS_bind (wpS_modify ?_)
    refine wpS_bind (wpS_get ?_)
    have ef : failedOf st' = none := g.2.2.2.trans hf
    have ep := g.2.2.1
    have ea : arrOf st' = arr := g.2.1
    have e9 : (failedOf (SortSt.mk' (kindOf st') (r.toList.zipIdx.foldl (fun a (p : Keyed × Nat) => a.setIfInBounds (sa + k + p.2) p.1) (arrOf st')) (pendingOf st') (gallopOf st') (failedOf st'))).isNone = true := by
      show (failedOf st').isNone = true
      rw [ef]; rfl
    have fin := q (SortSt.mk' (kindOf st') (r.toList.zipIdx.foldl (fun a (p : Keyed × Nat) => a.setIfInBounds (sa + k + p.2) p.1) (arrOf st')) (pendingOf st') (gallopOf st') (failedOf st')) (g.1.trans hk) ef ep (fine r m _ (by rw [ea]))
    rw [<- e9] at fin
    exact wpS_pure fin
  · rw [if_neg c3]
    refine wpS_bind (wp_hi C O hk SX SY sX sY x0 y0 h0 h1 fun r st' g m => ?_)
    refine wpS_bind (wpS_modify ?_)
    refine wpS_bind (wpS_get ?_)
    have ef : failedOf st' = none := g.2.2.2.trans hf
    have ep := g.2.2.1
    have ea : arrOf st' = arr := g.2.1
    have e9 : (failedOf (SortSt.mk' (kindOf st') (r.toList.zipIdx.foldl (fun a (p : Keyed × Nat) => a.setIfInBounds (sa + k + p.2) p.1) (arrOf st')) (pendingOf st') (gallopOf st') (failedOf st'))).isNone = true := by
      show (failedOf st').isNone = true
      rw [ef]; rfl
    have fin := q (SortSt.mk' (kindOf st') (r.toList.zipIdx.foldl (fun a (p : Keyed × Nat) => a.setIfInBounds (sa + k + p.2) p.1) (arrOf st')) (pendingOf st') (gallopOf st') (failedOf st')) (g.1.trans hk) ef ep (fine r m _ (by rw [ea]))
    rw [<- e9] at fin
    exact wpS_pure fin
end
end Tm
end
section
namespace Tm
open PySem PySem.W PyProof.Rows
noncomputable def Up (arr arr' : Array Keyed) (lo hi : Nat) : Prop := arr'.Perm arr /\ ∀ i, (i < lo \/ hi <= i) -> arr'[i]? = arr[i]?
theorem Up.refl (arr : Array Keyed) (lo hi : Nat) : Up arr arr lo hi := ⟨.refl _, fun _ _ => rfl⟩
theorem Up.trans {a b c : Array Keyed} {lo hi : Nat} (h : Up a b lo hi) (k : Up b c lo hi) : Up a c lo hi := ⟨k.1.trans h.1, fun i hi => (k.2 i hi).trans (h.2 i hi)⟩
theorem Up.size {a b : Array Keyed} {lo hi : Nat} (h : Up a b lo hi) : b.size = a.size := h.1.size_eq
theorem Up.wide {a b : Array Keyed} {lo hi lo' hi' : Nat} (h : Up a b lo hi) (h1 : lo' <= lo) (h2 : hi <= hi') : Up a b lo' hi' := ⟨h.1, fun i hi => h.2 i (by lia)⟩
theorem Up.S {S : Keyed -> Prop} {a b : Array Keyed} {lo hi : Nat} (h : Up a b lo hi) (hS : ∀ i (h : i < a.size), S a[i]) : ∀ i (h : i < b.size), S b[i] := fun i hi => by
  have : b[i] ∈ a := h.1.mem_iff.mp (Array.getElem_mem hi)
  obtain ⟨j, hj, e⟩ := Array.getElem_of_mem this
  rw [<- e]; exact hS j hj
theorem Up.get {a b : Array Keyed} {lo hi i : Nat} (h : Up a b lo hi) (o : i < lo \/ hi <= i) (hb : i < b.size) (ha : i < a.size) : b[i] = a[i] := by
  have := h.2 i o
  rw [Array.getElem?_eq_getElem hb, Array.getElem?_eq_getElem ha] at this
  injection this
section
variable {L : Keyed -> Keyed -> Bool}
theorem SI.keep {a b : Array Keyed} {lo hi p q : Nat} (s : SI L a p q) (h : Up a b lo hi) (o : q <= lo \/ hi <= p) : SI L b p q := fun i j hi hj h1 h2 h3 => by
  have hz := h.size
  rw [h.get (i := i) (by lia) hi (by lia), h.get (i := j) (by lia) hj (by lia)]
  exact s i j (by lia) (by lia) h1 h2 h3
end
section
variable {M : Model} {A : Around} {E : Value -> Shared -> Prop} {s : Shared} {κ : SortKind} {S : Keyed -> Prop} {L : Keyed -> Keyed -> Bool}
theorem wp_ltAt {i j : Nat} {st : SortSt} {Q : Option Bool -> SortSt -> Prop} (C : Cmp M A E s κ S L) (hk : kindOf st = κ) (hS : ∀ i (h : i < (arrOf st).size), S (arrOf st)[i]) (hi : i < (arrOf st).size) (hj : j < (arrOf st).size) (q : Q (some (L (arrOf st)[i] (arrOf st)[j])) st) : wpS M A E s (ltAt' i j) Q st := by
  rw [ltAt'_eq]
  refine wpS_bind (wpS_get ?_)
  refine wpS_bind (wp_elem hi ?_)
  refine wpS_bind (wp_elem hj ?_)
  exact C _ _ _ _ hk (hS _ hi) (hS _ hj) q
noncomputable def SA0 (st st' : SortSt) : Prop := kindOf st' = kindOf st /\ pendingOf st' = pendingOf st /\ failedOf st' = failedOf st
theorem bub_up {arr : Array Keyed} {lo k l n : Nat} (hl : l <= k) (hk : k < n) (hz : lo + n <= arr.size) : Up arr (bubble arr (lo + k) (lo + k - (lo + l))) lo (lo + n) := by
  refine ⟨bubble_perm _ _ _, fun i hi => ?_⟩
  rw [getElem?_bubble (by lia) _ (by lia), if_neg (by lia), if_neg (by lia)]
theorem bub_srt {arr : Array Keyed} {lo k l n : Nat} (hl : l <= k) (hk : k < n) (hz : lo + n <= arr.size) (hs : SI L arr lo (lo + k)) (hkz : lo + k < arr.size) (h1 : ∀ i (h : lo + i < arr.size), i < l -> L arr[lo + k] arr[lo + i] = false) (h2 : ∀ i (h : lo + i < arr.size), l <= i -> i < k -> L arr[lo + i] arr[lo + k] = false) :
    SI L (bubble arr (lo + k) (lo + k - (lo + l))) lo (lo + (k + 1)) := by
  have get : ∀ i (hi : i < (bubble arr (lo + k) (lo + k - (lo + l))).size), lo <= i -> i < lo + (k + 1) -> ∃ (j : Nat) (hj : j < arr.size), (bubble arr (lo + k) (lo + k - (lo + l)))[i] = arr[j] /\ ((i < lo + l /\ j = i) \/ (i = lo + l /\ j = lo + k) \/ (lo + l < i /\ j = i - 1)) := fun i hi a1 a2 => by
    have hz' : (bubble arr (lo + k) (lo + k - (lo + l))).size = arr.size := bubble_size _ _ _
    have e := getElem?_bubble (xs := arr) (src := lo + k) (by lia) (lo + k - (lo + l)) (by lia) i
    rw [Array.getElem?_eq_getElem hi] at e
    by_cases c1 : i = lo + k - (lo + k - (lo + l))
    · rw [if_pos c1, Array.getElem?_eq_getElem hkz] at e
      exact ⟨lo + k, hkz, by injection e, .inr (.inl ⟨by lia, rfl⟩)⟩
    rw [if_neg c1] at e
    by_cases c2 : lo + k - (lo + k - (lo + l)) < i /\ i <= lo + k
    · rw [if_pos c2, Array.getElem?_eq_getElem (show i - 1 < arr.size by lia)] at e
      exact ⟨i - 1, by lia, by injection e, .inr (.inr ⟨by lia, rfl⟩)⟩
    · rw [if_neg c2, Array.getElem?_eq_getElem (show i < arr.size by lia)] at e
      exact ⟨i, by lia, by injection e, .inl ⟨by lia, rfl⟩⟩
  intro i j hi hj a1 a2 a3
  obtain ⟨i', hi', e1, w1⟩ := get i hi (by lia) (by lia)
  obtain ⟨j', hj', e2, w2⟩ := get j hj (by lia) a3
  rw [e1, e2]
  have H1 : ∀ p (hp : p < arr.size), lo <= p -> p < lo + l -> L arr[lo + k] arr[p] = false := fun p hp b1 b2 => by
    have := h1 (p - lo) (by lia) (by lia)
    simpa [show lo + (p - lo) = p by lia] using this
  have H2 : ∀ p (hp : p < arr.size), lo + l <= p -> p < lo + k -> L arr[p] arr[lo + k] = false := fun p hp b1 b2 => by
    have := h2 (p - lo) (by lia) (by lia) (by lia)
    simpa [show lo + (p - lo) = p by lia] using this
  rcases w1 with ⟨b1, rfl⟩ | ⟨b1, rfl⟩ | ⟨b1, rfl⟩ <;> rcases w2 with ⟨b2, rfl⟩ | ⟨b2, rfl⟩ | ⟨b2, rfl⟩
  · exact hs _ _ hi' hj' (by lia) (by lia) (by lia)
  · exact H1 _ hi' (by lia) (by lia)
  · exact hs _ _ hi' hj' (by lia) (by lia) (by lia)
  · lia
  · lia
  · exact H2 _ hj' (by lia) (by lia)
  · lia
  · lia
  · exact hs _ _ hi' hj' (by lia) (by lia) (by lia)
theorem wp_bin {lo n ok : Nat} {st : SortSt} {Q : Bool -> SortSt -> Prop} (C : Cmp M A E s κ S L) (O : Ord S L) (hk : kindOf st = κ) (hS : ∀ i (h : i < (arrOf st).size), S (arrOf st)[i]) (hz : lo + n <= (arrOf st).size) (hs : SI L (arrOf st) lo (lo + max ok 1))
    (q : ∀ st' : SortSt, SA0 st st' -> Up (arrOf st) (arrOf st') lo (lo + n) -> SI L (arrOf st') lo (lo + n) -> Q true st') : wpS M A E s (binarySort' lo n ok) Q st := by
  unfold binarySort'
  refine wpS_bind (wpS_mono (wpS_forRange (I := fun k c st' => c = (none, ()) /\ SA0 st st' /\ Up (arrOf st) (arrOf st') lo (lo + n) /\ SI L (arrOf st') lo (lo + k)) (Q := fun c st' => c = (none, ()) /\ SA0 st st' /\ Up (arrOf st) (arrOf st') lo (lo + n) /\ SI L (arrOf st') lo (lo + n)) ?step ?fin ⟨rfl, ⟨rfl, rfl, rfl⟩, .refl _ _ _, hs⟩) ?post)
  case fin =>
    rintro c st' ⟨rfl, a1, a2, a3⟩
    exact ⟨rfl, a1, a2, fun i j hi hj b1 b2 b3 => a3 i j hi hj b1 b2 (by lia)⟩
  case post =>
    rintro c st' ⟨rfl, a1, a2, a3⟩
    exact wpS_pure (q st' a1 a2 a3)
  case step =>
    rintro k c st1 hk1 hk2 ⟨rfl, a1, a2, a3⟩
    dsimp only
    have hk' : kindOf st1 = κ := a1.1.trans hk
    have hz1 : (arrOf st1).size = (arrOf st).size := a2.size
    have hS1 := a2.S hS
    have kz : lo + k < (arrOf st1).size := by lia
    have up : ∀ p q' (hp : lo + p < (arrOf st1).size) (hq : lo + q' < (arrOf st1).size), p <= q' -> q' < k -> L (arrOf st1)[lo + k] (arrOf st1)[lo + p] = true -> L (arrOf st1)[lo + k] (arrOf st1)[lo + q'] = true := fun p q' hp hq h1 h2 e => by
      by_cases ep : p = q'
      · subst ep; exact e
      cases z : L (arrOf st1)[lo + k] (arrOf st1)[lo + q'] with
      | true => rfl
      | false => rw [O.trans _ _ _ (hS1 _ hp) (hS1 _ hq) (hS1 _ kz) (a3 _ _ hp hq (by lia) (by lia) (by lia)) z] at e; cases e
    refine wpS_bind (wpS_mono (wpS_forRange (I := fun t c st' => ∃ l r, c = (none, l, r) /\ st' = st1 /\ l <= r /\ r <= k /\ r - l <= k - t /\ (∀ i (h : lo + i < (arrOf st1).size), i < l -> L (arrOf st1)[lo + k] (arrOf st1)[lo + i] = false) /\ (∀ i (h : lo + i < (arrOf st1).size), r <= i -> i < k -> L (arrOf st1)[lo + k] (arrOf st1)[lo + i] = true))
      (Q := fun c st' => ∃ l, c = (none, l, l) /\ st' = st1 /\ l <= k /\ (∀ i (h : lo + i < (arrOf st1).size), i < l -> L (arrOf st1)[lo + k] (arrOf st1)[lo + i] = false) /\ (∀ i (h : lo + i < (arrOf st1).size), l <= i -> i < k -> L (arrOf st1)[lo + k] (arrOf st1)[lo + i] = true)) ?istep ?ifin ⟨0, k, rfl, rfl, by lia, by lia, by lia, fun i h hi => by lia, fun i h h1 h2 => by lia⟩) ?ipost)
    case ifin =>
      rintro c st' ⟨l, r, rfl, rfl, b1, b2, b3, b4, b5⟩
      have : l = r := by lia
      subst this
      exact ⟨l, rfl, rfl, b2, b4, b5⟩
    case istep =>
      rintro t c st' _ ht ⟨l, r, rfl, rfl, b1, b2, b3, b4, b5⟩
      dsimp only
      by_cases hge : l ≥ r
      · rw [if_pos hge]
        have : l = r := by lia
        subst this
        exact wpS_pure ⟨l, rfl, rfl, b2, b4, b5⟩
      rw [if_neg hge]
      have mz : lo + (l + r) / 2 < (arrOf st').size := by lia
      refine wpS_bind (wp_ltAt C hk' hS1 kz mz ?_)
      dsimp only
      cases e : L (arrOf st')[lo + k] (arrOf st')[lo + (l + r) / 2] with
      | true => exact wpS_pure ⟨_, _, rfl, rfl, by lia, by lia, by lia, b4, fun i h h1 h2 => up _ i mz h h1 h2 e⟩
      | false =>
        refine wpS_pure ⟨_, _, rfl, rfl, by lia, by lia, by lia, fun i h hi => ?_, b5⟩
        cases z : L (arrOf st')[lo + k] (arrOf st')[lo + i] with
        | false => rfl
        | true => rw [up i _ h mz (by lia) (by lia) z] at e; cases e
    case ipost =>
      rintro c st' ⟨l, rfl, rfl, b1, b2, b3⟩
      dsimp only
      have mv : wpS M A E s (moveDown' (lo + k) (lo + l)) (fun _ st2 => st2 = setArr st' (bubble (arrOf st') (lo + k) (lo + k - (lo + l)))) st' := by
        rw [moveDown'_eq]; exact wpS_modify rfl
      refine wpS_bind (wpS_mono mv fun _ st2 e2 => ?_)
      subst e2
      refine wpS_pure ⟨rfl, a1, a2.trans (bub_up b1 hk2 (by lia)), ?_⟩
      exact bub_srt b1 hk2 (by lia) a3 kz b2 fun i h h1 h2 => O.asym _ _ (hS1 _ kz) (hS1 _ h) (b3 i h h1 h2)
end
end Tm
end
section
namespace Tm
open PySem PySem.W PyProof.Rows
section
variable {S : Keyed -> Prop} {L : Keyed -> Keyed -> Bool}
noncomputable def DI (L : Keyed -> Keyed -> Bool) (arr : Array Keyed) (p q : Nat) : Prop := ∀ i j (hi : i < arr.size) (hj : j < arr.size), p <= i -> i < j -> j < q -> L arr[i] arr[j] = false
noncomputable def EQ (L : Keyed -> Keyed -> Bool) (arr : Array Keyed) (p q : Nat) : Prop := ∀ i j (hi : i < arr.size) (hj : j < arr.size), p <= i -> i < q -> p <= j -> j < q -> L arr[i] arr[j] = false
theorem Ord.irr (O : Ord S L) {x : Keyed} (sx : S x) : L x x = false := by
  cases e : L x x with
  | false => rfl
  | true => rw [O.asym x x sx sx e] at e; cases e
theorem mir_get {arr : Array Keyed} {p q i : Nat} (hq : q <= arr.size) (hi : i < (mirror arr p q ((q - p) / 2)).size) : ∃ (j : Nat) (hj : j < arr.size), (mirror arr p q ((q - p) / 2))[i] = arr[j] /\ ((p <= i /\ i < q /\ j = p + q - 1 - i) \/ (¬ (p <= i /\ i < q) /\ j = i)) := by
  have hz : (mirror arr p q ((q - p) / 2)).size = arr.size := mirror_size _ _ _ _
  have e := getElem?_mirror_all (xs := arr) (i := p) hq i
  rw [Array.getElem?_eq_getElem hi] at e
  by_cases c : p <= i /\ i < q
  · rw [if_pos c, Array.getElem?_eq_getElem (show p + q - 1 - i < arr.size by lia)] at e
    exact ⟨_, by lia, by injection e, .inl ⟨c.1, c.2, rfl⟩⟩
  · rw [if_neg c, Array.getElem?_eq_getElem (show i < arr.size by lia)] at e
    exact ⟨_, by lia, by injection e, .inr ⟨c, rfl⟩⟩
theorem mir_up {arr : Array Keyed} {p q : Nat} (hq : q <= arr.size) : Up arr (mirror arr p q ((q - p) / 2)) p q :=
  ⟨mirror_perm _ _ _ _, fun i hi => by rw [getElem?_mirror_all hq, if_neg (by lia)]⟩
theorem DI.rev {arr : Array Keyed} {lo hi p q : Nat} (h : DI L arr lo hi) (e : EQ L arr p q) (h1 : lo <= p) (h2 : q <= hi) (hq : q <= arr.size) : DI L (mirror arr p q ((q - p) / 2)) lo hi := fun i j zi zj a1 a2 a3 => by
  obtain ⟨i', hi', e1, w1⟩ := mir_get hq zi
  obtain ⟨j', hj', e2, w2⟩ := mir_get hq zj
  rw [e1, e2]
  rcases w1 with ⟨b1, b2, b3⟩ | ⟨b1, b3⟩ <;> rcases w2 with ⟨c1, c2, c3⟩ | ⟨c1, c3⟩
  · exact e _ _ hi' hj' (by lia) (by lia) (by lia) (by lia)
  · exact h _ _ hi' hj' (by lia) (by lia) (by lia)
  · exact h _ _ hi' hj' (by lia) (by lia) (by lia)
  · exact h _ _ hi' hj' (by lia) (by lia) (by lia)
theorem DI.turn {arr : Array Keyed} {lo hi : Nat} (h : DI L arr lo hi) (hq : hi <= arr.size) : SI L (mirror arr lo hi ((hi - lo) / 2)) lo hi := fun i j zi zj a1 a2 a3 => by
  obtain ⟨i', hi', e1, w1⟩ := mir_get hq zi
  obtain ⟨j', hj', e2, w2⟩ := mir_get hq zj
  rw [e1, e2]
  rcases w1 with ⟨b1, b2, b3⟩ | ⟨b1, b3⟩ <;> rcases w2 with ⟨c1, c2, c3⟩ | ⟨c1, c3⟩
  · exact h _ _ hj' hi' (by lia) (by lia) (by lia)
  · lia
  · lia
  · lia
theorem DI.ext (O : Ord S L) {arr : Array Keyed} {lo n : Nat} (hS : ∀ i (h : i < arr.size), S arr[i]) (h : DI L arr lo n) (h1 : n - 1 < arr.size) (h2 : n < arr.size) (hn : lo < n) (e : L arr[n - 1] arr[n] = false) : DI L arr lo (n + 1) := fun i j zi zj a1 a2 a3 => by
  by_cases ej : j = n
  · subst ej
    by_cases ei : i = j - 1
    · subst ei; exact e
    · exact O.trans _ _ _ (hS _ h2) (hS _ h1) (hS _ zi) e (h i (j - 1) zi h1 a1 (by lia) (by lia))
  · exact h i j zi zj a1 a2 (by lia)
theorem SI.ext (O : Ord S L) {arr : Array Keyed} {lo n : Nat} (hS : ∀ i (h : i < arr.size), S arr[i]) (h : SI L arr lo n) (h1 : n - 1 < arr.size) (h2 : n < arr.size) (hn : lo < n) (e : L arr[n] arr[n - 1] = false) : SI L arr lo (n + 1) := fun i j zi zj a1 a2 a3 => by
  by_cases ej : j = n
  · subst ej
    by_cases ei : i = j - 1
    · subst ei; exact e
    · exact O.trans _ _ _ (hS _ zi) (hS _ h1) (hS _ h2) (h i (j - 1) zi h1 a1 (by lia) (by lia)) e
  · exact h i j zi zj a1 a2 (by lia)
end
section
variable {M : Model} {A : Around} {E : Value -> Shared -> Prop} {s : Shared} {κ : SortKind} {S : Keyed -> Prop} {L : Keyed -> Keyed -> Bool}
theorem wp_rev {i j : Nat} {st : SortSt} {Q : Unit -> SortSt -> Prop} (h : Q () (setArr st (mirror (arrOf st) i j ((j - i) / 2)))) : wpS M A E s (reverseSlice' i j) Q st := by
  rw [reverseSlice'_eq]; exact wpS_modify h
theorem wp_run {lo nrem : Nat} {st : SortSt} {Q : Option Nat -> SortSt -> Prop} (C : Cmp M A E s κ S L) (O : Ord S L) (hk : kindOf st = κ) (hS : ∀ i (h : i < (arrOf st).size), S (arrOf st)[i]) (hz : lo + nrem <= (arrOf st).size) (h1 : 1 <= nrem)
    (q : ∀ n (st' : SortSt), 1 <= n -> n <= nrem -> SA0 st st' -> Up (arrOf st) (arrOf st') lo (lo + nrem) -> SI L (arrOf st') lo (lo + n) -> Q (some n) st') : wpS M A E s (countRun' lo nrem) Q st := by
  unfold countRun'
  refine wpS_bind (wpS_mono (wpS_forRange (I := fun t c st' => ∃ n, c = (none, n) /\ st' = st /\ n = t /\ 1 <= n /\ n <= nrem /\ SI L (arrOf st) lo (lo + n)) (Q := fun c st' => ∃ n, c = (none, n) /\ st' = st /\ 1 <= n /\ n <= nrem /\ SI L (arrOf st) lo (lo + n) /\ (n < nrem -> ∀ (za : lo + n < (arrOf st).size) (zb : lo + n - 1 < (arrOf st).size), L (arrOf st)[lo + n] (arrOf st)[lo + n - 1] = true)) ?step ?fin ⟨1, rfl, rfl, rfl, Nat.le_refl _, h1, fun i j zi zj a1 a2 a3 => by lia⟩) ?post)
  case fin =>
    rintro c st' ⟨n, rfl, rfl, e, a1, a2, a3⟩
    exact ⟨n, rfl, rfl, a1, a2, a3, fun h => by lia⟩
  case step =>
    rintro t c st' ht1 ht ⟨n, rfl, rfl, rfl, a1, a2, a3⟩
    dsimp only
    have za : lo + n < (arrOf st').size := by lia
    have zb : lo + n - 1 < (arrOf st').size := by lia
    refine wpS_bind (wp_ltAt C hk hS za zb ?_)
    dsimp only
    cases e : L (arrOf st')[lo + n] (arrOf st')[lo + n - 1] with
    | true => exact wpS_pure ⟨n, rfl, rfl, a1, a2, a3, fun _ _ _ => e⟩
    | false => exact wpS_pure ⟨n + 1, rfl, rfl, rfl, by lia, by lia, a3.ext (n := lo + n) O hS zb za (by lia) e⟩
  case post =>
    rintro c st' ⟨n, rfl, rfl, a1, a2, a3, a4⟩
    dsimp only
    by_cases e1 : (n == nrem) = true
    · rw [if_pos e1]
      exact wpS_pure (q n st' a1 a2 ⟨rfl, rfl, rfl⟩ (.refl _ _ _) a3)
    rw [if_neg e1]
    have hn : n < nrem := by have : n ≠ nrem := by simpa using e1
                             lia
    have za : lo + n < (arrOf st').size := by lia
    have zb : lo + n - 1 < (arrOf st').size := by lia
    have zl : lo < (arrOf st').size := by lia
    have sm := a4 hn za zb
    have lt1 : L (arrOf st')[lo + n - 1] (arrOf st')[lo + n] = false := O.asym _ _ (hS _ za) (hS _ zb) sm
    by_cases c1 : n > 1
    case' pos =>
      rw [if_pos c1]
      refine wpS_bind (wp_ltAt C hk hS zl zb ?_)
      dsimp only
      by_cases rose : L (arrOf st')[lo] (arrOf st')[lo + n - 1] = true
      · rw [if_pos rose]
        exact wpS_pure (q n st' a1 a2 ⟨rfl, rfl, rfl⟩ (.refl _ _ _) a3)
      rw [if_neg rose]
      have rose' : L (arrOf st')[lo] (arrOf st')[lo + n - 1] = false := by simpa using rose
      have eq0 : EQ L (arrOf st') lo (lo + n) := fun i j zi zj b1 b2 b3 b4 => by
        have l1 : L (arrOf st')[lo + n - 1] (arrOf st')[j] = false := by
          by_cases ej : j = lo + n - 1
          · subst ej; exact O.irr (hS _ zj)
          · exact a3 j (lo + n - 1) zj zb b3 (by lia) (by lia)
        have l2 : L (arrOf st')[i] (arrOf st')[lo] = false := by
          by_cases ei : i = lo
          · subst ei; exact O.irr (hS _ zi)
          · exact a3 lo i zl zi (by lia) (by lia) b2
        exact O.trans _ _ _ (hS _ zj) (hS _ zl) (hS _ zi) (O.trans _ _ _ (hS _ zj) (hS _ zb) (hS _ zl) l1 rose') l2
      have d0 : DI L (arrOf st') lo (lo + n) := fun i j zi zj b1 b2 b3 => eq0 i j zi zj b1 (by lia) (by lia) b3
      refine wpS_bind (wp_rev ?_)
      have x1 : SA0 st' (setArr st' (mirror (arrOf st') lo (lo + n) ((lo + n - lo) / 2))) := ⟨rfl, rfl, rfl⟩
      have x2 : Up (arrOf st') (mirror (arrOf st') lo (lo + n) ((lo + n - lo) / 2)) lo (lo + nrem) := (mir_up (by lia)).wide (Nat.le_refl _) (by lia)
      have x3 : DI L (mirror (arrOf st') lo (lo + n) ((lo + n - lo) / 2)) lo (lo + n + 1) := (d0.ext (n := lo + n) O hS zb za (by lia) lt1).rev eq0 (Nat.le_refl _) (by lia) (by lia)
    case' neg =>
      rw [if_neg c1]
      have x1 : SA0 st' st' := ⟨rfl, rfl, rfl⟩
      have x2 : Up (arrOf st') (arrOf st') lo (lo + nrem) := .refl _ _ _
      have x3 : DI L (arrOf st') lo (lo + n + 1) := DI.ext (n := lo + n) O hS (fun i j zi zj b1 b2 b3 => by lia) zb za (by lia) lt1
    all_goals
      refine wpS_bind (wpS_lift (wpAny_rule ⟨rfl, ?_⟩))
      have hS2 := x2.S hS
      have hz2 := x2.size
      refine wpS_bind (wpS_mono (wpS_forRange (I := fun t c st2 => ∃ m neq, c = (none, m, neq) /\ m = t /\ SA0 st' st2 /\ Up (arrOf st') (arrOf st2) lo (lo + nrem) /\ DI L (arrOf st2) lo (lo + m) /\ EQ L (arrOf st2) (lo + m - (neq + 1)) (lo + m) /\ neq + 1 <= m /\ 1 <= m /\ m <= nrem)
        (Q := fun c st2 => ∃ m neq, c = (none, m, neq) /\ SA0 st' st2 /\ Up (arrOf st') (arrOf st2) lo (lo + nrem) /\ DI L (arrOf st2) lo (lo + m) /\ EQ L (arrOf st2) (lo + m - (neq + 1)) (lo + m) /\ neq + 1 <= m /\ 1 <= m /\ m <= nrem) ?dstep ?dfin ⟨n + 1, 0, rfl, rfl, x1, x2, x3, fun i j zi zj b1 b2 b3 b4 => by
          have e : i = j := by lia
          subst e; exact O.irr (hS2 _ zi), by lia, by lia, by lia⟩) ?dpost)
      case dfin =>
        rintro c st2 ⟨m, neq, rfl, rfl, y⟩
        exact ⟨_, neq, rfl, y⟩
      case dstep =>
        rintro t c st2 ht1 ht2 ⟨m, neq, rfl, rfl, y1, y2, y3, y4, y5, y6, y7⟩
        dsimp only
        have hk2 : kindOf st2 = κ := y1.1.trans hk
        have hS3 := y2.S hS
        have hz3 := y2.size
        have wa : lo + m < (arrOf st2).size := by lia
        have wb : lo + m - 1 < (arrOf st2).size := by lia
        refine wpS_bind (wp_ltAt C hk2 hS3 wa wb ?_)
        dsimp only
        cases e : L (arrOf st2)[lo + m] (arrOf st2)[lo + m - 1] with
        | true =>
          rw [if_pos rfl]
          have dm := y3.ext (n := lo + m) O hS3 wb wa (by lia) (O.asym _ _ (hS3 _ wa) (hS3 _ wb) e)
          by_cases c2 : neq > 0
          · rw [if_pos c2]
            refine wpS_bind (wp_rev ?_)
            have u2 : Up (arrOf st2) (mirror (arrOf st2) (lo + m - (neq + 1)) (lo + m) ((lo + m - (lo + m - (neq + 1))) / 2)) lo (lo + nrem) := (mir_up (by lia)).wide (by lia) (by lia)
            have u3 := y2.trans u2
            refine wpS_pure ⟨m + 1, 0, rfl, rfl, y1, u3, dm.rev y4 (by lia) (by lia) (by lia), fun i j zi zj b1 b2 b3 b4 => ?_, by lia, by lia, by lia⟩
            have e3 : i = j := by lia
            subst e3; exact O.irr (u3.S hS _ zi)
          · rw [if_neg c2]
            refine wpS_pure ⟨m + 1, 0, rfl, rfl, y1, y2, dm, fun i j zi zj b1 b2 b3 b4 => ?_, by lia, by lia, by lia⟩
            have e3 : i = j := by lia
            subst e3; exact O.irr (hS3 _ zi)
        | false =>
          rw [if_neg (by decide)]
          refine wpS_bind (wp_ltAt C hk2 hS3 wb wa ?_)
          dsimp only
          cases e2 : L (arrOf st2)[lo + m - 1] (arrOf st2)[lo + m] with
          | true => exact wpS_pure ⟨m, neq, rfl, y1, y2, y3, y4, y5, y6, y7⟩
          | false =>
            refine wpS_pure ⟨m + 1, neq + 1, rfl, rfl, y1, y2, y3.ext (n := lo + m) O hS3 wb wa (by lia) e2, fun i j zi zj b1 b2 b3 b4 => ?_, by lia, by lia, by lia⟩
            by_cases ei : i = lo + m <;> by_cases ej : j = lo + m
            · have e3 : i = j := by lia
              subst e3; exact O.irr (hS3 _ zi)
            · subst ei
              exact O.trans _ _ _ (hS3 _ zj) (hS3 _ wb) (hS3 _ wa) (y4 (lo + m - 1) j wb zj (by lia) (by lia) (by lia) (by lia)) e
            · subst ej
              exact O.trans _ _ _ (hS3 _ wa) (hS3 _ wb) (hS3 _ zi) e2 (y4 i (lo + m - 1) zi wb (by lia) (by lia) (by lia) (by lia))
            · exact y4 i j zi zj (by lia) (by lia) (by lia) (by lia)
      case dpost =>
        rintro c st2 ⟨m, neq, rfl, y1, y2, y3, y4, y5, y6, y7⟩
        dsimp only
        have hz3 := y2.size
        by_cases c2 : neq > 0
        case' pos =>
          rw [if_pos c2]
          refine wpS_bind (wp_rev ?_)
          have u2 : Up (arrOf st2) (mirror (arrOf st2) (lo + m - (neq + 1)) (lo + m) ((lo + m - (lo + m - (neq + 1))) / 2)) lo (lo + nrem) := (mir_up (by lia)).wide (by lia) (by lia)
          have v2 := y2.trans u2
          have v3 := y3.rev y4 (by lia) (by lia) (by lia)
          have v1 : SA0 st' (setArr st2 (mirror (arrOf st2) (lo + m - (neq + 1)) (lo + m) ((lo + m - (lo + m - (neq + 1))) / 2))) := y1
        case' neg =>
          rw [if_neg c2]
          have v2 := y2
          have v3 := y3
          have v1 := y1
        all_goals
          have hz4 := v2.size
          refine wpS_bind (wp_rev ?_)
          have w2 := v2.trans ((mir_up (p := lo) (q := lo + m) (by rw [hz4]; lia)).wide (Nat.le_refl _) (by lia))
          have w3 := v3.turn (by rw [hz4]; lia)
          have hS5 := w2.S hS
          have hz5 := w2.size
          refine wpS_bind (wpS_mono (wpS_forRange (I := fun t c st3 => ∃ n', c = (none, n') /\ n' = t /\ SA0 st' st3 /\ Up (arrOf st') (arrOf st3) lo (lo + nrem) /\ SI L (arrOf st3) lo (lo + n') /\ 1 <= n' /\ n' <= nrem) (Q := fun c st3 => ∃ n', c = (none, n') /\ SA0 st' st3 /\ Up (arrOf st') (arrOf st3) lo (lo + nrem) /\ SI L (arrOf st3) lo (lo + n') /\ 1 <= n' /\ n' <= nrem) ?astep ?afin ⟨m, rfl, rfl, v1, w2, w3, by lia, by lia⟩) ?apost)
          case afin =>
            rintro c st3 ⟨n', rfl, rfl, y⟩
            exact ⟨_, rfl, y⟩
          case apost =>
            rintro c st3 ⟨n', rfl, g1, g2, g3, g4, g5⟩
            exact wpS_pure (q n' st3 g4 g5 g1 g2 g3)
          case astep =>
            rintro t c st3 ht1 ht2 ⟨n', rfl, rfl, g1, g2, g3, g4, g5⟩
            dsimp only
            have hk3 : kindOf st3 = κ := g1.1.trans hk
            have hS6 := g2.S hS
            have hz6 := g2.size
            have wa : lo + n' < (arrOf st3).size := by lia
            have wb : lo + n' - 1 < (arrOf st3).size := by lia
            refine wpS_bind (wp_ltAt C hk3 hS6 wa wb ?_)
            dsimp only
            cases e : L (arrOf st3)[lo + n'] (arrOf st3)[lo + n' - 1] with
            | true => exact wpS_pure ⟨n', rfl, g1, g2, g3, g4, g5⟩
            | false => exact wpS_pure ⟨n' + 1, rfl, rfl, g1, g2, g3.ext (n := lo + n') O hS6 wb wa (by lia) e, by lia, by lia⟩
end
end Tm
end
section
namespace Tm
open PySem PySem.W PyProof.Rows
section
variable {L : Keyed -> Keyed -> Bool}
theorem at_up {arr arr' : Array Keyed} {sa n : Nat} (h : At L arr arr' sa n) (hz : sa + n <= arr.size) : Up arr arr' sa (sa + n) /\ SI L arr' sa (sa + n) := by
  obtain ⟨seg, e, s, p⟩ := h
  have lx : (arr.extract sa (sa + n)).toList.length = n := by rw [Array.length_toList, Array.size_extract]; lia
  have ls : seg.length = n := by rw [p.length_eq, lx]
  have la : arr.toList.length = arr.size := Array.length_toList
  have lt : (arr.toList.take sa).length = sa := by rw [List.length_take]; lia
  have ea : arr.toList = arr.toList.take sa ++ (arr.extract sa (sa + n)).toList ++ arr.toList.drop (sa + n) := by
    rw [ext2, List.append_assoc, <- List.drop_drop, List.take_append_drop, List.take_append_drop]
  have pm : arr'.Perm arr := by
    rw [Array.perm_iff_toList_perm, e]
    refine List.Perm.trans ?_ (List.Perm.of_eq ea.symm)
    exact List.Perm.append_right _ (List.Perm.append_left _ p)
  have get : ∀ i, arr'[i]? = (arr.toList.take sa ++ seg ++ arr.toList.drop (sa + n))[i]? := fun i => by rw [<- e, Array.getElem?_toList]
  refine ⟨⟨pm, fun i hi => ?_⟩, fun i j zi zj a1 a2 a3 => ?_⟩
  · rw [get, <- Array.getElem?_toList]
    rcases hi with hi | hi
    · rw [List.append_assoc, List.getElem?_append_left (by lia), List.getElem?_take_of_lt hi]
    · rw [List.getElem?_append_right (by rw [List.length_append]; lia), List.getElem?_drop, List.length_append, lt, ls]
      congr 1; lia
  · have gi : ∀ k (zk : k < arr'.size), sa <= k -> k < sa + n -> ∃ h : k - sa < seg.length, arr'[k] = seg[k - sa] := fun k zk b1 b2 => by
      have := get k
      rw [Array.getElem?_eq_getElem zk, List.append_assoc, List.getElem?_append_right (by lia), lt, List.getElem?_append_left (by lia), List.getElem?_eq_getElem (by lia)] at this
      exact ⟨by lia, by injection this⟩
    obtain ⟨h1, e1⟩ := gi i zi a1 (by lia)
    obtain ⟨h2, e2⟩ := gi j zj (by lia) a3
    rw [e1, e2]
    exact List.pairwise_iff_getElem.mp s _ _ h1 h2 (by lia)
noncomputable def Runs (L : Keyed -> Keyed -> Bool) (arr : Array Keyed) : List (Nat × Nat × Nat) -> Nat -> Nat -> Prop
  | [], a, b => a = b
  | x :: r, a, b => x.1 = a /\ 0 < x.2.1 /\ SI L arr a (a + x.2.1) /\ Runs L arr r (a + x.2.1) b
theorem Runs.le {arr : Array Keyed} : ∀ {r : List (Nat × Nat × Nat)} {a b : Nat}, Runs L arr r a b -> a + r.length <= b
  | [], a, b, h => by have : a = b := h; simp; lia
  | x :: r, a, b, ⟨h1, h2, h3, h4⟩ => by have := h4.le; rw [List.length_cons]; lia
theorem Runs.app {arr : Array Keyed} : ∀ {r q : List (Nat × Nat × Nat)} {a b : Nat}, Runs L arr (r ++ q) a b ↔ ∃ c, Runs L arr r a c /\ Runs L arr q c b
  | [], q, a, b => ⟨fun h => ⟨a, rfl, h⟩, fun ⟨c, h1, h2⟩ => by have e : a = c := h1; subst e; exact h2⟩
  | x :: r, q, a, b => by
    constructor
    · rintro ⟨h1, h2, h3, h4⟩
      obtain ⟨c, h5, h6⟩ := Runs.app.mp h4
      exact ⟨c, ⟨h1, h2, h3, h5⟩, h6⟩
    · rintro ⟨c, ⟨h1, h2, h3, h5⟩, h6⟩
      exact ⟨h1, h2, h3, Runs.app.mpr ⟨c, h5, h6⟩⟩
theorem Runs.keep {arr arr' : Array Keyed} {lo hi : Nat} (u : Up arr arr' lo hi) : ∀ {r : List (Nat × Nat × Nat)} {a b : Nat}, Runs L arr r a b -> (b <= lo \/ hi <= a) -> Runs L arr' r a b
  | [], a, b, h, _ => h
  | x :: r, a, b, ⟨h1, h2, h3, h4⟩, o => by
    have := h4.le
    exact ⟨h1, h2, h3.keep u (by lia), h4.keep u (by lia)⟩
theorem Runs.mod {arr : Array Keyed} {f : Nat × Nat × Nat -> Nat × Nat × Nat} (hf : ∀ x, (f x).1 = x.1 /\ (f x).2.1 = x.2.1) : ∀ {r : List (Nat × Nat × Nat)} {i a b : Nat}, Runs L arr r a b -> Runs L arr (r.modify i f) a b
  | [], i, a, b, h => by simpa using h
  | x :: r, 0, a, b, ⟨h1, h2, h3, h4⟩ => by
    rw [List.modify_zero_cons]
    have := hf x
    exact ⟨this.1.trans h1, by rw [this.2]; exact h2, by rw [this.2]; exact h3, by rw [this.2]; exact h4⟩
  | x :: r, i + 1, a, b, ⟨h1, h2, h3, h4⟩ => by
    rw [List.modify_succ_cons]
    exact ⟨h1, h2, h3, Runs.mod hf h4⟩
theorem split2 {α : Type} {l : List α} {i : Nat} (h : i + 1 < l.length) : ∃ p x y r, l = p ++ x :: y :: r /\ p.length = i := by
  refine ⟨l.take i, l[i], l[i + 1], l.drop (i + 2), ?_, by rw [List.length_take]; lia⟩
  rw [<- List.drop_eq_getElem_cons h, <- List.drop_eq_getElem_cons (by lia), List.take_append_drop]
end
section
variable {M : Model} {A : Around} {E : Value -> Shared -> Prop} {s : Shared} {κ : SortKind} {S : Keyed -> Prop} {L : Keyed -> Keyed -> Bool}
structure Sw (κ : SortKind) (S : Keyed -> Prop) (L : Keyed -> Keyed -> Bool) (a0 : Array Keyed) (st : SortSt) (lo : Nat) : Prop where
  kind : kindOf st = κ
  failed : failedOf st = none
  perm : (arrOf st).Perm a0
  runs : Runs L (arrOf st) (pendingOf st).toList 0 lo
theorem Sw.all {a0 : Array Keyed} {st : SortSt} {lo : Nat} (h : Sw κ S L a0 st lo) (hS : ∀ i (h : i < a0.size), S a0[i]) : ∀ i (h : i < (arrOf st).size), S (arrOf st)[i] :=
  Up.S (lo := 0) (hi := a0.size) (a := a0) ⟨h.perm, fun i hi => by
    have z := h.perm.size_eq
    rcases hi with hi | hi
    · lia
    · rw [Array.getElem?_eq_none (by lia), Array.getElem?_eq_none hi]⟩ hS
theorem wp_merge {a0 : Array Keyed} {st : SortSt} {lo i : Nat} {Q : Bool -> SortSt -> Prop} (C : Cmp M A E s κ S L) (O : Ord S L) (hS : ∀ i (h : i < a0.size), S a0[i]) (w : Sw κ S L a0 st lo) (hl : lo <= a0.size) (hi : i + 1 < (pendingOf st).size)
    (q : ∀ st' : SortSt, Sw κ S L a0 st' lo -> Up (arrOf st) (arrOf st') 0 lo -> (pendingOf st').size + 1 = (pendingOf st).size -> Q true st') : wpS M A E s (mergeAt' i) Q st := by
  have sz := w.perm.size_eq
  obtain ⟨p, x, y, r, ep, lp⟩ := split2 (l := (pendingOf st).toList) (i := i) (by rw [Array.length_toList]; exact hi)
  have rn := w.runs
  rw [ep] at rn
  obtain ⟨c, r1, hx1, hx2, hx3, hy1, hy2, hy3, r2⟩ := Runs.app.mp rn
  have le1 := r1.le
  have le2 := r2.le
  obtain ⟨xs, xn, xp⟩ := x
  obtain ⟨ys, yn, yp⟩ := y
  dsimp only at hx1 hx2 hx3 hy1 hy2 hy3 r2 le2
  subst hx1
  subst hy1
  have g1 : (pendingOf st)[i]? = some (xs, xn, xp) := by
    rw [<- Array.getElem?_toList, ep, List.getElem?_append_right (by lia), show i - p.length = 0 by lia]; rfl
  have g2 : (pendingOf st)[i + 1]? = some (xs + xn, yn, yp) := by
    rw [<- Array.getElem?_toList, ep, List.getElem?_append_right (by lia), show i + 1 - p.length = 1 by lia]; rfl
  refine wp_at C O w.kind w.failed (w.all hS) g1 g2 rfl hx2 hy2 (by lia) hx3 hy3 fun st' k1 k2 k3 k4 => ?_
  obtain ⟨u1, u2⟩ := at_up k4 (by lia)
  have ep' : (pendingOf st').toList = p ++ (xs, xn + yn, xp) :: r := by
    rw [k3]
    simp only [Array.toList_eraseIdxIfInBounds, Array.toList_setIfInBounds, ep]
    rw [List.set_append_right _ _ (by lia), show i - p.length = 0 by lia]
    rw [List.eraseIdx_append_of_length_le (by lia), show i + 1 - p.length = 1 by lia]
    rfl
  refine q st' ⟨k1, k2, u1.1.trans w.perm, ?_⟩ (u1.wide (by lia) (by lia)) ?_
  · rw [ep']
    refine Runs.app.mpr ⟨xs, r1.keep u1 (by lia), rfl, ?_, u2, ?_⟩
    · show 0 < xn + yn; lia
    · have := r2.keep u1 (by lia)
      rwa [show xs + xn + yn = xs + (xn + yn) by lia] at this
  · rw [<- Array.length_toList, <- Array.length_toList, ep', ep]
    simp only [List.length_append, List.length_cons]
    lia
theorem wp_sort {a0 : Array Keyed} {st : SortSt} {Q : Unit -> SortSt -> Prop} (C : Cmp M A E s κ S L) (O : Ord S L) (hS : ∀ i (h : i < a0.size), S a0[i]) (hk : kindOf st = κ) (hf : failedOf st = none) (ha : arrOf st = a0) (hp : pendingOf st = #[]) (hn : 1 <= a0.size)
    (q : ∀ st' : SortSt, (arrOf st').Perm a0 -> failedOf st' = none -> SI L (arrOf st') 0 a0.size -> Q () st') : wpS M A E s sortRuns' Q st := by
  unfold sortRuns'
  refine wpS_bind (wpS_get ?_)
  dsimp only
  rw [show ((sortPriv% PySem.Builtin.SortState.a) st : Array Keyed) = a0 from ha]
  refine wpS_bind (wpS_mono (wpS_forRange (I := fun t c st' => ∃ lo, c = (none, lo) /\ Sw κ S L a0 st' lo /\ lo <= a0.size /\ t <= lo) (Q := fun c st' => c = (none, a0.size) /\ Sw κ S L a0 st' a0.size) ?step ?fin ⟨0, rfl, ⟨hk, hf, by rw [ha], by rw [hp]; rfl⟩, by lia, by lia⟩) ?post)
  case fin =>
    rintro c st' ⟨lo, rfl, w, l1, l2⟩
    have : lo = a0.size := by lia
    subst this
    exact ⟨rfl, w⟩
  case step =>
    rintro t c st1 ht1 ht2 ⟨lo, rfl, w, l1, l2⟩
    dsimp only
    have sz := w.perm.size_eq
    by_cases hge : lo ≥ a0.size
    · rw [if_pos hge]
      have : lo = a0.size := by lia
      subst this
      exact wpS_pure ⟨rfl, w⟩
    rw [if_neg hge]
    refine wpS_bind (wp_run C O w.kind (w.all hS) (by lia) (by lia) fun n st2 n1 n2 s2 u2 i2 => ?_)
    dsimp only
    have wU : ∀ (st3 : SortSt) (N : Nat), SA0 st1 st3 -> Up (arrOf st1) (arrOf st3) lo (lo + (a0.size - lo)) -> Sw κ S L a0 st3 lo := fun st3 N x1 x2 => ⟨x1.1.trans w.kind, x1.2.2.trans w.failed, x2.1.trans w.perm, by rw [x1.2.1]; exact w.runs.keep x2 (.inl (Nat.le_refl _))⟩
    generalize ((sortPriv% PySem.Builtin.minRun) a0.size a0.size 0 : Nat) = mr
    by_cases c1 : n < mr
    case' pos =>
      rw [if_pos c1]
      refine wpS_bind (wpS_lift (wpAny_rule ⟨rfl, ?_⟩))
      have sz2 := u2.size
      refine wpS_bind (wp_bin C O (s2.1.trans w.kind) (u2.S (w.all hS)) (by lia) (by rw [show max n 1 = n by lia]; exact i2) fun st3 s3 u3 i3 => ?_)
      rw [if_neg (by decide)]
      have m1 : 1 <= min (a0.size - lo) (mr) := by lia
      have m2 : min (a0.size - lo) (mr) <= a0.size - lo := by lia
      have wN := wU st3 0 ⟨s3.1.trans s2.1, s3.2.1.trans s2.2.1, s3.2.2.trans s2.2.2⟩ (u2.trans (u3.wide (Nat.le_refl _) (by lia)))
      have iN := i3
      generalize min (a0.size - lo) mr = N at m1 m2 iN ⊢
    case' neg =>
      rw [if_neg c1]
      have m1 := n1
      have m2 := n2
      have wN := wU st2 0 s2 u2
      have iN := i2
      clear c1 i2 n1 n2
      generalize n = N at m1 m2 iN ⊢
    all_goals
      refine wpS_bind (wpS_get ?_)
      split
      · refine wpS_bind (wpS_mono (wpS_forRange (I := fun u c st' => c = (none, ()) /\ Sw κ S L a0 st' lo /\ SI L (arrOf st') lo (lo + N)) (Q := fun c st' => c = (none, ()) /\ Sw κ S L a0 st' lo /\ SI L (arrOf st') lo (lo + N)) ?mstep ?mfin ⟨rfl, wN, iN⟩) ?mpost)
        case mfin => exact fun c st' h => h
        case mstep =>
          rintro u c st' hu1 hu2 ⟨rfl, w', i'⟩
          refine wpS_bind (wpS_get ?_)
          by_cases hp1 : (pendingOf st').size > 1
          · rw [if_pos hp1, Array.getElem?_eq_getElem (show (pendingOf st').size - 2 < (pendingOf st').size by lia)]
            generalize (pendingOf st')[(pendingOf st').size - 2] = x
            obtain ⟨x1, x2, x3⟩ := x
            dsimp only
            split
            · exact wpS_pure ⟨rfl, w', i'⟩
            · refine wpS_bind (wp_merge C O hS w' l1 (show (pendingOf st').size - 2 + 1 < (pendingOf st').size by lia) fun st'' w'' u'' _ => ?_)
              rw [if_neg (by decide)]
              exact wpS_pure ⟨rfl, w'', i'.keep u'' (by lia)⟩
          · rw [if_neg hp1]
            exact wpS_pure ⟨rfl, w', i'⟩
        case mpost =>
          rintro c st' ⟨rfl, w', i'⟩
          dsimp only
          refine wpS_bind (wpS_modify ?_)
          refine wpS_bind (wpS_modify ?_)
          refine wpS_pure ⟨_, rfl, ⟨w'.kind, w'.failed, w'.perm, ?_⟩, by lia, by lia⟩
          rw [Array.toList_push, Array.toList_modify]
          refine Runs.app.mpr ⟨lo, ?_, rfl, m1, i', rfl⟩
          refine Runs.mod ?_ w'.runs
          exact fun x => ⟨rfl, rfl⟩
      · refine wpS_bind (wpS_modify ?_)
        refine wpS_pure ⟨_, rfl, ⟨wN.kind, wN.failed, wN.perm, ?_⟩, by lia, by lia⟩
        rw [Array.toList_push]
        exact Runs.app.mpr ⟨lo, wN.runs, rfl, m1, iN, rfl⟩
  case post =>
    rintro c st1 ⟨rfl, w⟩
    dsimp only
    have le0 := w.runs.le
    rw [Array.length_toList] at le0
    refine wpS_bind (wpS_mono (wpS_forRange (I := fun t c st' => c = (none, ()) /\ Sw κ S L a0 st' a0.size /\ (pendingOf st').size + t <= a0.size + 1) (Q := fun c st' => c = (none, ()) /\ Sw κ S L a0 st' a0.size /\ (pendingOf st').size <= 1) ?cstep ?cfin ⟨rfl, w, by lia⟩) ?cpost)
    case cfin =>
      rintro c st' ⟨rfl, w', l⟩
      exact ⟨rfl, w', by lia⟩
    case cstep =>
      rintro t c st' ht1 ht2 ⟨rfl, w', l⟩
      refine wpS_bind (wpS_get ?_)
      by_cases hp1 : (pendingOf st').size <= 1
      · rw [if_pos hp1]
        exact wpS_pure ⟨rfl, w', hp1⟩
      rw [if_neg hp1]
      refine wpS_bind (wp_merge C O hS w' (Nat.le_refl _) ?_ fun st'' w'' u'' e'' => ?_)
      · have e9 : ∀ (b : Bool) (k : Nat), (if b = true then k - 1 else k) <= k := fun b k => by split <;> lia
        exact Nat.lt_of_le_of_lt (Nat.add_le_add_right (e9 _ _) 1) (show (pendingOf st').size - 2 + 1 < (pendingOf st').size by lia)
      · rw [if_neg (by decide)]
        exact wpS_pure ⟨rfl, w'', by lia⟩
    case cpost =>
      rintro c st' ⟨rfl, w', l⟩
      refine wpS_pure (q st' w'.perm w'.failed ?_)
      have rn := w'.runs
      have ll : (pendingOf st').toList.length <= 1 := by rw [Array.length_toList]; exact l
      generalize (pendingOf st').toList = pl at rn ll
      match pl, rn, ll with
      | [], rn, _ => have : 0 = a0.size := rn; lia
      | [x], ⟨r1, r2, r3, r4⟩, _ =>
        have e : 0 + x.2.1 = a0.size := r4
        rw [e] at r3
        exact r3
      | _ :: _ :: _, _, ll => simp at ll
end
end Tm
end
section
namespace L2
open PySem PySem.Spec PyProof.Rows PySem.W Kn
theorem s1 (x y : Str) (h : sLt x y = true) : sLt y x = false := by
  by_cases e : x = y
  · subst e; exact sLt_irrefl x
  · rw [sLt_total e, h]; rfl
theorem s2 (x y : Str) (h : sLt x y = false) : x = y \/ sLt y x = true := by
  by_cases e : x = y
  · exact .inl e
  · exact .inr (by rw [sLt_total e, h]; rfl)
end L2
end
section
namespace L2
open PySem PySem.Spec PyProof.Rows PySem.W Kn
section
variable {prog : Program} {w : World} {A : Around} {E : Value -> Shared -> Prop} {s : Shared} {H : Hp}
end
section
variable {X : Cx}
end
end L2
end
section
namespace L2
open PySem PySem.Spec PyProof.Rows PySem.W
section
variable {prog : Program} {w : World} {A : Around} {E : Value -> Shared -> Prop} {s : Shared}
theorem list_sort_anyK {κ : PyProof.Rows.KeyKind} (hO : κ.OneLt) {a : Addr} {vs : List Value} {n : Nat} {P : Fin -> Shared -> Prop} (ho : s.heap.get? a = some (seqObj "list" vs.toArray n)) (h0 : PyProof.Rows.KeysOf κ (pairsOf vs)) (hkk : ∀ v₁ v₂ rest, vs = v₁ :: v₂ :: rest -> keyKind' (v₁ :: v₂ :: rest).toArray = pure oneType') (hL : vs.length <= 100000)
    (h : ∀ st' : SortSt, (arrOf st').Perm (pairsOf vs) -> SortedToK κ (arrOf st') (pairsOf vs).size -> P (.done (.ret .none)) { s with heap := sortedHeap s.heap a vs ((arrOf st').map (·.2)) }) : wpAny (model prog w) A (Builtin.«list.sort» ⟨[.ref a], []⟩) P E s := by
  by_cases h64 : vs.length < 64
  · exact list_sort_treeK hO ho h0 hkk h64 h
  have hL' : vs.length <= sizeLine := by rw [sizeLine_eq]; lia
  obtain ⟨e1, g1⟩ : ∃ e1, (s.heap.update a (Obj.mapSeq fun _ => (#[] : Array Value))).get? a = some (seqObj "list" #[] e1) := ⟨_, get?_update_seq ho fun _ => #[]⟩
  have g6 : (((s.heap.update a (Obj.mapSeq fun _ => (#[] : Array Value))).push (seqObj "tuple" vs.toArray 0)).push (seqObj "list" #[] 0)).get? a = some (seqObj "list" #[] e1) := Heap.get?_push_of_some _ (Heap.get?_push_of_some _ g1)
  rw [list_sort_plain]
  refine wpAny_bind (listItems_at ho rfl (wpAny_bind (listUpdate_at ho rfl ?_ (by rw [List.size_toArray]; exact hL') (Nat.zero_le _))))
  refine wpAny_bind (seqEpoch_at g1 rfl (wpAny_bind (wpAny_newTuple ?_ (by show vs.length <= _; exact hL'))))
  refine wpAny_bind (wpAny_newList (wpAny_holding ?_) (Nat.zero_le _))
  show wpAny (model prog w) A _ P E { s with heap := ((s.heap.update a (Obj.mapSeq fun _ => (#[] : Array Value))).push (seqObj "tuple" vs.toArray 0)).push (seqObj "list" #[] 0) }
  dsimp only
  have h2 : ¬ vs.toArray.size < 2 := by rw [List.size_toArray]; lia
  rw [if_neg h2, if_neg h2]
  have kk : keyKind' vs.toArray = pure oneType' := by
    cases vs with
    | nil => simp at h64
    | cons v vs =>
      cases vs with
      | nil => simp at h64
      | cons v' vs => exact hkk _ _ _ rfl
  rw [kk]
  refine wpAny_bind (wpAny_pure ?_)
  have key : ∀ (x : Keyed), (∃ b, κ.keyOf x.1 = some b) -> κ.keyOf x.1 = some ((κ.keyOf x.1).getD κ.dflt) := fun x ⟨b, e⟩ => by rw [e]; rfl
  refine wpAny_bind (wpAny_mono (Tm.wp_sort (S := fun x => ∃ b, κ.keyOf x.1 = some b) (L := fun x y => κ.blt ((κ.keyOf x.1).getD κ.dflt) ((κ.keyOf y.1).getD κ.dflt)) (a0 := vs.toArray.zip vs.toArray)
    (Q := fun _ st' => (arrOf st').Perm (vs.toArray.zip vs.toArray) /\ failedOf st' = none /\ Tm.SI (fun x y => κ.blt ((κ.keyOf x.1).getD κ.dflt) ((κ.keyOf y.1).getD κ.dflt)) (arrOf st') 0 (vs.toArray.zip vs.toArray).size) ?cmp ?ord (fun i hi => ?all) rfl rfl rfl rfl (by simp; lia) fun st' q1 q2 q3 => ⟨q1, q2, q3⟩) ?_ fun _ _ e => e)
  case all => exact h0 _ (by show _ ∈ (vs.toArray.zip vs.toArray).toList; rw [Array.mem_toList_iff]; exact Array.getElem_mem hi)
  case ord =>
    refine ⟨fun x y _ _ e => KeyOrd.klt_asymm (O := κ.toKeyOrd) e, fun x y z _ _ _ e1 e2 => KeyOrd.kle_trans (O := κ.toKeyOrd) e1 e2⟩
  case cmp =>
    intro x y st Q hk sx sy q
    rw [lt'_eq]
    refine wpS_bind (wpS_get ?_)
    rw [hk]
    show wpS _ _ _ _ (do let r <- (keyLt' oneType' x.1 y.1).attempt; _) Q st
    rw [keyLt'_oneType]
    exact wpS_bind (wpS_lift (wpAny_attempt (hO prog w A _ _ x.1 y.1 _ _ (key x sx) (key y sy) ⟨rfl, wpS_pure q⟩)))
  rintro ⟨⟨⟩, st'⟩ s' ⟨rfl, hp, hf, hs⟩
  dsimp only
  have la : (arrOf st').size = vs.length := by rw [hp.size_eq]; simp
  refine wpAny_bind (seqEpoch_at g6 rfl (wpAny_bind (listUpdate_at g6 rfl ?_ (Nat.zero_le _) (by rw [Array.size_map, la]; exact Nat.le_succ_of_le hL'))))
  rw [hf]
  simp only [bne_self_eq_false, Bool.false_eq_true, if_false]
  refine wpAny_pure (h st' hp fun i j hij hj => ?_)
  have hj' : j < (arrOf st').size := by rw [pairsOf_size] at hj; rw [la]; exact hj
  have hi' : i < (arrOf st').size := by lia
  have e : ∀ k (hk : k < (arrOf st').size), KK κ (arrOf st') k = (κ.keyOf (arrOf st')[k].1).getD κ.dflt := fun k hk => by unfold KK; rw [Array.getElem?_eq_getElem hk]
  rw [e i hi', e j hj']
  rcases Nat.lt_or_ge i j with l | l
  · exact hs i j hi' hj' (Nat.zero_le _) l (by rw [<- hp.size_eq]; exact hj')
  · have : i = j := by lia
    subst this
    exact KeyOrd.kle_refl (O := κ.toKeyOrd) _
end
section
variable {X : Cx}
noncomputable def rSortDL : List V -> Hp -> VK -> Prop := fun xs H Q => ∃ a kvs, xs = [.ref a] /\ H a = some (.dK kvs) /\ (∀ kv ∈ kvs, ∃ s, kv.1 = Sum.inr s) /\ kvs.length <= 100000 /\
  ∀ (p : Addr) (ys : List Str), H p = none -> (ys.map (Sum.inr : Str -> Key)).Perm (kvs.map (·.1)) -> sortedS ys = true -> Q (.ref p) (upd H p (.lst (ys.map V.str)))
theorem call_sortDL (hc : X.calm = true) : CallR X (.builtin "sorted") rSortDL := by
  intro pins s σ H xs us Q I r h
  obtain ⟨a, kvs, rfl, ha, hk, hL, q⟩ := h
  obtain ⟨u, rfl, ru⟩ := r.one
  cases ru
  have hh := I.ok.hd hc
  obtain ⟨z, hd, vs, rel, dd⟩ := dk_of I.hok ha
  obtain ⟨ep, hat⟩ := dd.dictAt
  have hlen : kvs.length = vs.length := rel.length
  refine Calls.call_function_entry kind_sorted plain_sorted entry_sorted (args_sorted1 _) ?_
  unfold Builtin.«sorted»
  refine wpAny_bind (m := checkCount "sorted" 1 1 _) (wpAny_pure ?_)
  refine wpAny_bind (kdu_collect (A := X.A.in1) (kdl_dict (knd := mixKind X.prog X.w) (kvs := vs) (ep := ep) hd) hh hat (by rw [<- hlen]; exact z) fun h' tk acc keep items => ?_)
  have hl : acc.toList.length = vs.length := by rw [Array.length_toList]; exact items.1
  refine wpAny_bind (wpAny_newList ?_ (by rw [hl, <- hlen]; exact z))
  -- the keys as texts
  have hss : ∃ ss : List Str, StrsAre acc.toList ss /\ ss.map (Sum.inr : Str -> Key) = kvs.map (·.1) := by
    have key : ∀ (n : Nat), n <= vs.length -> ∃ ss : List Str, StrsAre (acc.toList.drop (vs.length - n)) ss /\ ss.map (Sum.inr : Str -> Key) = (kvs.map (·.1)).drop (vs.length - n) := by
      intro n
      induction n with
      | zero => intro _; exact ⟨[], by rw [List.drop_of_length_le (by lia)]; exact .nil, by rw [List.drop_of_length_le (by rw [List.length_map]; lia)]; rfl⟩
      | succ n ih =>
        intro hn
        obtain ⟨ss, h1, h2⟩ := ih (by lia)
        have e : vs.length - n = (vs.length - (n + 1)) + 1 := by lia
        have hj : vs.length - (n + 1) < acc.toList.length := by lia
        have hj2 : vs.length - (n + 1) < kvs.length := by lia
        obtain ⟨k, x, hx, hkk⟩ := items.2 (vs.length - (n + 1)) (acc.toList[vs.length - (n + 1)]) (by rw [<- Array.getElem?_toList, List.getElem?_eq_getElem hj])
        have ek : kvs[vs.length - (n + 1)].1 = k := by
          obtain ⟨b, hb, hr⟩ := kv_get rel (List.getElem?_eq_getElem hj2)
          rw [hx] at hb
          cases hb
          exact hr
        obtain ⟨sx, hs⟩ := hk _ (List.getElem_mem hj2)
        rw [ek] at hs
        subst hs
        obtain ⟨t, et⟩ : ∃ t, acc.toList[vs.length - (n + 1)] = Value.str sx t := by
          rcases keyIs_shape (show keyIs (Sum.inr sx) _ = true from hkk) with ⟨i, t, e1, _⟩ | ⟨y, t, e1, e2⟩
          · cases e1
          · cases e1; exact ⟨t, e2⟩
        refine ⟨sx :: ss, ?_, ?_⟩
        · rw [List.drop_eq_getElem_cons hj, et, <- e]
          exact .cons sx t h1
        · rw [List.map_cons, h2, List.drop_eq_getElem_cons (i := vs.length - (n + 1)) (by rw [List.length_map]; exact hj2), List.getElem_map, ek, e]
    obtain ⟨ss, h1, h2⟩ := key vs.length (Nat.le_refl _)
    rw [Nat.sub_self, List.drop_zero] at h1
    rw [Nat.sub_self, List.drop_zero] at h2
    exact ⟨ss, h1, h2⟩
  obtain ⟨ss, hS, hmap⟩ := hss
  have hoL : (h'.push { cls := .type "list", data := .seq acc.toList.toArray }).get? h'.objs.size = some (seqObj "list" acc.toList.toArray 0) := Heap.get?_push_size _ rfl
  refine wpAny_bind (wpAny_holding (wpAny_call_entry slot_list_sort ⟨_, hoL, rfl⟩ entry_list_sort (list_sort_anyK strKind_oneLt hoL hS.keysOf (fun v₁ v₂ rest e => keyKind_strs (by rw [<- e]; exact hS)) (by rw [hl, <- hlen]; exact hL) fun st' a1 a2 => ⟨_, rfl, ?_⟩) (args_list_sort _)))
  obtain ⟨ys, b1, b2, b3⟩ := sorted_out_str hS a1 a2
  refine wpAny_pure ⟨_, rfl, ?_⟩
  have I1 : Inv X pins σ H { s with heap := h', toks := tk } := I.kept keep
  obtain ⟨e, hat2⟩ := sortedHeap_at (out := (arrOf st').map (·.2)) hoL
  have hz : (ys.map V.str).length <= sizeLine := by
    rw [List.length_map, b2.length_eq, <- List.length_map (f := (Sum.inr : Str -> Key)), hmap, List.length_map]
    exact z
  refine ⟨.ref h'.objs.size, upd H h'.objs.size (.lst (ys.map V.str)), ?_, rfl, q _ ys (I1.hok.fresh (Nat.le_refl _)) ?_ b3⟩
  · refine I1.laid (t' := tk) (fun b o hb => ?_) (Nat.le_refl _) ⟨hz, _, e, ofStrs b1, ?_⟩
    · have hlt : b < h'.objs.size := Heap.lt_size hb
      rw [sortedHeap_old (Nat.ne_of_lt hlt) (by rw [Heap.size_push]; exact Nat.lt_succ_of_lt hlt)]
      exact Heap.get?_push_of_some _ hb
    · rw [hat2]
  · rw [<- hmap]
    exact b2.map _
theorem sorted_setL {pins : List (Addr × Obj)} {s : Shared} {σ : St} {H : Hp} {a : Addr} {zs : List Str} {Q : VK} (hc : X.calm = true) (I : Inv X pins σ H s) (S : SetS X.prog X.w s.heap a zs) (hL : zs.length < 3000)
    (q : ∀ (p : Addr) (ys : List Str), H p = none -> ys.Nodup -> (∀ x, x ∈ ys ↔ x ∈ zs) -> sortedS ys = true -> Q (.ref p) (upd H p (.lst (ys.map V.str)))) :
    wpAny (model X.prog X.w) X.A (call (.builtin "sorted") [.ref a]) (EP X pins σ Q) X.xe s := by
  have hh := I.ok.hd hc
  refine Calls.call_function_entry kind_sorted plain_sorted entry_sorted (args_sorted1 _) ?_
  unfold Builtin.«sorted»
  refine wpAny_bind (m := checkCount "sorted" 1 1 _) (wpAny_pure ?_)
  refine wpAny_bind (collect_set (A := X.A.in1) hh S (by lia) fun h' tk d os ss keep hS nd mem => ?_)
  have hl : os.length = ss.length := hS.length
  have le : ss.length <= zs.length := List.Nodup.length_le_of_subset nd fun y hy => (mem y).mp hy
  have fit : os.length <= sizeLine := Nat.le_trans (show os.length <= 3000 by lia) (by decide)
  refine wpAny_bind (wpAny_newList ?_ fit)
  have hoL : (h'.push { cls := .type "list", data := .seq os.toArray }).get? h'.objs.size = some (seqObj "list" os.toArray 0) := Heap.get?_push_size _ rfl
  refine wpAny_bind (wpAny_holding (wpAny_call_entry slot_list_sort ⟨_, hoL, rfl⟩ entry_list_sort (list_sort_anyK strKind_oneLt hoL hS.keysOf (fun v₁ v₂ rest e => keyKind_strs (by rw [<- e]; exact hS)) (by lia) fun st' a1 a2 => ⟨_, rfl, ?_⟩) (args_list_sort _)))
  obtain ⟨ys, b1, b2, b3⟩ := sorted_out_str hS a1 a2
  refine wpAny_pure ⟨_, rfl, ?_⟩
  have I1 : Inv X pins σ H { s with heap := h', toks := tk, drawn := d } := (I.kept (t' := tk) keep).setd d
  obtain ⟨e, hat2⟩ := sortedHeap_at (out := (arrOf st').map (·.2)) hoL
  have hz : (ys.map V.str).length <= sizeLine := by rw [List.length_map, b2.length_eq, <- hl]; exact fit
  refine ⟨.ref h'.objs.size, upd H h'.objs.size (.lst (ys.map V.str)), ?_, rfl, q _ ys (I1.hok.fresh (Nat.le_refl _)) (b2.nodup_iff.mpr nd) (fun x => b2.mem_iff.trans (mem x)) b3⟩
  refine I1.laid (t' := tk) (fun b o hb => ?_) (Nat.le_refl _) ⟨hz, _, e, ofStrs b1, ?_⟩
  · have hlt : b < h'.objs.size := Heap.lt_size hb
    rw [sortedHeap_old (Nat.ne_of_lt hlt) (by rw [Heap.size_push]; exact Nat.lt_succ_of_lt hlt)]
    exact Heap.get?_push_of_some _ hb
  · rw [hat2]
noncomputable def tSSL (te : TE) : TE := fun σ H Q => te σ H fun x H1 => ∃ (a : Addr) (zs : List Str), [x] = [V.ref a] /\ H1 a = some (.lst (zs.map V.str)) /\ zs.length < 3000 /\
  ∀ (p : Addr) (ys : List Str), H1 p = none -> ys.Nodup -> (∀ x, x ∈ ys ↔ x ∈ zs) -> sortedS ys = true -> Q (.ref p) (upd H1 p (.lst (ys.map V.str)))
theorem pe_ssL {e : Expr} {te : TE} {p1 p2 pos1 pos2 : Pos} (hc : X.calm = true) (hg1 : Gl X "sorted") (hm1 : X.mg "sorted" = none) (hg2 : Gl X "set") (hm2 : X.mg "set" = none) (he : PE X e te) (hs : notStar e = true) :
    PE X (.Call (.Name "sorted" p1) [.Call (.Name "set" p2) [e] [] pos2] [] pos1) (tSSL te) := by
  intro pins s σ H Q I h
  refine wpAny_Call_Name_kw (ld_blt I hg1 hm1 bt_sorted ?_ (by decide) (by decide))
  refine PyProof.Rows.callWith_builtin1 ?_ (star_cons rfl) rfl
  rw [star_cons (e := .Call (.Name "set" p2) [e] [] pos2) rfl]
  show wpAny _ _ (spliced ((false, eval (.Call (.Name "set" p2) [e] [] pos2) X.env) :: backTo pos1 (starEach [] X.env))) _ _ s
  refine Calls.spliced_cons ?_
  refine wpAny_Call_Name_kw (ld_blt I hg2 hm2 bt_set ?_ (by decide) (by decide))
  refine PyProof.Rows.callWith_type1 ?_ (star_cons hs) rfl
  refine thn (qa_cons he pa_nil hs pos2 pins s σ H (fun xs H1 => ∃ (a : Addr) (zs : List Str), xs = [.ref a] /\ H1 a = some (.lst (zs.map V.str)) /\ zs.length < 3000 /\ ∀ (p : Addr) (ys : List Str), H1 p = none -> ys.Nodup -> (∀ x, x ∈ ys ↔ x ∈ zs) -> sortedS ys = true -> Q (.ref p) (upd H1 p (.lst (ys.map V.str)))) I ?_) fun us s1 ⟨vs, H1, I1, r1, a, zs, ea, hH, hL, q⟩ => ?_
  · exact h
  subst ea
  obtain ⟨u, rfl, ru⟩ := r1.one
  cases ru
  obtain ⟨z, its, n, r, hl, e⟩ := I1.lstM hH
  have are : StrsAre its zs := strsOfVals r
  refine call_set_str (A := X.A) (its := its.toArray) (I1.ok.hd hc) ⟨_, e, rfl, n, rfl⟩ (by simpa using are) (by lia) fun h' tk S keep => ?_
  refine Calls.spliced_nil ?_
  exact sorted_setL hc (I1.kept (t' := tk) keep) S hL q
theorem we_ssL {e : Expr} {te : TE} {p1 p2 pos1 pos2 : Pos} (hc : X.calm = true) (hg1 : Gl X "sorted") (hm1 : X.mg "sorted" = none) (hg2 : Gl X "set") (hm2 : X.mg "set" = none) (he : Hd (PE X e te)) (hs : notStar e = true := by rfl) :
    Hd (PE X (.Call (.Name "sorted" p1) [.Call (.Name "set" p2) [e] [] pos2] [] pos1) (tSSL te)) := ⟨pe_ssL hc hg1 hm1 hg2 hm2 he.out hs⟩
end
end L2
end
section
namespace L2
open PySem PySem.Spec PyProof.Rows PySem.W
noncomputable def IsTy (t T : String) (b : Bool) : Prop := ∀ K : PySem.W.Frag, PySem.W.kitOne K (.type t) (.type T) = some b
theorem ist_self (t : String) : IsTy t t true := fun K => by unfold PySem.W.kitOne; rw [if_pos (by simp)]
theorem ist_int_tuple : IsTy "int" "tuple" false := fun K => by kernel_rfl
theorem ist_str_tuple : IsTy "str" "tuple" false := fun K => by kernel_rfl
theorem ist_int_bool : IsTy "int" "bool" false := fun K => by kernel_rfl
theorem ist_str_bool : IsTy "str" "bool" false := fun K => by kernel_rfl
theorem ist_int_str : IsTy "int" "str" false := fun K => by kernel_rfl
section
variable {X : Cx}
noncomputable def rIsT (K : PySem.W.Frag) : List V -> Hp -> VK -> Prop := fun xs H Q => ∃ x T t b, xs = [x, .ty T] /\ TyOf K H x (.type t) /\ IsTy t T b /\ Q (.bl b) H
theorem call_isT : CallR X (.builtin "isinstance") (rIsT X.K) := by
  intro pins s σ H xs us Q I r h
  obtain ⟨x, T, t, b, rfl, ty, e, q⟩ := h
  obtain ⟨u, v, rfl, ru, rv⟩ := r.two
  cases rv
  exact isinst_ok I ru ty (e X.K) fun tk => ⟨.bl b, H, I.tok _, rfl, q⟩
noncomputable def rIsSI : List V -> Hp -> VK -> Prop := fun xs H Q => ∃ x tp, xs = [x, .ref tp] /\ H tp = some (.tup [.ty "str", .ty "int"]) /\ ((∃ i, x = .int i) \/ ∃ z, x = .str z) /\ Q (.bl true) H
theorem call_isSI : CallR X (.builtin "isinstance") rIsSI := by
  intro pins s σ H xs us Q I r h
  obtain ⟨x, tp, rfl, ht, hx, q⟩ := h
  obtain ⟨u, v, rfl, ru, rv⟩ := r.two
  cases rv
  obtain ⟨_, its, r2, o, h1, h2, n, h3⟩ := (show ObjOk X.prog X.w H s.heap tp (.tup [.ty "str", .ty "int"]) from I.hok tp _ ht)
  obtain ⟨u1, u2, rfl, q1, q2⟩ := r2.two
  cases q1
  cases q2
  obtain ⟨cls, dd, data, sl⟩ := o
  simp only at h2 h3
  subst h2 h3
  rcases hx with ⟨i, rfl⟩ | ⟨z, rfl⟩
  · obtain ⟨t, rfl⟩ := ru
    refine PySem.W.kia_tup (its := [.type "str", .type "int"]) PySem.W.kitx_int I.kIn True.intro h1 ?_ (fun z => nomatch z) fun tk => ⟨.bl true, H, I.tok _, rfl, q⟩
    unfold PySem.W.kitAny
    rw [ist_int_str X.K]
    show PySem.W.kitAny X.K (.type "int") [.type "int"] = _
    unfold PySem.W.kitAny
    rw [ist_self "int" X.K]
  · obtain ⟨t, rfl⟩ := ru
    refine PySem.W.kia_tup (its := [.type "str", .type "int"]) PySem.W.kitx_str I.kIn True.intro h1 ?_ (fun z => nomatch z) fun tk => ⟨.bl true, H, I.tok _, rfl, q⟩
    unfold PySem.W.kitAny
    rw [ist_self "str" X.K]
theorem call_isA : CallR X (.builtin "isinstance") (fun xs H Q => rIsT X.K xs H Q \/ rIsSI xs H Q) := call_isT.or call_isSI
section
open PySem.AutoSeq1 (wpAny_loadPart')
open PySem.MeetsSeq PySem.MeetsSeq2 PySem.MeetsSeq3 PySem.SeqAt
theorem ext_tup (l b : Addr) (xs ys : Array Value) (n m : Nat) (dd : Option Addr) (sl : Array (Option Value)) (c0 : ¬ (!xs.isEmpty && Builtin.List.listTooLong (xs.size + ys.size)) = true) (c1 : xs.size <= sizeLine) (c2 : xs.size + ys.size <= sizeLine + 1) :
    Meets (Builtin.«list.extend» ⟨[.ref l, .ref b], []⟩) (fun _ R s => s.heap.get? l = some (seqObj "list" xs n) /\ s.heap.get? b = some { cls := .type "tuple", dict := dd, data := .seq ys m, slots := sl } /\ R (.ok (.ret .none)) { s with heap := s.heap.update l (Obj.mapSeq (· ++ ys)), toks := s.toks }) :=
  .of_wp fun prog w A R s ⟨h1, h2, h3⟩ => by
    obtain ⟨hp, g, d, tk, os⟩ := s
    have f1 := AutoSeq1.idx_int
    have f2 := AutoSeq1.sub_tuple_tuple
    have f3 := AutoSeq1.sub_list_list
    have f4 := AutoSeq1.sub_tuple_list
    have f5 := AutoSeq1.sub_list_tuple
    have c3 : (xs ++ ys).size <= sizeLine + 1 := by rw [Array.size_append]; exact c2
    wp_walk using (wpAny_updateSeq h1 rfl (hz := c1) (_hz' := c3)), wpAny_loadPart' h1, wpAny_loadPart' h2
    exact ⟨_, rfl, h3⟩
end
noncomputable def rExtendT : V -> List V -> Hp -> VK -> Prop := fun x vs H Q => ∃ l b xs zs, x = .ref l /\ vs = [.ref b] /\ H l = some (.lst xs) /\ H b = some (.tup zs) /\ xs.length + zs.length <= sizeLine /\ Q .non (upd H l (.lst (xs ++ zs)))
theorem mt_extendT : MtM X "list.extend" rExtendT := by
  intro pins s σ H x vs v us Q I rx rv h
  obtain ⟨l, b, xs, zs, rfl, rfl, hH, hB, hz, q⟩ := h
  cases rx
  obtain ⟨u, rfl, ru⟩ := rv.one
  cases ru
  obtain ⟨z, its, n, r, hl, e⟩ := I.lstM hH
  obtain ⟨_, its2, r2, ob, h1, h2, n2, h3⟩ := (show ObjOk X.prog X.w H s.heap b (.tup zs) from I.hok b _ hB)
  obtain ⟨cls, dd, data, sl⟩ := ob
  simp only at h2 h3
  subst h2 h3
  have hl2 := r2.length
  have hsz : its.toArray.size + its2.toArray.size <= sizeLine := by rw [List.size_toArray, List.size_toArray]; lia
  have hlong : ¬ (!its.toArray.isEmpty && Builtin.List.listTooLong (its.toArray.size + its2.toArray.size)) = true := by
    rw [notLongL hsz, Bool.and_false]
    exact Bool.false_ne_true
  refine call_meets F.slot_list_extend ⟨_, e, rfl⟩ F.entry_list_extend (F.args_list_extend_2 _ _)
    (ext_tup l b its.toArray its2.toArray n n2 dd sl hlong (by rw [List.size_toArray]; lia) (by lia)) ⟨e, h1, ?_⟩
  refine ⟨.non, _, I.lset (its' := its ++ its2) hH e (by simp) (r.append r2) ?_, rfl, q⟩
  rw [List.length_append]
  lia
theorem mt_extendU : MtM X "list.extend" (fun x vs H Q => rExtend x vs H Q \/ rExtendT x vs H Q) := fun pins s σ H x xs v us Q I rx rv h => h.elim (mt_extend pins s σ H x xs v us Q I rx rv) (mt_extendT pins s σ H x xs v us Q I rx rv)
end
end L2
end
section
namespace L2
open PySem PySem.Spec PyProof.Rows PySem.W
section
variable {prog : Program} {w : World} {A : Around} {E : Value -> Shared -> Prop} {s : Shared}
variable {I : Addr} {fp wr : List Addr} {n : Nat} {P : Nat -> Value -> Prop} {St : Nat -> Heap -> Prop}
end
end L2
end
section
namespace L2
open PySem PySem.Spec PyProof.Rows PySem.W
open Classical in
section
variable {P : Program} {w : World} {H : Hp}
end
end L2
end
section
namespace L2
open PySem PySem.Spec PyProof.Rows PySem.W
section
variable {prog : Program} {w : World} {A : Around} {E : Value -> Shared -> Prop} {s : Shared} {T : String} {r : Addr} {n : Nat} {P : Nat -> Value -> Prop} {OK : Heap -> Prop}
end
end L2
end
section
namespace L2
open PySem PySem.Spec PyProof.Rows PySem.W
section
variable {X : Cx}
end
end L2
end
section
namespace L2
open PySem PySem.Spec PyProof.Rows PySem.W
open Kn (krun)
section
variable {X : Cx}
noncomputable def kD : Key -> Dt
  | .inl i => .int i
  | .inr x => .str x
end
end L2
end
section
namespace L2
open PySem PySem.Spec PyProof.Rows PySem.W
section
variable {X : Cx}
end
end L2
end
section
namespace L2
open PySem PySem.Spec PyProof.Rows
theorem _root_.PySem.Draws.tuple {prog : Program} {w : World} {A : Around} (hh : A.handled = none) (it l : Addr) (hne : l ≠ it) (items : Array Value) :
    Draws prog w A it [it, l] items.size (fun i v => items[i]? = some v) (fun i h => h.IsTupleIter it l i /\ h.IsTuple l items) where
  live := fun _ _ st => let ⟨o, ho, _⟩ := st.1; ⟨o, ho⟩
  frame := fun _ _ _ st hk => ⟨st.1.at fun o e => hk it (by simp) o e, st.2.at fun o e => hk l (by simp) o e⟩
  item := fun i s Q E hi st hQ => by
    refine nextOf_tup st.1 st.2 (x := items[i]) (by simp [hi]) fun h' hit' hs' => ?_
    exact hQ _ h' s.toks (by simp [hi]) ⟨hit', st.2.extBut hs'.extBut hne⟩ hs'
  done := fun s Q E st hE => nextOf_tup_end hh st.1 st.2 (by simp) hE
section
open AutoSeq1 (wpAny_loadPart')
theorem meets_enumerate_newT (l : Addr) (items : Array Value) (n : Nat) (dct : Option Addr) (sl : Array (Option Value)) :
    Meets (Builtin.«enumerate.__new__» ⟨[.type "enumerate", .ref l], []⟩) (fun _ R s => s.heap.get? l = some { cls := .type "tuple", dict := dct, data := .seq items n, slots := sl } /\
      R (.ok (.ret (.ref (s.heap.push { cls := .type "tuple_iterator", data := .fields #[.ref l, .int 0 0] }).objs.size)))
        { s with heap := (s.heap.push { cls := .type "tuple_iterator", data := .fields #[.ref l, .int 0 0] }).push { cls := .type "enumerate", data := .fields #[.none, .bool false, .ref s.heap.objs.size, rawInt 0, .none, .none] } }) :=
  .of_wp fun prog w A R s h => by
    obtain ⟨hp, g, d, tk, os⟩ := s; obtain ⟨hl, h⟩ := h
    have hsub := sub_enumerate
    have hL : Heap.IsTuple (Shared.heap ⟨hp, g, d, tk, os⟩) l items := ⟨_, hl, rfl, n, rfl⟩
    wp_walk using wpAny_loadPart' hl
    refine wpAny_stack_any fun st => wpAny_pure ?_
    split
    · rename_i c _ _ _ _ _
      cases (c == Value.type "enumerate")
      · wp_walk using wpAny_loadPart' hl, wpAny_pyIter_tuple hL
        exact ⟨_, rfl, h⟩
      · wp_walk using wpAny_loadPart' hl, wpAny_pyIter_tuple hL
        exact ⟨_, rfl, h⟩
    · wp_walk using wpAny_loadPart' hl, wpAny_pyIter_tuple hL
      exact ⟨_, rfl, h⟩
end
section
variable {prog : Program} {w : World} {A : Around} {E : Value -> Shared -> Prop} {s : Shared}
theorem call_enumerate_tuple {l : Addr} {items : Array Value} {Q : Value -> Shared -> Prop} (hL : IsTup s.heap l items)
    (h : ∀ h', IsEnum h' (s.heap.objs.size + 1) s.heap.objs.size 0 .none -> h'.IsTupleIter s.heap.objs.size l 0 -> h'.objs.size = s.heap.objs.size + 2 ->
      (∀ b o, s.heap.get? b = some o -> h'.get? b = some o) -> Q (.ref (s.heap.objs.size + 1)) { s with heap := h' }) :
    wpAny (model prog w) A (call (.type "enumerate") [.ref l]) Q E s := by
  obtain ⟨⟨c, dct, dt, sl⟩, hl, hc, n, hd⟩ := hL
  replace hc : c = .type "tuple" := hc
  replace hd : dt = .seq items n := hd
  subst hc hd
  refine callType_new F.called_enumerate (by decide) (F.typeCall_enumerate_1 _) (F.newCall_enumerate_1 _) (fun obj => F.args_object_init_2 obj _) F.entry_enumerate_new
    (meets_enumerate_newT l items n dct sl) ⟨hl, ?_⟩
  have hz : (s.heap.push { cls := .type "tuple_iterator", data := .fields #[.ref l, .int 0 0] }).objs.size = s.heap.objs.size + 1 := Heap.size_push ..
  show _ /\ _
  rw [hz]
  have he : IsEnum ((s.heap.push { cls := .type "tuple_iterator", data := .fields #[.ref l, .int 0 0] }).push
      { cls := .type "enumerate", data := .fields #[.none, .bool false, .ref s.heap.objs.size, rawInt 0, .none, .none] }) (s.heap.objs.size + 1) s.heap.objs.size 0 .none := by
    have := Heap.get?_push_size (s.heap.push { cls := .type "tuple_iterator", data := .fields #[.ref l, .int 0 0] })
      (o := { cls := .type "enumerate", data := .fields #[.none, .bool false, .ref s.heap.objs.size, rawInt 0, .none, .none] }) rfl
    rw [hz] at this; exact this
  refine ⟨⟨_, he, rfl⟩, h _ he ⟨_, Heap.get?_push_of_some _ (Heap.get?_push_size _ rfl), rfl, rfl⟩ (by rw [Heap.size_push, hz]) fun b o x => Heap.get?_push_of_some _ (Heap.get?_push_of_some _ x)⟩
theorem enum_tup_end {e it l : Addr} {i : Nat} {items : Array Value} {old : Value} {Q : Option Value -> Shared -> Prop} (hh : A.handled = none)
    (he : IsEnum s.heap e it i old) (hit : s.heap.IsTupleIter it l i) (hl : s.heap.IsTuple l items) (hx : items[i]? = none)
    (hQ : ∀ h', Heap.ExtBut it s.heap h' -> Q none { s with heap := h' }) : wpAny (model prog w) A (pyNext (.ref e)) Q E s := by
  have hT : s.TypeIs (.ref e) "enumerate" := ⟨_, he, rfl⟩
  unfold pyNext
  refine wpAny_bind (wpAny_attempt (wpAny_callSpecial?_slot (name := Str.ofString "__next__") hT F.slot_enumerate_next
    (wpAny_call_entry F.slot_enumerate_next hT F.entry_enumerate_next ?_ (F.args_enumerate_next_1 _))))
  show wpAny _ _ (field (.ref e) 2 >>= _) _ _ _
  refine wpAny_bind (wpAny_field he rfl (x := .ref it) rfl ?_)
  refine wpAny_bind (nextOf_tup_end hh hit hl hx fun h' x he' hx' => ?_)
  obtain ⟨o, ho, hc⟩ := hx'
  refine wpAny_bind (wpAny_isInstance (T := "StopIteration") (b := true) ⟨o, ho, hc⟩ isSubtype_stop ?_)
  exact wpAny_pure (hQ _ he')
end
noncomputable def IteT (K : PySem.W.Frag) (a : Addr) : It :=
  ⟨fun i H => ∃ xs x, SqT K H a xs /\ xs[i]? = some x,
   fun i H v H' => ∃ p, v = .ref p /\ H p = none /\ ∃ x, (∀ xs, SqT K H a xs -> xs[i]? = some x) /\ H' = upd H p (.tup [.int i, x]),
   fun i H => ∃ xs, SqT K H a xs /\ xs.length <= i⟩
noncomputable def EAtT (h : Heap) (e it a : Addr) (k : Nat) : Prop := (∃ old, IsEnum h e it k old) /\ h.IsTupleIter it a k
theorem turn_enumT {P : Program} {w : World} {K : PySem.W.Frag} {elts : List Expr} {kk : Nat} {tp : Pos} {e it a : Addr} (ne : e ≠ it) :
    Turn P w K (.Tuple elts kk tp) (IteT K a) [e, it] e (fun i h => EAtT h e it a i) where
  mem := by simp
  obj := fun i h st c hc => by
    obtain ⟨⟨old, q1⟩, ⟨o4, q4, _, d4⟩⟩ := st
    simp only [List.mem_cons, List.not_mem_nil, or_false] at hc
    rcases hc with rfl | rfl
    · exact ⟨_, q1, fun v z => by cases z⟩
    · exact ⟨_, q4, fun v z => by rw [d4] at z; cases z⟩
  keep := fun i h h' st k => by
    obtain ⟨⟨old, q1⟩, ⟨o4, q4, r4⟩⟩ := st
    exact ⟨⟨old, k e (by simp) _ q1⟩, ⟨o4, k it (by simp) _ q4, r4⟩⟩
  item := by
    intro X hP hw hK hc i pins s σ H E I hf st hg
    subst hP hw hK
    obtain ⟨xs, x, hq, hx⟩ := hg
    obtain ⟨its, rv, p, hz⟩ := I.tuple hq
    obtain ⟨u, hu, ru⟩ := rv.get hx
    obtain ⟨⟨old, q1⟩, hit⟩ := id st
    have helt : e < s.heap.objs.size := Heap.lt_size q1
    have hilt : it < s.heap.objs.size := by obtain ⟨o, q, _⟩ := hit; exact Heap.lt_size q
    have nta : a ≠ it := fun z => by
      obtain ⟨o1, g1, g2, _⟩ := hit
      obtain ⟨o2, g3, g4, _⟩ := p
      rw [z, g1] at g3
      cases g3
      rw [g2] at g4
      injection g4 with g5
      exact absurd g5 (by decide)
    have nea : e ≠ a := fun z => by
      obtain ⟨o2, g3, g4, _⟩ := p
      rw [<- z, q1] at g3
      cases g3
      have g4' : Value.type "enumerate" = Value.type "tuple" := g4
      injection g4' with g5
      exact absurd g5 (by decide)
    refine wpAny_pyNext_enum_itemD (Draws.tuple (A := X.A.in1) (I.ok.hd hc) it a nta its.toArray) q1 ⟨hit, p⟩ (by have := (List.getElem?_eq_some_iff.mp hu).1; simpa using this) ne (by simp only [List.mem_cons, List.not_mem_nil, or_false, not_or]; exact ⟨ne, nea⟩) fun u' h' tk' hP Z' J'' T' n' keep => ⟨_, rfl, ?_⟩
    obtain rfl : u = u' := by rw [show its.toArray[i]? = some u by simpa using hu] at hP; injection hP
    have J' := J''.1
    refine wpAny_letOwnedTupleGo_enum Z' fun h'' z'' sb => ?_
    have hT : h''.get? s.heap.objs.size = some { cls := .type "tuple", data := .seq #[.int i tk', u] } := sb.extBut _ _ (Nat.ne_of_gt helt) T'
    have k2 : ∀ c o, c ∉ [e, it] -> s.heap.get? c = some o -> h''.get? c = some o := fun c o hc q => by
      simp only [List.mem_cons, List.not_mem_nil, or_false, not_or] at hc
      exact sb.extBut _ _ hc.1 (keep c o hc.1 hc.2 q)
    have fresh : H s.heap.objs.size = none := I.hok.fresh (Nat.le_refl _)
    have none' : ∀ c ∈ [e, it], H c = none := fun c hc => (hf c hc).1
    have tne : ∀ c o, H c = some o -> c ≠ s.heap.objs.size := fun c o q => ne_of_none q fresh
    have new : ObjOk X.prog X.w (upd H s.heap.objs.size (.tup [.int i, x])) h'' s.heap.objs.size (.tup [.int i, x]) :=
      ⟨tupD_at (by show 2 <= sizeLine; decide) hT rfl, [.int i tk', u], .cons ⟨_, rfl⟩ (.cons ru .nil), ⟨_, hT, rfl, 0, rfl⟩⟩
    have ok : HOk X.prog X.w (upd H s.heap.objs.size (.tup [.int i, x])) h'' := fun c o q => by
      by_cases hc : c = s.heap.objs.size
      · subst hc
        rw [upd_same] at q
        cases q
        exact new
      · rw [upd_ne hc] at q
        refine (I.hok c o q).stay (fun d v hd e => k2 d v (fun m => ?_) e) (fun d e => ?_) fun d zs e => ?_
        · rcases hd with rfl | hd
          · rw [none' _ m] at q; cases q
          · rw [none' _ m] at hd; cases hd
        · rw [upd_ne (tne _ _ e)]; exact e
        · rw [upd_ne (tne _ _ e)]; exact e
    have hL : ∀ c ∈ [e, it], c ≠ X.env.locals := fun c hc => (hf c hc).2.1
    have I' : Inv X pins σ (upd H s.heap.objs.size (.tup [.int i, x])) { s with heap := h'', toks := tk' + 1 } := by
      refine I.step (g' := s.gens) (t' := tk' + 1) (d' := s.drawn) (ch := [e, it]) (fun c hc => ⟨(hf c hc).2.2.2.1, (hf c hc).2.1, (hf c hc).2.2.2.2.1, (hf c hc).2.2.2.2.2⟩)
        (fun c o _ _ hc q _ => k2 c o hc q) (fun c o _ _ hc q _ => ⟨o.slots, k2 c o hc q⟩) (fun c o hc q n => ?_) (fun c o hc q => ⟨o, k2 c o hc q⟩) (fun c zs q => ?_) (fun c o v q => ?_) (fun c ps q => ⟨#[], ?_⟩) (fun m' hm' => ?_) ok I.bare
      · rw [upd_ne (Nat.ne_of_lt (Heap.lt_size q))]; exact n
      · rw [upd_ne (tne _ _ q)]; exact q
      · rw [upd_ne (tne _ _ q)]; exact q
      · rw [upd_ne (tne _ _ q)]; simpa using q
      · obtain ⟨o, es, ep, e, rr⟩ := hm'
        exact ⟨o, es, ep, k2 _ _ (fun hc => hL _ hc rfl) e, rr⟩
    refine ⟨.ref s.heap.objs.size, _, I', rfl, ⟨_, rfl, fresh, x, fun zs hz => by rw [I.tuple_inj hz hq]; exact hx, rfl⟩, ?_, fun c hc => ?_⟩
    · have z3 : IsEnum h'' e it ((i + 1 : Nat) : Int) u := by rw [Int.natCast_add]; exact z''
      exact ⟨⟨_, z3⟩, J'.extBut sb.extBut ne.symm⟩
    · have hlt : c < s.heap.objs.size := by
        simp only [List.mem_cons, List.not_mem_nil, or_false] at hc
        rcases hc with rfl | rfl
        · exact helt
        · exact hilt
      rw [upd_ne (Nat.ne_of_lt hlt)]
      exact (hf c hc).1
  done := by
    intro X hP hw hK hc i pins s σ H E I hf st hg
    subst hP hw hK
    obtain ⟨xs, hq, hx⟩ := hg
    obtain ⟨its, rv, p, hz⟩ := I.tuple hq
    obtain ⟨⟨old, q1⟩, hit⟩ := st
    have hl := rv.length
    obtain ⟨f0, f1, f2, f3, f4, f5⟩ := hf it (by simp)
    have nta : a ≠ it := fun z => by
      obtain ⟨o1, g1, g2, _⟩ := hit
      obtain ⟨o2, g3, g4, _⟩ := p
      rw [z, g1] at g3
      cases g3
      rw [g2] at g4
      injection g4 with g5
      exact absurd g5 (by decide)
    exact enum_tup_end (I.ok.hd hc) q1 hit p (by simp; lia) fun h' eb => ⟨rfl, I.turned (t' := s.toks) (fun b o hb e => eb b o hb e) f0 f1 f3 f4 f5⟩
  self := fun _ _ _ _ _ st h => by
    obtain ⟨⟨old, q1⟩, _⟩ := st
    exact wpAny_pyIter_enum q1 h
section
variable {X : Cx}
noncomputable def iEnumT (K : PySem.W.Frag) (ta : TA) : TI := fun σ H R => ta σ H fun vs H1 => ∃ a xs, vs = [.ref a] /\ SqT K H1 a xs /\ R (IteT K a) H1
theorem pi_enumT {a : Expr} {ta : TA} {elts : List Expr} {kk : Nat} {tp p pos : Pos} (hg : Gl X "enumerate") (hm : X.mg "enumerate" = none) (ha : PA X [a] ta) (hs : starEach [a] X.env = [(false, eval a X.env)] := by rfl) :
    PI X (.Tuple elts kk tp) (.Call (.Name "enumerate" p) [a] [] pos) (iEnumT X.K ta) := by
  intro pins s σ H R I h
  refine Call_ (ld_blt I hg hm boot_enumerate (PyProof.Rows.callWith_type1 (thn (ha pos pins s σ H _ I h) fun us s1 ⟨vs, H1, I1, r1, q1⟩ => ?_) (by rw [hs]; rfl) (by rfl)))
  obtain ⟨x, xs, e, hx, q⟩ := q1
  subst e
  cases r1 with
  | cons r rr =>
    cases rr
    cases r
    obtain ⟨its, v1, p1, _⟩ := I1.tuple hx
    refine call_enumerate_tuple p1 fun h' Z J n2 keep => wpAny_pyIter_enum Z ?_
    have I2 : Inv X pins σ H1 { s1 with heap := h' } := I1.kept (t' := s1.toks) keep
    refine ⟨_, [s1.heap.objs.size + 1, s1.heap.objs.size], _, _, H1, rfl, I2, turn_enumT (by show (_ : Nat) ≠ _; lia), ⟨⟨_, Z⟩, J⟩, fun c hc => ?_, q⟩
    have hc' : s1.heap.objs.size <= c := by
      simp only [List.mem_cons, List.not_mem_nil, or_false] at hc
      rcases hc with rfl | rfl
      · exact Nat.le_add_right _ _
      · exact Nat.le_refl _
    exact I1.fpOk hc' (I1.hok.fresh hc')
theorem wi_enumT {a : Expr} {ta : TA} {elts : List Expr} {kk : Nat} {tp p pos : Pos} (hg : Gl X "enumerate") (hm : X.mg "enumerate" = none) (ha : Hd (PA X [a] ta)) (hs : notStar a = true := by rfl) :
    Hd (PI X (.Tuple elts kk tp) (.Call (.Name "enumerate" p) [a] [] pos) (iEnumT X.K ta)) := ⟨pi_enumT hg hm ha.out (by rw [star_cons hs]; rfl)⟩
end
end L2
end
section
namespace L2
open PySem PySem.Spec PyProof.Rows PySem.W
section
variable {X : Cx}
end
end L2
end
section
namespace L2
open PySem PySem.Spec PyProof.Rows PySem.W
section
variable {prog : Program} {w : World} {A : Around} {E : Value -> Shared -> Prop} {s : Shared}
end
section
variable {X : Cx}
end
end L2
end
section
namespace L2
open PySem PySem.Spec PyProof.Rows PySem.W
section
variable {X : Cx} {e o : Expr} {te to : TE}
end
end L2
end
section
namespace Kn
open PySem
noncomputable def isNum (c : Nat) : Bool := c == 45 || (decide (48 <= c) && decide (c <= 57))
noncomputable def isLet (c : Nat) : Bool := decide (97 <= c) && decide (c <= 122)
noncomputable def stop (r : List Nat) : Prop := ∀ c t, r = c :: t -> isNum c = false /\ isLet c = false
end Kn
end
section
namespace Kn
open PySem L2
end Kn
end
section
namespace Kn
open PySem L2
end Kn
end
section
namespace Kn
open PySem L2
end Kn
end
section
namespace Kn
open PySem L2
end Kn
end
section
namespace Kn
open PySem L2
end Kn
end
section
namespace Kn
open PySem L2
inductive At where
  | int (i : Int)
  | txt (s : Str)
inductive Tr where
  | row (ps : List (Str × Tr))
  | node (w : Str) (as : List At) (ps : List Tr)
noncomputable def atD : At -> Dt
  | .int i => .int i
  | .txt s => .str s
mutual
noncomputable def tdat : Tr -> Dt
  | .row ps => .tup [.str "row", .tup (tdatR ps)]
  | .node w as ps => .tup (.str w :: (as.map atD ++ tdatL ps))
noncomputable def tdatR : List (Str × Tr) -> List Dt
  | [] => []
  | p :: ps => .tup [.str p.1, tdat p.2] :: tdatR ps
noncomputable def tdatL : List Tr -> List Dt
  | [] => []
  | p :: ps => tdat p :: tdatL ps
end
mutual
noncomputable def tsz : Tr -> Nat
  | .row ps => 1 + tszR ps
  | .node _ as ps => 1 + as.length + tszL ps
noncomputable def tszR : List (Str × Tr) -> Nat
  | [] => 0
  | p :: ps => 1 + tsz p.2 + tszR ps
noncomputable def tszL : List Tr -> Nat
  | [] => 0
  | p :: ps => tsz p + tszL ps
end
theorem tdatR_map (ps : List (Str × Tr)) : tdatR ps = ps.map fun p => .tup [.str p.1, tdat p.2] := by
  induction ps with
  | nil => rw [tdatR]; rfl
  | cons p ps ih => rw [tdatR, ih]; rfl
theorem tdatL_map (ps : List Tr) : tdatL ps = ps.map tdat := by
  induction ps with
  | nil => rw [tdatL]; rfl
  | cons p ps ih => rw [tdatL, ih]; rfl
inductive KG : Nat -> Tr -> Prop where
  | num {d : Nat} : KG d (.node (Str.ofString "num") [] [])
  | word {d : Nat} : KG d (.node (Str.ofString "word") [] [])
  | bag {d : Nat} {k : Tr} (h : KG d k) : KG (d + 1) (.node (Str.ofString "bag") [] [k])
  | row {d : Nat} {ps : List (Str × Tr)} (hl : ps.length <= 14) (hn : ∀ p ∈ ps, p.1.length <= 10) (h : ∀ p ∈ ps, KG d p.2) : KG (d + 1) (.row ps)
theorem KG.up {d : Nat} {t : Tr} (h : KG d t) : KG (d + 1) t := by
  induction h with
  | num => exact .num
  | word => exact .word
  | bag _ ih => exact .bag ih
  | row hl hn _ ih => exact .row hl hn ih
theorem KG.mono {d e : Nat} {t : Tr} (l : d <= e) (h : KG d t) : KG e t := by
  induction l with
  | refl => exact h
  | step _ ih => exact ih.up
theorem one_mem {α : Type} {P : α -> Prop} {x : α} (h : P x) : ∀ y ∈ [x], P y := fun y hy => by rw [List.mem_singleton.mp hy]; exact h
theorem two_mem {α : Type} {P : α -> Prop} {x y : α} (h : P x) (g : P y) : ∀ z ∈ [x, y], P z := fun z hz => by
  rcases List.mem_cons.mp hz with rfl | hz
  · exact h
  · rw [List.mem_singleton.mp hz]; exact g
inductive QG : Nat -> Bool -> Tr -> Prop where
  | num {d : Nat} {i : Int} (h : i.natAbs < 10 ^ 34) : QG d false (.node (Str.ofString "num") [.int i] [])
  | leaf {d : Nat} {w s : Str} (hw : w = Str.ofString "word" \/ w = Str.ofString "var" \/ w = Str.ofString "table") (h : s.length <= 10) : QG d false (.node w [.txt s] [])
  | none {d : Nat} {k : Tr} (h : KG 2 k) : QG d false (.node (Str.ofString "none") [] [k])
  | row0 {d : Nat} : QG d false (.row [])
  | row {d : Nat} {ps : List (Str × Tr)} (hl : ps.length <= 14) (hn : ∀ p ∈ ps, p.1.length <= 10) (h : ∀ p ∈ ps, QG d false p.2) : QG (d + 1) false (.row ps)
  | at {d : Nat} {s : Str} {q : Tr} (h : s.length <= 10) (hq : QG d false q) : QG (d + 1) false (.node (Str.ofString "at") [.txt s] [q])
  | times {d : Nat} {i : Int} {q : Tr} (h : i.natAbs < 10 ^ 34) (hq : QG d false q) : QG (d + 1) false (.node (Str.ofString "times") [.int i] [q])
  | one {d : Nat} {q : Tr} (hq : QG d false q) : QG (d + 1) false (.node (Str.ofString "one") [] [q])
  | when {d : Nat} {c q : Tr} (hc : QG d true c) (hq : QG d false q) : QG (d + 1) false (.node (Str.ofString "when") [] [c, q])
  | bind {d : Nat} {w s : Str} {q r : Tr} (hw : w = Str.ofString "for" \/ w = Str.ofString "let") (h : s.length <= 10) (hq : QG d false q) (hr : QG d false r) : QG (d + 1) false (.node w [.txt s] [q, r])
  | two {d : Nat} {w : Str} {q r : Tr} (hw : w = Str.ofString "add" \/ w = Str.ofString "mul" \/ w = Str.ofString "both") (hq : QG d false q) (hr : QG d false r) : QG (d + 1) false (.node w [] [q, r])
  | cmp {d : Nat} {w : Str} {q r : Tr} (hw : w = Str.ofString "same" \/ w = Str.ofString "under") (hq : QG d false q) (hr : QG d false r) : QG (d + 1) true (.node w [] [q, r])
  | logic {d : Nat} {w : Str} {q r : Tr} (hw : w = Str.ofString "and" \/ w = Str.ofString "or") (hq : QG d true q) (hr : QG d true r) : QG (d + 1) true (.node w [] [q, r])
  | not {d : Nat} {c : Tr} (hc : QG d true c) : QG (d + 1) true (.node (Str.ofString "not") [] [c])
theorem QG.up {d : Nat} {b : Bool} {t : Tr} (h : QG d b t) : QG (d + 1) b t := by
  induction h with
  | num h => exact .num h
  | leaf hw h => exact .leaf hw h
  | none h => exact .none h
  | row0 => exact .row0
  | row hl hn _ ih => exact .row hl hn ih
  | «at» h _ ih => exact .at h ih
  | times h _ ih => exact .times h ih
  | one _ ih => exact .one ih
  | when _ _ i1 i2 => exact .when i1 i2
  | bind hw h _ _ i1 i2 => exact .bind hw h i1 i2
  | two hw _ _ i1 i2 => exact .two hw i1 i2
  | cmp hw _ _ i1 i2 => exact .cmp hw i1 i2
  | logic hw _ _ i1 i2 => exact .logic hw i1 i2
  | not _ ih => exact .not ih
theorem QG.mono {d e : Nat} {b : Bool} {t : Tr} (l : d <= e) (h : QG d b t) : QG e b t := by
  induction l with
  | refl => exact h
  | step _ ih => exact ih.up
end Kn
end
section
namespace Kn
open PySem L2
noncomputable def HM : List Str := [Str.ofString "num", Str.ofString "word", Str.ofString "var", Str.ofString "table", Str.ofString "none", Str.ofString "at", Str.ofString "times", Str.ofString "for", Str.ofString "let"]
inductive TH : Nat -> Tr -> Prop where
  | num {d : Nat} {i : Int} : TH d (.node (Str.ofString "num") [.int i] [])
  | atom {d : Nat} {w s : Str} (hw : w ∈ [Str.ofString "word", Str.ofString "var", Str.ofString "table"]) : TH d (.node w [.txt s] [])
  | none {d : Nat} {k : Tr} (h : KG 2 k) : TH d (.node (Str.ofString "none") [] [k])
  | row {d : Nat} {ps : List (Str × Tr)} (hl : ps.length <= 14) (h : ∀ p ∈ ps, TH d p.2) : TH (d + 1) (.row ps)
  | times {d : Nat} {i : Int} {q : Tr} (h : TH d q) : TH (d + 1) (.node (Str.ofString "times") [.int i] [q])
  | at {d : Nat} {s : Str} {q : Tr} (h : TH d q) : TH (d + 1) (.node (Str.ofString "at") [.txt s] [q])
  | bind {d : Nat} {w s : Str} {q r : Tr} (hw : w = Str.ofString "for" \/ w = Str.ofString "let") (hq : TH d q) (hr : TH d r) : TH (d + 1) (.node w [.txt s] [q, r])
  | plain {d : Nat} {w : Str} {ps : List Tr} (hw : w ∉ HM) (hr : w ≠ Str.ofString "row") (hl : ps.length <= 2) (h : ∀ q ∈ ps, TH d q) : TH (d + 1) (.node w [] ps)
theorem TH.up {d : Nat} {t : Tr} (h : TH d t) : TH (d + 1) t := by
  induction h with
  | num => exact .num
  | atom hw => exact .atom hw
  | none h => exact .none h
  | row hl _ ih => exact .row hl ih
  | times _ ih => exact .times ih
  | «at» _ ih => exact .at ih
  | bind hw _ _ i1 i2 => exact .bind hw i1 i2
  | plain hw hr hl _ ih => exact .plain hw hr hl ih
theorem TH.mono {d e : Nat} {t : Tr} (l : d <= e) (h : TH d t) : TH e t := by
  induction l with
  | refl => exact h
  | step _ ih => exact ih.up
theorem QG.th {d : Nat} {b : Bool} {t : Tr} (h : QG d b t) : TH (d + 1) t := by
  induction h with
  | num h => exact .num
  | leaf hw h => exact .atom (by rcases hw with rfl | rfl | rfl <;> simp)
  | none h => exact .none h
  | row0 => exact .row (by simp) fun p hp => nomatch hp
  | row hl hn _ ih => exact .row hl ih
  | «at» h _ ih => exact .at ih
  | times h _ ih => exact .times ih
  | one _ ih => exact .plain (by decide +kernel) (by decide +kernel) (by simp) (one_mem ih)
  | when _ _ i1 i2 => exact .plain (by decide +kernel) (by decide +kernel) (by simp) (two_mem i1 i2)
  | bind hw h _ _ i1 i2 => exact .bind hw i1 i2
  | two hw _ _ i1 i2 => rcases hw with rfl | rfl | rfl <;> exact .plain (by decide +kernel) (by decide +kernel) (by simp) (two_mem i1 i2)
  | cmp hw _ _ i1 i2 => rcases hw with rfl | rfl <;> exact .plain (by decide +kernel) (by decide +kernel) (by simp) (two_mem i1 i2)
  | logic hw _ _ i1 i2 => rcases hw with rfl | rfl <;> exact .plain (by decide +kernel) (by decide +kernel) (by simp) (two_mem i1 i2)
  | not _ ih => exact .plain (by decide +kernel) (by decide +kernel) (by simp) (one_mem ih)
noncomputable def kids : Tr -> List Tr
  | .row ps => ps.map (·.2)
  | .node w _ ps => if w = Str.ofString "none" then [] else ps
theorem kids_node (w : Str) (as : List At) (ps : List Tr) : kids (.node w as ps) = if w = Str.ofString "none" then [] else ps := rfl
theorem kids_ne {w : Str} (as : List At) (ps : List Tr) (h : w ≠ Str.ofString "none") : kids (.node w as ps) = ps := if_neg h
theorem TH.sub {d : Nat} {t : Tr} (h : TH d t) : ∀ q ∈ kids t, ∃ e, e < d /\ TH e q := by
  cases h with
  | num => intro q hq; rw [kids_node] at hq; split at hq <;> cases hq
  | atom hw => intro q hq; rw [kids_node] at hq; split at hq <;> cases hq
  | none => intro q hq; rw [kids_node, if_pos rfl] at hq; cases hq
  | row hl h =>
    intro q hq
    obtain ⟨p, hp, rfl⟩ := List.mem_map.mp hq
    exact ⟨_, Nat.lt_succ_self _, h p hp⟩
  | times h => intro q hq; rw [kids_ne _ _ (by decide +kernel)] at hq; rw [List.mem_singleton.mp hq]; exact ⟨_, Nat.lt_succ_self _, h⟩
  | «at» h => intro q hq; rw [kids_ne _ _ (by decide +kernel)] at hq; rw [List.mem_singleton.mp hq]; exact ⟨_, Nat.lt_succ_self _, h⟩
  | bind hw h1 h2 =>
    intro q hq
    rw [kids_ne _ _ (by rcases hw with rfl | rfl <;> decide +kernel)] at hq
    exact ⟨_, Nat.lt_succ_self _, two_mem (P := TH _) h1 h2 q hq⟩
  | plain hw hr hl h =>
    intro q hq; rw [kids_node] at hq
    split at hq
    · cases hq
    · exact ⟨_, Nat.lt_succ_self _, h q hq⟩
theorem TH.len {d : Nat} {t : Tr} (h : TH d t) : (kids t).length <= 14 := by
  cases h with
  | num => rw [kids_node]; split <;> simp
  | atom hw => rw [kids_node]; split <;> simp
  | none => rw [kids_node, if_pos rfl]; simp
  | row hl h => show (List.map _ _).length <= 14; rw [List.length_map]; exact hl
  | times h => rw [kids_node]; split <;> simp
  | «at» h => rw [kids_node]; split <;> simp
  | bind hw h1 h2 => rw [kids_node]; split <;> simp
  | plain hw hr hl h => rw [kids_node]; split <;> (try simp only [List.length_nil]) <;> lia
mutual
noncomputable def nq : Tr -> Nat
  | .row ps => 1 + nqR ps
  | .node w _ ps => 1 + if w = Str.ofString "none" then 0 else nqL ps
noncomputable def nqR : List (Str × Tr) -> Nat
  | [] => 0
  | p :: ps => nq p.2 + nqR ps
noncomputable def nqL : List Tr -> Nat
  | [] => 0
  | p :: ps => nq p + nqL ps
end
theorem nqR_map (ps : List (Str × Tr)) : nqR ps = (ps.map fun p => nq p.2).sum := by
  induction ps with
  | nil => rw [nqR]; rfl
  | cons p ps ih => rw [nqR, ih]; rfl
theorem nqL_map (ps : List Tr) : nqL ps = (ps.map nq).sum := by
  induction ps with
  | nil => rw [nqL]; rfl
  | cons p ps ih => rw [nqL, ih]; rfl
theorem nq_row {ps : List (Str × Tr)} : nq (.row ps) = 1 + nqR ps := by rw [nq]
theorem nqR_snoc {ps : List (Str × Tr)} {q : Str × Tr} : nqR (ps ++ [q]) = nqR ps + nq q.2 := by rw [nqR_map, nqR_map, List.map_append, List.sum_append]; simp
theorem nq_le (w : Str) (as : List At) (ps : List Tr) : nq (.node w as ps) <= 1 + (ps.map nq).sum := by
  rw [nq, nqL_map]; split <;> lia
theorem nq_kids (t : Tr) : nq t = 1 + ((kids t).map nq).sum := by
  cases t with
  | row ps => rw [nq, nqR_map]; show _ = 1 + ((ps.map (·.2)).map nq).sum; rw [List.map_map]; rfl
  | node w as ps => rw [nq, nqL_map, kids_node]; split <;> simp
theorem nq_pos (t : Tr) : 1 <= nq t := by rw [nq_kids]; lia
theorem len_nq (l : List Tr) : l.length <= (l.map nq).sum := by
  induction l with
  | nil => simp
  | cons t l ih => rw [List.map_cons, List.sum_cons, List.length_cons]; have := nq_pos t; lia
noncomputable def bnd : Tr -> Nat -> List Str
  | .node w [.txt s] _, 1 => if w = Str.ofString "for" \/ w = Str.ofString "let" then [s] else []
  | _, _ => []
inductive Fv (x : Str) : List Str -> Tr -> Prop
  | here {b : List Str} (h : x ∉ b) : Fv x b (.node (Str.ofString "var") [.txt x] [])
  | kid {b : List Str} {t k : Tr} {i : Nat} (e : (kids t)[i]? = some k) (h : Fv x (b ++ bnd t i) k) : Fv x b t
inductive Tb (x : Str) : Tr -> Prop
  | here : Tb x (.node (Str.ofString "table") [.txt x] [])
  | kid {t k : Tr} {i : Nat} (e : (kids t)[i]? = some k) (h : Tb x k) : Tb x t
theorem Fv.iff {x : Str} {b : List Str} {t : Tr} : Fv x b t ↔ ((t = .node (Str.ofString "var") [.txt x] [] /\ x ∉ b) \/ ∃ (i : Nat) (k : Tr), (kids t)[i]? = some k /\ Fv x (b ++ bnd t i) k) := by
  constructor
  · intro h
    cases h with
    | here h => exact .inl ⟨rfl, h⟩
    | kid e h => exact .inr ⟨_, _, e, h⟩
  · rintro (⟨rfl, h⟩ | ⟨i, k, e, h⟩)
    · exact .here h
    · exact .kid e h
theorem Tb.iff {x : Str} {t : Tr} : Tb x t ↔ (t = .node (Str.ofString "table") [.txt x] [] \/ ∃ (i : Nat) (k : Tr), (kids t)[i]? = some k /\ Tb x k) := by
  constructor
  · intro h
    cases h with
    | here => exact .inl rfl
    | kid e h => exact .inr ⟨_, _, e, h⟩
  · rintro (rfl | ⟨i, k, e, h⟩)
    · exact .here
    · exact .kid e h
theorem kids_var (x : Str) : kids (.node (Str.ofString "var") [.txt x] []) = [] := kids_ne _ _ (by decide +kernel)
theorem kids_table (x : Str) : kids (.node (Str.ofString "table") [.txt x] []) = [] := kids_ne _ _ (by decide +kernel)
end Kn
end
section
namespace K14
open PySem L2
noncomputable def top (i : Nat) : Stmt := PySem.Challenge.pw_keptnest_k14_under_free_tables.main.body.getD i (.Pass ⟨0, 0, 0, 0⟩)
structure Tx (mg : Str -> Option Value) : Prop where
  z_len : mg "len" = none
  z_int : mg "int" = none
  z_tuple : mg "tuple" = none
  z_range : mg "range" = none
  z_isinstance : mg "isinstance" = none
  z_sorted : mg "sorted" = none
  z_set : mg "set" = none
  z_str : mg "str" = none
  z_list : mg "list" = none
  z_max : mg "max" = none
  z_bool : mg "bool" = none
  z_all : mg "all" = none
  z_zip : mg "zip" = none
  z_enumerate : mg "enumerate" = none
section
variable {P : Program} {w : World} {K : PySem.W.Frag} {mg : Str -> Option Value} {base : Heap} {f : Addr} {fd : FuncData}
theorem u110 {k : Nat} {A : Around} (hr : Room k A) : A.units + 110 < cLine := by have := hr.un; lia
theorem u0 {k : Nat} {A : Around} (hr : Room k A) : A.units < cLine := by have := hr.un; lia
theorem same_new {H : Hp} {p : Addr} (h : H p = none) (o : HO) : Same H (upd H p o) := fun b u q => by rw [upd_ne (ne_of_none q h)]; exact q
theorem line1 {n : Nat} (h : n <= 15000000) : n < sizeLine := Nat.lt_of_le_of_lt h (by decide)
theorem iteP {c A B : Prop} [Decidable c] (h : c) (x : A) : if c then A else B := by rw [if_pos h]; exact x
theorem iteN {c A B : Prop} [Decidable c] (h : ¬ c) (x : B) : if c then A else B := by rw [if_neg h]; exact x
theorem cut63 {xs : List V} (h : xs.length <= 63) : cutV xs none (some 63) = xs := by
  have e0 : HT.sIx xs.length 0 none = 0 := rfl
  have e1 : HT.sIx xs.length xs.length (some 63) = xs.length := by
    unfold HT.sIx
    simp only []
    split <;> (try split) <;> lia
  unfold cutV
  rw [e0, e1, List.drop_zero, Nat.sub_zero, List.take_length]
theorem sc__law_hand : FnScope ["script"] ["script"] (defScope (top 8)) := ⟨rfl, rfl, rfl, by decide +kernel, rfl, by decide +kernel, by decide +kernel⟩
noncomputable def spHand (K : PySem.W.Frag) : Sp := fun vs H Q _ => ∃ (a : Addr) (ns : List Int), vs = [.ref a] /\ SqL K H a (ns.map V.int) /\ ns.length <= 63 /\
  ∀ (p c : Addr) (cs : List Int) (H' : Hp), Same H H' -> H p = none -> Hn H' p c cs none -> Q (.ref p) H'
theorem ok_hand (T : Tx mg) (D : Df K mg "_law_hand" (top 8) f fd ["script"]) : FnOk P w K mg base CX0 1 f fd ["script"] (spHand K) := by
  refine D.fn.okH sc__law_hand (fun vs H Q E h => ?_) (fun cdv A outer s H vs Q E hr h => ?_)
  · obtain ⟨a, ns, rfl, _⟩ := h; rfl
  obtain ⟨a, ns, rfl, hS, h63, fin⟩ := h
  have hu := u110 hr
  have hu0 := u0 hr
  have hu1 := hu_of hr
  refine ⟨_, (wss_one (ws_ret (we_disp (wps_cons we_str (we_op op_plus (we_callTy call_list_of rfl T.z_list bt_list (wa_cons (we_slice sl_U (wv 0) wo_none (wo_some we_int)) wa_nil)) (we_op op_mulU (we_lst (wa_cons we_int wa_nil)) (we_callTy call_int1 rfl T.z_int bt_int (wa_cons (we_cmpR (op_eqLK hu0) (wv 0) (we_lst wa_nil) (nomark _)) wa_nil)))) (wps_cons we_str we_int (wps_cons we_str we_int (wps_cons we_str we_int wps_nil)))) rfl rfl (by simp) (by decide)))), ?_⟩
  intro p hp
  have s0 : Same H (upd H p (.dK [])) := same_new hp _
  have hP0 : (upd H p (.dK [])) p = some (.dK []) := upd_same
  generalize upd H p (.dK []) = H0 at s0 hP0 ⊢
  have hl' : (ns.map V.int).length <= 63 := by rw [List.length_map]; exact h63
  refine ⟨_, rfl, _, rfl, .inl ⟨a, _, rfl, s0.seq hS, fun q hq => ⟨q, _, rfl, .inl (SqL.of upd_same), fun l hl => ?_⟩⟩⟩
  rw [cut63 hl'] at hl ⊢
  have s1 : Same H0 (upd H0 q (.lst (ns.map V.int))) := same_new hq _
  have s2 := s1.trans (same_new hl (.lst (ns.map V.int)))
  have hL : (upd (upd H0 q (.lst (ns.map V.int))) l (.lst (ns.map V.int))) l = some (.lst (ns.map V.int)) := upd_same
  generalize upd (upd H0 q (.lst (ns.map V.int))) l (.lst (ns.map V.int)) = H1 at s2 hL ⊢
  refine ⟨(by show 1 <= sizeLine; decide), fun m hm => ?_⟩
  have s3 : Same H1 (upd H1 m (.lst [.int 5])) := same_new hm _
  have hM : (upd H1 m (.lst [.int 5])) m = some (.lst [.int 5]) := upd_same
  generalize upd H1 m (.lst [.int 5]) = H2 at s3 hM ⊢
  refine ⟨_, rfl, (by show 0 <= sizeLine; decide), fun e he => ⟨a, e, _, rfl, rfl, (same_new he _).seq (s3.seq (s2.seq (s0.seq hS))), upd_same, ?_⟩⟩
  have s4 : Same H2 (upd H2 e (.lst [])) := same_new he _
  generalize upd H2 e (.lst []) = H3 at s4 ⊢
  refine .inr ⟨_, rfl, .inr ⟨m, _, _, rfl, rfl, s4 _ _ hM, ?_, ?_, ?_, fun r hr2 => ?_⟩⟩
  · split <;> decide
  · split <;> decide
  · split <;> decide
  obtain ⟨xs, exs, hxs⟩ : ∃ xs : List Int, (List.replicate (Int.toNat (if decide (ns.map V.int = []) = true then 1 else 0)) [V.int 5]).flatten = xs.map V.int /\ 1 <= ns.length + xs.length /\ xs.length <= 1 := by
    by_cases hn : ns = []
    · exact ⟨[5], by rw [hn]; rfl, by simp, by simp⟩
    · have : decide (ns.map V.int = []) = false := decide_eq_false (fun z => hn (by simpa using z))
      refine ⟨[], by rw [this]; rfl, ?_, by simp⟩
      have : ns.length ≠ 0 := fun z => hn (List.length_eq_zero_iff.mp z)
      lia
  rw [exs]
  refine .inr (.inr (.inl ⟨l, r, ns.map V.int, xs.map V.int, rfl, rfl, ?_, upd_same, Nat.le_of_lt (line1 (by simp; lia)), fun c hc => ?_⟩))
  · rw [upd_ne (ne_of_none (s4 _ _ (s3 _ _ hL)) hr2)]; exact s4 _ _ (s3 _ _ hL)
  have s5 : Same H3 (upd (upd H3 r (.lst (xs.map V.int))) c (.lst (ns.map V.int ++ xs.map V.int))) := (same_new hr2 _).trans (same_new hc _)
  have hC : (upd (upd H3 r (.lst (xs.map V.int))) c (.lst (ns.map V.int ++ xs.map V.int))) c = some (.lst (ns.map V.int ++ xs.map V.int)) := upd_same
  generalize upd (upd H3 r (.lst (xs.map V.int))) c (.lst (ns.map V.int ++ xs.map V.int)) = H4 at s5 hC ⊢
  have sA := s2.trans (s3.trans (s4.trans s5))
  have npc : c ≠ p := fun z => by have := sA _ _ hP0; rw [<- z, hC] at this; cases this
  refine ⟨sA _ _ hP0, [(kyC, .ref c), (kyN, .int 0), (kyR, .int 0), (kyT, .int 0)], rfl, by simp, ?_⟩
  refine fin p c (ns ++ xs) _ (fun b o z => ?_) hp ⟨0, 0, 0, _, ⟨upd_same, Nat.le_trans (Nat.le_of_eq (show _ = 4 from rfl)) (by decide), ?_, ?_, ?_, ?_, ?_, ?_, ?_, ?_, by decide⟩, fun _ => Nat.le_trans (Nat.le_of_eq (show _ = 4 from rfl)) (by decide)⟩
  · rw [upd_ne (ne_of_none z hp)]; exact sA _ _ (s0 _ _ z)
  · rfl
  · rfl
  · rfl
  · rfl
  · rfl
  · rw [upd_ne npc, List.map_append]; exact hC
  · rw [List.length_append]; lia
  · rw [List.length_append]; lia
theorem gC {H : Hp} {p c : Addr} {cs : List Int} {n r t : Int} {kn : Option Int} {kvs : List (Key × V)} (h : HdIs H p c cs n r t kn kvs) : DGet H p (.str "cells") (some (.ref c)) := by
  have := DGet.k (k := kyC) h.at_; rw [h.cell] at this; exact this
theorem gN {H : Hp} {p c : Addr} {cs : List Int} {n r t : Int} {kn : Option Int} {kvs : List (Key × V)} (h : HdIs H p c cs n r t kn kvs) : DGet H p (.str "next") (some (.int n)) := by
  have := DGet.k (k := kyN) h.at_; rw [h.nxt] at this; exact this
theorem gR {H : Hp} {p c : Addr} {cs : List Int} {n r t : Int} {kn : Option Int} {kvs : List (Key × V)} (h : HdIs H p c cs n r t kn kvs) : DGet H p (.str "rest") (some (.int r)) := by
  have := DGet.k (k := kyR) h.at_; rw [h.rst] at this; exact this
theorem gT {H : Hp} {p c : Addr} {cs : List Int} {n r t : Int} {kn : Option Int} {kvs : List (Key × V)} (h : HdIs H p c cs n r t kn kvs) : DGet H p (.str "count") (some (.int t)) := by
  have := DGet.k (k := kyT) h.at_; rw [h.cnt] at this; exact this
theorem gK {H : Hp} {p c : Addr} {cs : List Int} {n r t k : Int} {kvs : List (Key × V)} (h : HdIs H p c cs n r t (some k) kvs) : DGet H p (.str "knots") (some (.int k)) := by
  have := DGet.k (k := kyK) h.at_; rw [h.knt] at this; exact this
theorem pl {H : Hp} {p c : Addr} {cs : List Int} {n r t : Int} {kn : Option Int} {kvs : List (Key × V)} (h : HdIs H p c cs n r t kn kvs) : kvs.length < sizeLine := line1 (by have := h.len; lia)
theorem bm (a k : Int) (h : 0 < k) (h2 : k < 2 ^ 64) : -(2 ^ 64) < a % k /\ a % k < 2 ^ 64 := by
  have h1 := Int.emod_nonneg a (by lia : k ≠ 0)
  have h3 := Int.emod_lt_of_pos a h
  lia
theorem atI_mem {α : Type} {xs : List α} {r : Int} (h0 : 0 <= r) (h1 : r < xs.length) : ∃ v, atI xs r = some v /\ v ∈ xs := by
  have hk : r.toNat < xs.length := by lia
  have e : ((r.toNat : Nat) : Int) = r := by lia
  have z : atI xs ((r.toNat : Nat) : Int) = some xs[r.toNat] := atI_nat (List.getElem?_eq_getElem hk)
  rw [e] at z
  exact ⟨_, z, List.getElem_mem hk⟩
theorem sc__law_draw : FnScope ["hand", "limit", "turn", "cell", "mixed", "found"] ["hand", "limit"] (defScope (top 9)) := ⟨rfl, rfl, rfl, by decide +kernel, rfl, by decide +kernel, by decide +kernel⟩
noncomputable def spDraw : Sp := fun vs H Q _ => ∃ (p c : Addr) (cs : List Int) (kn : Option Int) (m : Int), vs = [.ref p, .int m] /\ Hn H p c cs kn /\ 0 < m /\ m < 2 ^ 200 /\
  ∀ (x : Int) (H' : Hp), 0 <= x -> x < m -> Ex p H H' -> Hn H' p c cs kn -> Q (.int x) H'
theorem ok_draw (T : Tx mg) (D : Df K mg "_law_draw" (top 9) f fd ["hand", "limit"]) : FnOk P w K mg base CX0 1 f fd ["hand", "limit"] spDraw := by
  refine D.fn.okH sc__law_draw (fun vs H Q E h => ?_) (fun cdv A outer s H vs Q E hr h => ?_)
  · obtain ⟨p, c, cs, kn, m, rfl, _⟩ := h; rfl
  obtain ⟨p, c, cs, kn, m, rfl, ⟨n, r, t, kvs, h0, hk0⟩, m0, m1, fin⟩ := h
  have hu := u110 hr
  have hu1 := hu_of hr
  refine ⟨_, (wss_cons (ws_asg (we_op op_plus (we_ix (ix_U hu1) (wv 0) we_str (fun _ _ => rfl)) we_int) (wg_sub (wv 0) we_str (set_U hu1)))
      (wss_cons (ws_if (wt_cmpR (op_eqU hu) (we_ix (ix_U hu1) (wv 0) we_str (fun _ _ => rfl)) we_int (nomark _)) (wss_cons (ws_set (i := 2) sc__law_draw.nd rfl (Or.inl rfl) (we_op op_fdivB (we_ix (ix_U hu1) (wv 0) we_str (fun _ _ => rfl)) (we_callB call_lenU rfl T.z_len bt_len (wa_cons (we_ix (ix_U hu1) (wv 0) we_str (fun _ _ => rfl)) wa_nil))))
      (wss_cons (ws_set (i := 3) sc__law_draw.nd rfl (Or.inl rfl) (we_ix (ix_U hu1) (we_ix (ix_U hu1) (wv 0) we_str (fun _ _ => rfl)) (we_op op_mod (we_ix (ix_U hu1) (wv 0) we_str (fun _ _ => rfl)) (we_callB call_lenU rfl T.z_len bt_len (wa_cons (we_ix (ix_U hu1) (wv 0) we_str (fun _ _ => rfl)) wa_nil))) (fun _ _ => rfl)))
      (wss_cons (ws_asg (we_op op_plus (we_ix (ix_U hu1) (wv 0) we_str (fun _ _ => rfl)) we_int) (wg_sub (wv 0) we_str (set_U hu1)))
      (wss_one (ws_if (wt_pw (ww_and (wt_cmpR (op_eqU hu) (wv 2) we_int (nomark _)) (ww_and1 (wt_cmpR op_ge (wv 3) (we_op op_pow we_int we_int) (nomark _))))) (wss_one (ws_asg (wv 3) (wg_sub (wv 0) we_str (set_U hu1)))) (wss_cons (ws_set (i := 4) sc__law_draw.nd rfl (Or.inl rfl) (we_op op_mod (we_op op_plus (we_op op_plus (we_op op_mod (wv 3) we_int) (we_op op_mul we_int (we_ix (ix_U hu1) (wv 0) we_str (fun _ _ => rfl)))) (we_op op_mul we_int (wv 2))) we_int))
      (wss_cons (ws_set (i := 4) sc__law_draw.nd rfl (Or.inl rfl) (we_op op_mod (we_op op_mul (wv 4) (wv 4)) we_int))
      (wss_one (ws_ret (we_op op_mod (we_op op_fdivB (we_op op_mod (we_op op_mul (wv 4) (we_op op_plus (wv 4) we_int)) we_int) we_int) (wv 1))))))))))) wss_nil)
      (wss_cons (ws_set (i := 5) sc__law_draw.nd rfl (Or.inl rfl) (we_op op_mod (we_ix (ix_U hu1) (wv 0) we_str (fun _ _ => rfl)) (wv 1)))
      (wss_cons (ws_asg (we_op op_fdivB (we_ix (ix_U hu1) (wv 0) we_str (fun _ _ => rfl)) (wv 1)) (wg_sub (wv 0) we_str (set_U hu1)))
      (wss_one (ws_ret (wv 5))))))), ?_⟩
  have c1 := h0.c1
  have c64 := h0.c64
  refine ⟨_, rfl, .inr (.inr (.inr ⟨p, _, rfl, gT h0, .inl ⟨_, _, rfl, rfl, _, rfl, .inr ⟨p, _, rfl, DPut.k (k := kyT) h0.at_ (pl h0), ?_⟩⟩⟩))⟩
  have h1 := h0.putT (t + 1)
  have ex1 : Ex p H (upd H p (.dK (putK kvs kyT (.int (t + 1))))) := ex_upd
  have hk1 : kn = none -> (putK kvs kyT (.int (t + 1))).length <= 10 := fun z => by rw [put_len (by rw [h0.cnt]; rfl)]; exact hk0 z
  refine ⟨_, rfl, .inr (.inr (.inr ⟨p, _, rfl, gR h1, .inl ⟨rfl, _, rfl, ?_⟩⟩))⟩
  refine ite2 (fun e1 => ?a) (fun e1 => ?b)
  case' b =>
    have hd := h1
    have ex := ex1
    have hk := hk1
  case' a =>
    have cl : 0 < (cs.map V.int).length := by rw [List.length_map]; lia
    have cl2 : (cs.map V.int).length <= 64 := by rw [List.length_map]; lia
    refine ⟨_, rfl, .inr (.inr (.inr ⟨p, _, rfl, gN h1, _, rfl, .inr (.inr (.inr ⟨p, _, rfl, gC h1, .inl ⟨c, _, rfl, .inl (SqL.of h1.lst), _, _, rfl, rfl, ⟨by lia, by lia⟩, ?_⟩⟩))⟩))⟩
    have hn0 := h1.n0
    obtain ⟨v, hv, hvm⟩ := atI_mem (xs := cs.map V.int) (r := n % ((cs.map V.int).length : Int)) (Int.emod_nonneg _ (by lia)) (Int.emod_lt_of_pos _ (by lia))
    obtain ⟨cell, _, rfl⟩ := List.mem_map.mp hvm
    refine ⟨_, rfl, .inr (.inr (.inr ⟨p, _, rfl, gC h1, _, rfl, .inr (.inr (.inr ⟨p, _, rfl, gN h1, _, rfl, .inr (.inr (.inr ⟨p, _, rfl, gC h1, .inl ⟨c, _, rfl, .inl (SqL.of h1.lst), _, _, rfl, rfl, by lia, .inl ⟨c, _, _, _, rfl, rfl, SqL.of h1.lst, hv, ?_⟩⟩⟩))⟩))⟩))⟩
    refine ⟨_, rfl, .inr (.inr (.inr ⟨p, _, rfl, gN h1, .inl ⟨_, _, rfl, rfl, _, rfl, .inr ⟨p, _, rfl, DPut.k (k := kyN) h1.at_ (pl h1), ?_⟩⟩⟩))⟩
    have h2 := h1.putN (n + 1) (by lia)
    have ex2 := ex1.trans (ex_upd (p := p) (o := .dK (putK (putK kvs kyT (.int (t + 1))) kyN (.int (n + 1)))))
    have hk2 : kn = none -> (putK (putK kvs kyT (.int (t + 1))) kyN (.int (n + 1))).length <= 10 := fun z => by rw [put_len (by rw [h1.nxt]; rfl)]; exact hk1 z
    refine ⟨_, rfl, .inl ⟨rfl, _, rfl, ?_⟩⟩
    refine ite2 (fun e2 => ?c) (fun e2 => ?d)
  case' c =>
    refine ⟨_, rfl, _, _, rfl, rfl, ⟨by decide, by decide, by decide⟩, _, _, rfl, rfl, _, rfl, ?_⟩
    refine ite2 (fun e3 => ?g) (fun e3 => ?e)
  case' g =>
    refine ⟨_, rfl, _, rfl, .inr ⟨p, _, rfl, DPut.k (k := kyR) h2.at_ (pl h2), ?_⟩⟩
    have hd := h2.putR cell
    have ex := ex2.trans (ex_upd (p := p) (o := .dK (putK (putK (putK kvs kyT (.int (t + 1))) kyN (.int (n + 1))) kyR (.int cell))))
    have hk : kn = none -> (putK (putK (putK kvs kyT (.int (t + 1))) kyN (.int (n + 1))) kyR (.int cell)).length <= 10 := fun z => by rw [put_len (by rw [h2.rst]; rfl)]; exact hk2 z
  case b | g =>
    refine ⟨_, rfl, .inr (.inr (.inr ⟨p, _, rfl, gR hd, _, rfl, _, _, rfl, rfl, m0, ?_⟩))⟩
    refine ⟨_, rfl, .inr (.inr (.inr ⟨p, _, rfl, gR hd, _, rfl, _, _, rfl, rfl, ⟨m0, m1⟩, _, rfl, .inr ⟨p, _, rfl, DPut.k (k := kyR) hd.at_ (pl hd), ?_⟩⟩))⟩
    refine ⟨_, rfl, fin _ _ (Int.emod_nonneg _ (by lia)) (Int.emod_lt_of_pos _ m0) (ex.trans ex_upd) ⟨_, _, _, _, hd.putR _, fun z => by rw [put_len (by rw [hd.rst]; rfl)]; exact hk z⟩⟩
  all_goals
    refine ⟨_, rfl, _, _, rfl, rfl, (by show (0 : Int) < 2147483647; decide), _, rfl, .inr (.inr (.inr ⟨p, _, rfl, gT h2, _, _, rfl, rfl, .inl ⟨by decide, by decide⟩, .inl ⟨_, _, rfl, rfl, _, rfl, _, _, rfl, rfl, .inl ⟨by decide, by decide⟩, .inl ⟨_, _, rfl, rfl, _, _, rfl, rfl, (by show (0 : Int) < 2147483647; decide), ?_⟩⟩⟩))⟩
    refine ⟨_, rfl, _, rfl, _, _, rfl, rfl, .inl (bm _ _ (by decide) (by decide)), _, _, rfl, rfl, (by show (0 : Int) < 2147483629; decide), ?_⟩
    refine ⟨_, rfl, _, rfl, .inl ⟨_, _, rfl, rfl, _, _, rfl, rfl, .inl (bm _ _ (by decide) (by decide)), _, _, rfl, rfl, (by show (0 : Int) < 2147483587; decide), _, _, rfl, rfl, ⟨by decide, by decide⟩, _, rfl, _, _, rfl, rfl, m0, ?_⟩⟩
    exact fin _ _ (Int.emod_nonneg _ (by lia)) (Int.emod_lt_of_pos _ m0) ex2 ⟨_, _, _, _, h2, hk2⟩
end
end K14
end
section
namespace K14
open PySem L2 Kn
theorem len_app (a b : Str) : (a ++ b).length = a.length + b.length := by
  show (a.cps ++ b.cps).size = _
  rw [Array.size_append]; rfl
section
variable {P : Program} {w : World} {K : PySem.W.Frag} {mg : Str -> Option Value} {base : Heap} {f f_draw f_name : Addr} {fd fd_draw fd_name : FuncData}
theorem sc__law_name : FnScope ["hand", "letters", "word", "k", "words"] ["hand"] (defScope (top 10)) := ⟨rfl, rfl, rfl, by decide +kernel, rfl, by decide +kernel, by decide +kernel⟩
noncomputable def spName : Sp := fun vs H Q _ => ∃ (p c : Addr) (cs : List Int) (kn : Option Int), vs = [.ref p] /\ Hn H p c cs kn /\
  ∀ (x : Str) (H' : Hp), x.length <= 10 -> Ex p H H' -> Hn H' p c cs kn -> Q (.str x) H'
theorem ok_name (T : Tx mg) (D : Df K mg "_law_name" (top 10) f fd ["hand"]) (D__law_draw : Df K mg "_law_draw" (top 9) f_draw fd_draw ["hand", "limit"]) (G__law_draw : FnOk P w K mg base CX0 1 f_draw fd_draw ["hand", "limit"] spDraw) :
    FnOk P w K mg base CX0 2 f fd ["hand"] spName := by
  refine D.fn.okH sc__law_name (fun vs H Q E h => ?_) (fun cdv A outer s H vs Q E hr h => ?_)
  · obtain ⟨p, c, cs, kn, rfl, _⟩ := h; rfl
  obtain ⟨p, c, cs, kn, rfl, hn, fin⟩ := h
  have hu := u110 hr
  have hu0 := u0 hr
  have hu1 := hu_of hr
  refine ⟨_, (wss_cons (ws_set (i := 1) sc__law_name.nd rfl (Or.inl rfl) (we_ix (ix_U hu1) (we_lst (wa_consts rfl)) (we_call G__law_draw (hr.mono (by lia)) rfl D__law_draw.mg D__law_draw.kp D__law_draw.b .nil pass0 (wa_cons (wv 0) (wa_cons we_int wa_nil))) (fun _ _ => rfl)))
      (wss_cons (ws_set (i := 2) sc__law_name.nd rfl (Or.inl rfl) we_str)
      (wss_cons (ws_for PassesOwn.never rfl (wi_range1 rfl T.z_range (wa_cons (we_ix (ix_U hu1) (we_lst (wa_cons we_int (wa_cons we_int (wa_cons we_int (wa_cons we_int (wa_cons we_int (wa_cons (we_op op_plus we_int (we_call G__law_draw (hr.mono (by lia)) rfl D__law_draw.mg D__law_draw.kp D__law_draw.b .nil pass0 (wa_cons (wv 0) (wa_cons we_int wa_nil)))) wa_nil))))))) (we_call G__law_draw (hr.mono (by lia)) rfl D__law_draw.mg D__law_draw.kp D__law_draw.b .nil pass0 (wa_cons (wv 0) (wa_cons we_int wa_nil))) (fun _ _ => rfl)) wa_nil)) (wg_name (i := 3) sc__law_name.nd rfl (Or.inl rfl)) (wss_one (ws_set (i := 2) sc__law_name.nd rfl (Or.inl rfl) (we_op op_plus (wv 2) (we_ix (ix_U hu1) (wv 1) (we_call G__law_draw (hr.mono (by lia)) rfl D__law_draw.mg D__law_draw.kp D__law_draw.b .nil pass0 (wa_cons (wv 0) (wa_cons (we_callB call_lenU rfl T.z_len bt_len (wa_cons (wv 1) wa_nil)) wa_nil))) (fun _ _ => rfl))))))
      (wss_cons (ws_set (i := 4) sc__law_name.nd rfl (Or.inl rfl) we_str)
      (wss_cons (ws_if (wt_cmpR (op_inU hu) (wv 2) (we_bm PySem.F.plainAttrs_str PySem.F.slot_str_split PySem.F.type_str_split mt_split (wv 4) (wa_cons we_str wa_nil)) (by with_unfolding_all rfl)) (wss_one (ws_set (i := 2) sc__law_name.nd rfl (Or.inl rfl) (we_op op_plus (we_slice sl_U (wv 2) (wo_some we_int) wo_none) we_str))) wss_nil)
      (wss_one (ws_ret (wv 2)))))))), ?_⟩
  refine ⟨(by show 2 <= sizeLine; decide), fun l hl => ⟨_, rfl, p, c, cs, kn, _, rfl, hn.new hl, by decide, by decide, fun x H1 x0 x1 ex1 hn1 => ?_⟩⟩
  have nl := hn.ne hl
  obtain ⟨v, hv, hvm⟩ := atI_mem (xs := [V.str "ab", .str "abcdefghijklmnopqrstuvwxyz"]) x0 x1
  obtain ⟨z, rfl, hz1, hz2⟩ : ∃ z : Str, v = .str z /\ 1 <= z.cps.toList.length /\ z.length <= 26 := by
    simp only [List.mem_cons, List.not_mem_nil, or_false] at hvm
    rcases hvm with rfl | rfl
    · exact ⟨_, rfl, by decide +kernel, by decide +kernel⟩
    · exact ⟨_, rfl, by decide +kernel, by decide +kernel⟩
  have eZ : z.cps.toList.length = z.length := rfl
  refine .inl ⟨l, _, x, _, rfl, rfl, SqL.of (ex1 l _ nl upd_same), hv, ?_⟩
  have exA : Ex p H H1 := (ex_new hl).trans ex1
  refine ⟨_, rfl, p, c, cs, kn, _, rfl, hn1, by decide, by decide, fun y H2 y0 y1 ex2 hn2 => .inl ⟨_, _, rfl, rfl, (by show 6 <= sizeLine; decide), fun l2 hl2 => ?_⟩⟩
  have nl2 := hn2.ne hl2
  refine ⟨_, rfl, p, c, cs, kn, _, rfl, hn2.new hl2, by decide, by decide, fun u H3 u0 u1 ex3 hn3 => ?_⟩
  obtain ⟨v3, hv3, hm3⟩ := atI_mem (xs := [V.int 1, .int 1, .int 2, .int 3, .int 8, .int (1 + y)]) u0 u1
  obtain ⟨j, rfl, hj⟩ : ∃ j : Nat, v3 = .int j /\ j <= 8 := by
    simp only [List.mem_cons, List.not_mem_nil, or_false] at hm3
    rcases hm3 with rfl | rfl | rfl | rfl | rfl | rfl
    · exact ⟨1, rfl, by decide⟩
    · exact ⟨1, rfl, by decide⟩
    · exact ⟨2, rfl, by decide⟩
    · exact ⟨3, rfl, by decide⟩
    · exact ⟨8, rfl, by decide⟩
    · exact ⟨(1 + y).toNat, by congr 1; lia, by lia⟩
  have exB : Ex p H H3 := exA.trans (ex2.trans ((ex_new hl2).trans ex3))
  refine .inl ⟨l2, _, u, _, rfl, rfl, SqL.of (ex3 l2 _ nl2 upd_same), hv3, j, rfl, by lia, by lia, for_range (n := ((j : Int)).toNat) (fun i σ H' => ∃ (wd : Str) (o3 o4 : Option V), σ = [some (.ref p), some (.str z), some (.str wd), o3, o4] /\ wd.length <= i /\ Ex p H H' /\ Hn H' p c cs kn) ⟨Str.ofString "", none, none, rfl, by decide +kernel, exB, hn3⟩ ?turn ?done⟩
  case turn =>
    rintro i σ H' hi ⟨wd, o3, o4, rfl, lw, ex, hn'⟩
    refine ⟨_, rfl, _, rfl, _, rfl, _, rfl, .inr ⟨_, rfl, Nat.le_of_lt (line1 (by lia)), p, c, cs, kn, _, rfl, hn', by lia, Int.lt_of_le_of_lt (show _ <= 26 by lia) (by decide), fun r H5 r0 r1 ex5 hn5 => ?_⟩⟩
    obtain ⟨ch, hc, _⟩ := atI_mem (xs := z.cps.toList) r0 (by lia)
    refine .inr (.inr (.inl ⟨_, r, ch, rfl, rfl, Nat.le_of_lt (line1 (by lia)), hc, ?_⟩))
    refine .inr (.inl ⟨_, _, rfl, rfl, Nat.le_of_lt (line1 (by show _ + 1 <= _; lia)), ?_⟩)
    exact ⟨_, _, _, rfl, by rw [len_app]; show _ + 1 <= _; lia, ex.trans ex5, hn5⟩
  case done =>
    rintro σ H' ⟨wd, o3, o4, rfl, lw, ex, hn'⟩
    have lw8 : wd.length <= 8 := by lia
    refine ⟨_, rfl, _, rfl, rfl, _, _, rfl, rfl, (by decide +kernel), Nat.le_of_lt (line1 (by decide +kernel)), fun q hq => ?_⟩
    have fl : ∀ l : List Str, (l.map V.str).all flatV = true := fun l => by rw [List.all_map]; exact List.all_eq_true.mpr fun _ _ => rfl
    refine .inl ⟨q, _, rfl, .inl (SqL.of upd_same), rfl, fl _, _, rfl, ?_⟩
    have exq := ex.trans (ex_new (p := p) (o := .lst ((Txt.split (Str.ofString "num word row bag var table at add mul none one both times for when let same under and or not") (Str.ofString " ")).map V.str)) hq)
    refine ite2 (fun c2 => ?_) (fun c2 => ?_)
    · have e2 : (Str.ofString "xy").length = 2 := by decide +kernel
      have ls := Txt.slice_le wd (some 1) none
      refine ⟨_, rfl, _, rfl, .inr (.inr (.inr ⟨_, rfl, Nat.le_of_lt (line1 (by lia)), .inr (.inl ⟨_, _, rfl, rfl, Nat.le_of_lt (line1 (by rw [e2]; lia)), ?_⟩)⟩))⟩
      exact ⟨_, rfl, fin _ _ (by rw [len_app, e2]; lia) exq (hn'.new hq)⟩
    · exact ⟨_, rfl, fin _ _ (by lia) exq (hn'.new hq)⟩
theorem sc__law_number : FnScope ["hand"] ["hand"] (defScope (top 11)) := ⟨rfl, rfl, rfl, by decide +kernel, rfl, by decide +kernel, by decide +kernel⟩
noncomputable def spNumber : Sp := fun vs H Q _ => ∃ (p c : Addr) (cs : List Int) (kn : Option Int), vs = [.ref p] /\ Hn H p c cs kn /\
  ∀ (x : Int) (H' : Hp), x.natAbs < 10 ^ 34 -> Ex p H H' -> Hn H' p c cs kn -> Q (.int x) H'
theorem ok_number (T : Tx mg) (D : Df K mg "_law_number" (top 11) f fd ["hand"]) (D__law_draw : Df K mg "_law_draw" (top 9) f_draw fd_draw ["hand", "limit"]) (G__law_draw : FnOk P w K mg base CX0 1 f_draw fd_draw ["hand", "limit"] spDraw) :
    FnOk P w K mg base CX0 2 f fd ["hand"] spNumber := by
  refine D.fn.okH sc__law_number (fun vs H Q E h => ?_) (fun cdv A outer s H vs Q E hr h => ?_)
  · obtain ⟨p, c, cs, kn, rfl, _⟩ := h; rfl
  obtain ⟨p, c, cs, kn, rfl, hn, fin⟩ := h
  have hu := u110 hr
  have hu0 := u0 hr
  have hu1 := hu_of hr
  refine ⟨_, (wss_one (ws_ret (we_ix (ix_U hu1) (we_lst (wa_cons we_int (wa_cons we_int (wa_cons (we_op op_sub (we_call G__law_draw (hr.mono (by lia)) rfl D__law_draw.mg D__law_draw.kp D__law_draw.b .nil pass0 (wa_cons (wv 0) (wa_cons we_int wa_nil))) we_int) (wa_cons (we_op op_plus (we_op op_sub (we_call G__law_draw (hr.mono (by lia)) rfl D__law_draw.mg D__law_draw.kp D__law_draw.b .nil pass0 (wa_cons (wv 0) (wa_cons (we_op op_sub (we_op op_mul we_int (we_op op_pow we_int we_int)) we_int) wa_nil))) (we_op op_pow we_int we_int)) we_int) wa_nil))))) (we_call G__law_draw (hr.mono (by lia)) rfl D__law_draw.mg D__law_draw.kp D__law_draw.b .nil pass0 (wa_cons (wv 0) (wa_cons we_int wa_nil))) (fun _ _ => rfl)))), ?_⟩
  refine ⟨_, rfl, p, c, cs, kn, _, rfl, hn, by decide, by decide, fun x H1 x0 x1 ex1 hn1 => ⟨_, _, rfl, rfl, ?_⟩⟩
  refine ⟨_, rfl, _, _, rfl, rfl, ⟨by decide, by decide, by decide⟩, _, _, rfl, rfl, .inl ⟨by decide, by decide⟩, _, _, rfl, rfl, ?_⟩
  refine ⟨p, c, cs, kn, _, rfl, hn1, by decide, by decide, fun y H2 y0 y1 ex2 hn2 => ?_⟩
  have y1' : y < 1999999999999999999999999999999 := y1
  refine ⟨_, _, rfl, rfl, ⟨by decide, by decide, by decide⟩, _, _, rfl, rfl, .inl ⟨_, _, rfl, rfl, (by show 4 <= sizeLine; decide), fun l hl => ?_⟩⟩
  have nl := hn2.ne hl
  refine ⟨_, rfl, p, c, cs, kn, _, rfl, hn2.new hl, by decide, by decide, fun u H3 u0 u1 ex3 hn3 => ?_⟩
  obtain ⟨v, hv, hm⟩ := atI_mem (xs := [V.int 0, .int 1, .int (x - 50), .int (y - 10 ^ 30 + 1)]) u0 u1
  refine .inl ⟨l, _, u, v, rfl, rfl, SqL.of (ex3 l _ nl upd_same), hv, ?_⟩
  obtain ⟨i, rfl, hi⟩ : ∃ i : Int, v = .int i /\ i.natAbs < 10 ^ 34 := by
    simp only [List.mem_cons, List.not_mem_nil, or_false] at hm
    rcases hm with rfl | rfl | rfl | rfl
    · exact ⟨_, rfl, by decide⟩
    · exact ⟨_, rfl, by decide⟩
    · exact ⟨_, rfl, by lia⟩
    · exact ⟨_, rfl, by lia⟩
  exact fin i H3 hi (ex1.trans (ex2.trans ((ex_new hl).trans ex3))) hn3
theorem gall {i : Nat} {x : V} {σ : St} {H : Hp} {A B : St -> Hp -> Prop} (h : A (σ.set i (some x)) H) : gName i x σ H fun σ2 H2 => tAll σ2 H2 fun b H3 => if b = true then A σ2 H3 else B σ2 H3 := by
  show (if true = true then A (σ.set i (some x)) H else B (σ.set i (some x)) H)
  rw [if_pos rfl]; exact h
theorem sc__law_fields : FnScope ["hand", "many"] ["hand"] (defScope (top 12)) := ⟨rfl, rfl, rfl, by decide +kernel, rfl, by decide +kernel, by decide +kernel⟩
noncomputable def spNames (m : Nat) : Sp := fun vs H Q _ => ∃ (p c : Addr) (cs : List Int) (kn : Option Int), vs = [.ref p] /\ Hn H p c cs kn /\
  ∀ (l : Addr) (ys : List Str) (H' : Hp), ys.length <= m -> (∀ y ∈ ys, y.length <= 10) -> Ex p H H' -> Hn H' p c cs kn -> H l = none -> H' l = some (.lst (ys.map V.str)) -> Q (.ref l) H'
theorem ok_fields (T : Tx mg) (D : Df K mg "_law_fields" (top 12) f fd ["hand"]) (D__law_draw : Df K mg "_law_draw" (top 9) f_draw fd_draw ["hand", "limit"]) (G__law_draw : FnOk P w K mg base CX0 1 f_draw fd_draw ["hand", "limit"] spDraw)
    (D__law_name : Df K mg "_law_name" (top 10) f_name fd_name ["hand"]) (G__law_name : FnOk P w K mg base CX0 2 f_name fd_name ["hand"] spName) :
    FnOk P w K mg base CX0 3 f fd ["hand"] (spNames 6) := by
  refine D.fn.okH sc__law_fields (fun vs H Q E h => ?_) (fun cdv A outer s H vs Q E hr h => ?_)
  · obtain ⟨p, c, cs, kn, rfl, _⟩ := h; rfl
  obtain ⟨p, c, cs, kn, rfl, hn, fin⟩ := h
  have hu := u110 hr
  have hu0 := u0 hr
  have hu1 := hu_of hr
  refine ⟨_, (wss_cons (ws_set (i := 1) sc__law_fields.nd rfl (Or.inl rfl) (we_ix (ix_U hu1) (we_lst (wa_consts rfl)) (we_callTy call_int1 rfl T.z_int bt_int (wa_cons (we_cmpR (op_eqU hu) (we_call G__law_draw (hr.mono (by lia)) rfl D__law_draw.mg D__law_draw.kp D__law_draw.b .nil pass0 (wa_cons (wv 0) (wa_cons we_int wa_nil))) we_int (nomark _)) wa_nil)) (fun _ _ => rfl)))
      (wss_one (ws_ret (we_ss rfl rfl T.z_sorted rfl T.z_set (we_lc (Nt := ["k"]) (fr := [("hand", 0)]) (LcOk.of (sc := defScope (top 12)) (N := ["hand", "many"]) rfl rfl (by decide +kernel)) rfl (wi_range1 rfl T.z_range (wa_cons (we_call G__law_draw (hr.mono (by lia)) rfl D__law_draw.mg D__law_draw.kp D__law_draw.b .nil pass0 (wa_cons (wv 0) (wa_cons (wv 1) wa_nil))) wa_nil)) (fun z => wg_name (i := 0) (by show (["k", "hand"] : List Str).Nodup; decide +kernel) rfl (Or.inl rfl) (.inr rfl)) (fun z => tgt_name (by decide)) (fun z => wif_nil) (fun z => (we_call G__law_name (hr.mono (by lia)) rfl D__law_name.mg D__law_name.kp D__law_name.b .nil pass0 (wa_cons (wv 1) wa_nil)))))))), ?_⟩
  refine ⟨(by show 2 <= sizeLine; decide), fun l hl => ⟨_, rfl, p, c, cs, kn, _, rfl, hn.new hl, by decide, by decide, fun x H1 x0 x1 ex1 hn1 => .inl ⟨rfl, .inr ⟨_, rfl, ?_⟩⟩⟩⟩
  have nl := hn.ne hl
  obtain ⟨j, hj, hat⟩ : ∃ j : Nat, (j = 4 \/ j = 7) /\ atI [V.int 4, .int 7] (if decide (V.int x = V.int 0) = true then 1 else 0) = some (.int j) := by
    cases decide (V.int x = V.int 0)
    · exact ⟨4, .inl rfl, rfl⟩
    · exact ⟨7, .inr rfl, rfl⟩
  refine .inl ⟨l, _, _, _, rfl, rfl, SqL.of (ex1 l _ nl upd_same), hat, ?_⟩
  have exA : Ex p H H1 := (ex_new hl).trans ex1
  refine ⟨_, rfl, _, rfl, p, c, cs, kn, _, rfl, hn1, by lia, Int.lt_of_le_of_lt (show _ <= 7 by lia) (by decide), fun y H2 y0 y1 ex2 hn2 => ⟨_, rfl, by lia, by lia, ?_⟩⟩
  refine ⟨fun i m ys H' => m + i = y.toNat /\ (∃ zs : List Str, ys = zs.map V.str /\ zs.length = i /\ ∀ z ∈ zs, z.length <= 10) /\ Ex p H H' /\ Hn H' p c cs kn, ⟨_, by rw [Nat.add_zero], ⟨[], rfl, rfl, fun z hz => (nomatch hz)⟩, exA.trans ex2, hn2⟩, ?_⟩
  rintro i m ys H3 ⟨hm, ⟨zs, rfl, hzl, hz1⟩, ex3, hn3⟩
  refine ⟨by rw [List.length_map, hzl]; exact line1 (by lia), ?_⟩
  by_cases hlt : i < y.toNat
  · refine .inr ⟨hlt, fun z x H4 hy => ?_⟩
    obtain ⟨rfl, rfl⟩ := hy
    refine gall ?_
    refine ⟨_, rfl, p, c, cs, kn, rfl, hn3, fun s H5 hs ex5 hn5 => ?_⟩
    refine ⟨m - 1, by lia, by lia, ⟨zs ++ [s], by simp, by simp [hzl], fun z hz => ?_⟩, ex3.trans ex5, hn5⟩
    rcases List.mem_append.mp hz with h | h
    · exact hz1 z h
    · rw [List.mem_singleton.mp h]; exact hs
  · refine .inl ⟨by show y.toNat <= i; lia, fun l2 hl2 => ?_⟩
    refine ⟨l2, zs, rfl, upd_same, by lia, fun q ys hq nd mem srt => ?_⟩
    have le : ys.length <= zs.length := List.Nodup.length_le_of_subset nd fun y hy => (mem y).mp hy
    have hq0 : H q = none := by
      cases e : H q with
      | none => rfl
      | some o =>
        have nq : q ≠ p := fun z => (hn3.new hl2).ne hq z
        have := ex3 q o nq e
        rw [upd_ne (ne_of_none this hl2), this] at hq
        cases hq
    exact fin q ys _ (by lia) (fun y hy => hz1 y ((mem y).mp hy)) (ex3.trans ((ex_new hl2).trans (ex_new hq))) ((hn3.new hl2).new hq) hq0 upd_same
theorem cutL (x : Int) (h0 : 0 <= x) (h1 : x < 5) : (Txt.slice (Str.ofString "abcdefghijklmn") none (some (10 + x))).cps.all (· < 128) = true := by
  have : x = 0 \/ x = 1 \/ x = 2 \/ x = 3 \/ x = 4 := by lia
  rcases this with rfl | rfl | rfl | rfl | rfl <;> decide +kernel
theorem sc__law_many_fields : FnScope ["hand"] ["hand"] (defScope (top 13)) := ⟨rfl, rfl, rfl, by decide +kernel, rfl, by decide +kernel, by decide +kernel⟩
theorem ok_many (T : Tx mg) (D : Df K mg "_law_many_fields" (top 13) f fd ["hand"]) (D__law_draw : Df K mg "_law_draw" (top 9) f_draw fd_draw ["hand", "limit"]) (G__law_draw : FnOk P w K mg base CX0 1 f_draw fd_draw ["hand", "limit"] spDraw) :
    FnOk P w K mg base CX0 2 f fd ["hand"] (spNames 14) := by
  refine D.fn.okH sc__law_many_fields (fun vs H Q E h => ?_) (fun cdv A outer s H vs Q E hr h => ?_)
  · obtain ⟨p, c, cs, kn, rfl, _⟩ := h; rfl
  obtain ⟨p, c, cs, kn, rfl, hn, fin⟩ := h
  have hu := u110 hr
  have hu0 := u0 hr
  have hu1 := hu_of hr
  refine ⟨_, (wss_one (ws_ret (we_lc (Nt := ["letter"]) (fr := []) (LcOk.of (sc := defScope (top 13)) (N := ["hand"]) rfl rfl (by decide +kernel)) rfl (wi_str (we_slice sl_U we_str wo_none (wo_some (we_op op_plus we_int (we_call G__law_draw (hr.mono (by lia)) rfl D__law_draw.mg D__law_draw.kp D__law_draw.b .nil pass0 (wa_cons (wv 0) (wa_cons we_int wa_nil))))))) (fun z => wg_name (i := 0) (by show (["letter"] : List Str).Nodup; decide +kernel) rfl (Or.inl rfl) (.inr rfl)) (fun z => tgt_name (by decide)) (fun z => wif_nil) (fun z => (we_op op_plus (wv 0) we_str))))), ?_⟩
  refine ⟨_, rfl, p, c, cs, kn, _, rfl, hn, by decide, by decide, fun x H1 x0 x1 ex1 hn1 => .inl ⟨_, _, rfl, rfl, _, rfl, ?_⟩⟩
  have l14 : (Str.ofString "abcdefghijklmn").length = 14 := by decide +kernel
  have ls := Txt.slice_le (Str.ofString "abcdefghijklmn") none (some (10 + x))
  have ca := cutL x x0 x1
  refine .inr (.inr (.inr ⟨_, rfl, Nat.le_of_lt (line1 (by lia)), _, rfl, ca, ?_⟩))
  have lt : (Txt.slice (Str.ofString "abcdefghijklmn") none (some (10 + x))).cps.size <= 14 := by
    have e : (Txt.slice (Str.ofString "abcdefghijklmn") none (some (10 + x))).cps.size = (Txt.slice (Str.ofString "abcdefghijklmn") none (some (10 + x))).length := rfl
    lia
  generalize Txt.slice (Str.ofString "abcdefghijklmn") none (some (10 + x)) = tx at lt
  have e2 : (Str.ofString "qz").length = 2 := by decide +kernel
  refine ⟨fun i m ys H' => m + i = tx.cps.size /\ (∃ zs : List Str, ys = zs.map V.str /\ zs.length = i /\ ∀ z ∈ zs, z.length <= 10) /\ H' = H1, ⟨_, by rw [Nat.add_zero], ⟨[], rfl, rfl, fun z hz => (nomatch hz)⟩, rfl⟩, ?_⟩
  rintro i m ys H3 ⟨hm, ⟨zs, rfl, hzl, hz1⟩, rfl⟩
  refine ⟨by rw [List.length_map, hzl]; exact line1 (by lia), ?_⟩
  by_cases hlt : i < tx.cps.size
  · refine .inr ⟨hlt, fun z x H4 hy => ?_⟩
    obtain ⟨rfl, ch, hch, rfl⟩ := hy
    refine gall ?_
    refine ⟨_, rfl, .inr (.inl ⟨_, _, rfl, rfl, Nat.le_of_lt (line1 (by show 1 + _ <= _; rw [e2]; decide)), ?_⟩)⟩
    refine ⟨m - 1, by lia, by lia, ⟨zs ++ [⟨#[ch]⟩ ++ Str.ofString "qz"], by simp, by simp [hzl], fun z hz => ?_⟩, rfl⟩
    rcases List.mem_append.mp hz with h | h
    · exact hz1 z h
    · rw [List.mem_singleton.mp h, len_app, e2]; show 1 + 2 <= 10; decide
  · refine .inl ⟨by show tx.cps.size <= i; lia, fun l2 hl2 => ?_⟩
    have hq0 : H l2 = none := by
      cases e : H l2 with
      | none => rfl
      | some o =>
        have nq : l2 ≠ p := fun z => hn1.ne hl2 z
        rw [ex1 l2 o nq e] at hl2
        cases hl2
    exact fin l2 zs _ (by lia) hz1 (ex1.trans (ex_new hl2)) (hn1.new hl2) hq0 upd_same
end
end K14
end
section
namespace K14
open PySem L2 Kn
theorem fnOk_lt {P : Program} {w : World} {K : PySem.W.Frag} {mg : Str -> Option Value} {base : Heap} {k : Nat} {f : Addr} {fd : FuncData} {ps : List Str} {sp : Nat -> Sp} {d : Nat} (F : ∀ e, e < d -> FnOk P w K mg base CX0 k f fd ps (sp e)) :
    FnOk P w K mg base CX0 k f fd ps (fun vs H Q E => ∃ e, e < d /\ sp e vs H Q E) :=
  ⟨fun vs H Q E ⟨e, he, h⟩ => (F e he).len vs H Q E h, fun A outer s H args us vs Q E hr h0 hb hv ⟨e, he, h⟩ => (F e he).run A outer s H args us vs Q E hr h0 hb hv h⟩
noncomputable def kz : Nat -> Nat
  | 0 => 1
  | d + 1 => 30 + 6 * (1 + kz d)
theorem kz_pos (d : Nat) : 1 <= kz d := by cases d <;> rw [kz] <;> lia
theorem tszR_le {ps : List (Str × Tr)} {n : Nat} (h : ∀ q ∈ ps, tsz q.2 <= n) : tszR ps <= ps.length * (1 + n) := by
  induction ps with
  | nil => rw [tszR]; simp
  | cons p ps ih =>
    have h1 := h p List.mem_cons_self
    have h2 := ih fun q hq => h q (List.mem_cons_of_mem _ hq)
    rw [tszR, List.length_cons, Nat.succ_mul]
    lia
section
variable {P : Program} {w : World} {K : PySem.W.Frag} {mg : Str -> Option Value} {base : Heap} {f f_draw f_flds f_many : Addr} {fd fd_draw fd_flds fd_many : FuncData}
theorem sc__law_kind : FnScope ["hand", "deep", "style"] ["hand", "deep"] (defScope (top 14)) := ⟨rfl, rfl, rfl, by decide +kernel, rfl, by decide +kernel, by decide +kernel⟩
noncomputable def spKind (d : Nat) : Sp := fun vs H Q _ => ∃ (p c : Addr) (cs : List Int) (kn : Option Int), vs = [.ref p, .int d] /\ Hn H p c cs kn /\
  ∀ (t : Tr) (v : V) (H' : Hp), KG d t -> tsz t <= kz d -> IsDt H' (tdat t) v -> Ex p H H' -> Hn H' p c cs kn -> Q v H'
theorem ok_kind {k d : Nat} (hk : 3 <= k) (T : Tx mg) (D__law_kind : Df K mg "_law_kind" (top 14) f fd ["hand", "deep"]) (G__law_kind : FnOk P w K mg base CX0 k f fd ["hand", "deep"] (fun vs H Q E => ∃ e, e < d /\ spKind e vs H Q E))
    (D__law_draw : Df K mg "_law_draw" (top 9) f_draw fd_draw ["hand", "limit"]) (G__law_draw : FnOk P w K mg base CX0 1 f_draw fd_draw ["hand", "limit"] spDraw)
    (D__law_fields : Df K mg "_law_fields" (top 12) f_flds fd_flds ["hand"]) (G__law_fields : FnOk P w K mg base CX0 3 f_flds fd_flds ["hand"] (spNames 6))
    (D__law_many_fields : Df K mg "_law_many_fields" (top 13) f_many fd_many ["hand"]) (G__law_many_fields : FnOk P w K mg base CX0 2 f_many fd_many ["hand"] (spNames 14)) :
    FnOk P w K mg base CX0 (k + 1) f fd ["hand", "deep"] (spKind d) := by
  refine D__law_kind.fn.okH sc__law_kind (fun vs H Q E h => ?_) (fun cdv A outer s H vs Q E hr h => ?_)
  · obtain ⟨p, c, cs, kn, rfl, _⟩ := h; rfl
  obtain ⟨p, c, cs, kn, rfl, hn, fin⟩ := h
  have hu := u110 hr
  have hu0 := u0 hr
  have hu1 := hu_of hr
  have kp := kz_pos d
  refine ⟨_, (wss_cons (ws_set (i := 2) sc__law_kind.nd rfl (Or.inl rfl) (we_call G__law_draw (hr.mono (by lia)) rfl D__law_draw.mg D__law_draw.kp D__law_draw.b .nil pass0 (wa_cons (wv 0) (wa_cons (we_ix (ix_U hu1) (we_lst (wa_consts rfl)) (we_callTy call_int1 rfl T.z_int bt_int (wa_cons (we_cmpR op_gt (wv 1) we_int (nomark _)) wa_nil)) (fun _ _ => rfl)) wa_nil))))
      (wss_cons (ws_if (wt_cmpR (op_ltU hu0) (wv 2) we_int (nomark _)) (wss_one (ws_ret (we_ix (ix_U hu1) (we_lst (wa_cons (we_tup (wa_cons we_str wa_nil)) (wa_cons (we_tup (wa_cons we_str wa_nil)) wa_nil))) (wv 2) (fun _ _ => rfl)))) wss_nil)
      (wss_cons (ws_if (wt_pw (ww_and (wt_cmpR (op_ltU hu0) (wv 2) we_int (nomark _)) (ww_and1 (wt_cmpR (op_eqU hu) (we_call G__law_draw (hr.mono (by lia)) rfl D__law_draw.mg D__law_draw.kp D__law_draw.b .nil pass0 (wa_cons (wv 0) (wa_cons we_int wa_nil))) we_int (nomark _))))) (wss_one (ws_ret (we_tup (wa_cons we_str (wa_cons (we_callTy call_tuple_of rfl T.z_tuple bt_tuple (wa_cons (we_lc (Nt := ["field"]) (fr := [("hand", 0)]) (LcOk.of (sc := defScope (top 14)) (N := ["hand", "deep", "style"]) rfl rfl (by decide +kernel)) rfl (wi_U (we_call G__law_many_fields (hr.mono (by lia)) rfl D__law_many_fields.mg D__law_many_fields.kp D__law_many_fields.b .nil pass0 (wa_cons (wv 0) wa_nil))) (fun z => wg_name (i := 0) (by show (["field", "hand"] : List Str).Nodup; decide +kernel) rfl (Or.inl rfl) (.inr rfl)) (fun z => tgt_name (by decide)) (fun z => wif_nil) (fun z => (we_tup (wa_cons (wv 0) (wa_cons (we_call G__law_kind (hr.mono (by lia)) rfl D__law_kind.mg D__law_kind.kp D__law_kind.b .nil pass0 (wa_cons (wv 1) (wa_cons we_int wa_nil))) wa_nil))))) wa_nil)) wa_nil))))) wss_nil)
      (wss_cons (ws_if (wt_cmpR (op_ltU hu0) (wv 2) we_int (nomark _)) (wss_one (ws_ret (we_tup (wa_cons we_str (wa_cons (we_callTy call_tuple_of rfl T.z_tuple bt_tuple (wa_cons (we_lc (Nt := ["field"]) (fr := [("hand", 0), ("deep", 1)]) (LcOk.of (sc := defScope (top 14)) (N := ["hand", "deep", "style"]) rfl rfl (by decide +kernel)) rfl (wi_U (we_call G__law_fields (hr.mono (by lia)) rfl D__law_fields.mg D__law_fields.kp D__law_fields.b .nil pass0 (wa_cons (wv 0) wa_nil))) (fun z => wg_name (i := 0) (by show (["field", "hand", "deep"] : List Str).Nodup; decide +kernel) rfl (Or.inl rfl) (.inr rfl)) (fun z => tgt_name (by decide)) (fun z => wif_nil) (fun z => (we_tup (wa_cons (wv 0) (wa_cons (we_call G__law_kind (hr.mono (by lia)) rfl D__law_kind.mg D__law_kind.kp D__law_kind.b .nil pass0 (wa_cons (wv 1) (wa_cons (we_op op_sub (wv 2) we_int) wa_nil))) wa_nil))))) wa_nil)) wa_nil))))) wss_nil)
      (wss_one (ws_ret (we_tup (wa_cons we_str (wa_cons (we_call G__law_kind (hr.mono (by lia)) rfl D__law_kind.mg D__law_kind.kp D__law_kind.b .nil pass0 (wa_cons (wv 0) (wa_cons (we_op op_sub (wv 1) we_int) wa_nil))) wa_nil))))))))), ?_⟩
  refine ⟨_, rfl, (by show 2 <= sizeLine; decide), fun l hl => ⟨_, rfl, _, _, rfl, rfl, .inr ⟨_, rfl, ?_⟩⟩⟩
  obtain ⟨m, hm2, hm6, hmd, hat⟩ : ∃ m : Nat, 2 <= m /\ m <= 6 /\ (d = 0 -> m = 2) /\ atI [V.int 2, .int 6] (if decide ((d : Int) > 0) = true then 1 else 0) = some (.int m) := by
    by_cases z : d = 0
    · subst z; exact ⟨2, by decide, by decide, fun _ => rfl, rfl⟩
    · have : decide ((d : Int) > 0) = true := decide_eq_true (by lia)
      rw [this]; exact ⟨6, by decide, by decide, fun q => absurd q z, rfl⟩
  refine .inl ⟨l, _, _, _, rfl, rfl, SqL.of upd_same, hat, p, c, cs, kn, _, rfl, hn.new hl, by lia, Int.lt_of_le_of_lt (show _ <= 6 by lia) (by decide), fun st H1 st0 st1 ex1 hn1 => ?_⟩
  have exA : Ex p H H1 := (ex_new hl).trans ex1
  refine ⟨_, rfl, .inl ⟨_, _, rfl, rfl, _, rfl, ?_⟩⟩
  refine ite2 (fun e1 => ?leaf) (fun e1 => ?deep)
  case leaf =>
    have st2 : st < 2 := of_decide_eq_true e1
    refine ⟨(by show 1 <= sizeLine; decide), fun t1 ht1 => ⟨(by show 1 <= sizeLine; decide), fun t2 ht2 => ⟨(by show 2 <= sizeLine; decide), fun l2 hl2 => ?_⟩⟩⟩
    have i1 : IsDt (upd (upd H1 t1 (.tup [.str "num"])) t2 (.tup [.str "word"])) (tdat (.node (Str.ofString "num") [] [])) (.ref t1) := IsDt.mono (Tups.new ht2 _) (by rw [tdat]; exact isDt_new ht1 (.one (by rw [IsDt])))
    have i2 : IsDt (upd (upd H1 t1 (.tup [.str "num"])) t2 (.tup [.str "word"])) (tdat (.node (Str.ofString "word") [] [])) (.ref t2) := by rw [tdat]; exact isDt_new ht2 (.one (by rw [IsDt]))
    obtain ⟨v, hv, hm⟩ := atI_mem (xs := [V.ref t1, .ref t2]) st0 st2
    refine ⟨_, rfl, .inl ⟨l2, _, _, _, rfl, rfl, SqL.of upd_same, hv, ?_⟩⟩
    have tt := Tups.new hl2 (.lst [.ref t1, .ref t2])
    have exN := exA.trans ((ex_new ht1).trans ((ex_new (o := .tup [.str "word"]) ht2).trans (ex_new (o := .lst [.ref t1, .ref t2]) hl2)))
    have hnN := ((hn1.new ht1).new (o := .tup [.str "word"]) ht2).new (o := .lst [.ref t1, .ref t2]) hl2
    simp only [List.mem_cons, List.not_mem_nil, or_false] at hm
    rcases hm with rfl | rfl
    · exact fin _ _ _ .num (by rw [tsz, tszL]; exact kp) (IsDt.mono tt i1) exN hnN
    · exact fin _ _ _ .word (by rw [tsz, tszL]; exact kp) (IsDt.mono tt i2) exN hnN
  case deep =>
  have d1 : 1 <= d := by
    have : ¬ (st < 2) := fun z => e1 (decide_eq_true z)
    by_cases z : d = 0
    · have := hmd z; lia
    · lia
  obtain ⟨d', rfl⟩ : ∃ d', d = d' + 1 := ⟨d - 1, by lia⟩
  have ed : ((d' + 1 : Nat) : Int) - 1 = d' := by lia
  refine ⟨_, rfl, .inl ⟨_, _, rfl, rfl, _, rfl, ?_⟩⟩
  refine ite2 (fun e2 => ?row) (fun e2 => ?nrow)
  case' row =>
    refine ⟨_, rfl, p, c, cs, kn, _, rfl, hn1, by decide, by decide, fun y H2 y0 y1 ex2 hn2 => .inl ⟨rfl, _, rfl, ?_⟩⟩
    refine ite2 (fun e3 => ?many) (fun e3 => ?flds)
  case nrow =>
    refine ⟨_, rfl, .inl ⟨_, _, rfl, rfl, _, rfl, ?_⟩⟩
    refine iteN e2 ?_
    refine ⟨_, rfl, _, rfl, _, _, rfl, rfl, d', by lia, p, c, cs, kn, (show [V.ref p, V.int (((d' + 1 : Nat) : Int) - 1)] = [V.ref p, .int d'] by rw [ed]), hn1, fun t v H2 kg ts it ex2 hn2 => ⟨(by show 2 <= sizeLine; decide), fun q hq => ?_⟩⟩
    refine fin (.node (Str.ofString "bag") [] [t]) _ _ (.bag kg) (by rw [tsz, tszL, tszL, kz]; simp; lia) ?_ (exA.trans (ex2.trans (ex_new hq))) (hn2.new hq)
    rw [tdat, tdatL, tdatL]
    exact isDt_new hq (.cons (by rw [IsDt]) (.one it))
  case' many =>
    refine .inl ⟨_, rfl, p, c, cs, kn, rfl, hn2, fun lf ys H3 hy14 hyn ex3 hn3 hlf hLf => ⟨lf, rfl, ⟨_, SqL.of hLf⟩, ?_⟩⟩
    obtain ⟨e, he, hsz, ea⟩ : ∃ e : Nat, e < d' + 1 /\ ys.length * (1 + kz e) + 1 <= kz (d' + 1) /\ (0 : Int) = e := ⟨0, by lia, by rw [kz, kz]; lia, rfl⟩
    have y14 : ys.length <= 14 := hy14
  case' flds =>
    refine ⟨_, rfl, .inl ⟨_, _, rfl, rfl, _, rfl, ?_⟩⟩
    refine iteP e2 ?_
    refine .inl ⟨_, rfl, p, c, cs, kn, rfl, hn2, fun lf ys H3 hy14 hyn ex3 hn3 hlf hLf => ⟨lf, rfl, ⟨_, SqL.of hLf⟩, ?_⟩⟩
    obtain ⟨e, he, hsz, ea⟩ : ∃ e : Nat, e < d' + 1 /\ ys.length * (1 + kz e) + 1 <= kz (d' + 1) /\ ((d' + 1 : Nat) : Int) - 1 = e := ⟨d', by lia, by rw [kz]; have := Nat.mul_le_mul_right (1 + kz d') hy14; lia, ed⟩
    have y14 : ys.length <= 14 := by lia
  case many | flds =>
    have exB : Ex p H H3 := exA.trans (ex2.trans ex3)
    have nlf : lf ≠ p := fun z => by
      obtain ⟨_, _, _, _, a, _⟩ := hn3
      rw [z, a.at_] at hLf; cases hLf
    refine ⟨fun i2 m2 zs H4 => m2 + i2 = ys.length /\ Ex p H H4 /\ Hn H4 p c cs kn /\ H4 lf = some (.lst (ys.map V.str)) /\ ∃ ps : List (Str × Tr), ps.map (·.1) = ys.take i2 /\ IsDts H4 (tdatR ps) zs /\ ∀ q ∈ ps, KG e q.2 /\ tsz q.2 <= kz e, ⟨_, by rw [Nat.add_zero], exB, hn3, hLf, [], by simp, by rw [tdatR]; exact .nil, fun q hq => nomatch hq⟩, ?_⟩
    rintro i2 m2 zs H4 ⟨hm2, ex4, hn4, hl4, ps, eps, ips, hps⟩
    have lps : ps.length = min i2 ys.length := by have := congrArg List.length eps; simpa using this
    have lzs : zs.length = ps.length := by rw [ips.length, tdatR_map, List.length_map]
    refine ⟨line1 (by lia), ?_⟩
    by_cases hi2 : i2 < ys.length
    · have hyi : (ys.map V.str)[i2]? = some (.str ys[i2]) := by simp [hi2]
      refine .inr ⟨⟨_, _, SqL.of hl4, hyi⟩, fun z x H5 hy2 => ?_⟩
      obtain ⟨rfl, hx5⟩ := hy2
      obtain rfl : V.str ys[i2] = x := by have := hx5 _ (SqL.of hl4); rw [hyi] at this; injection this
      refine gall ?_
      have next : ∀ (t : Tr) (v : V) (H6 : Hp), KG e t -> tsz t <= kz e -> IsDt H6 (tdat t) v -> Ex p H5 H6 -> Hn H6 p c cs kn -> ∀ q, H6 q = none -> ∃ m', m' < m2 /\ m' + (i2 + 1) = ys.length /\ Ex p H (upd H6 q (.tup [.str ys[i2], v])) /\ Hn (upd H6 q (.tup [.str ys[i2], v])) p c cs kn /\ (upd H6 q (.tup [.str ys[i2], v])) lf = some (.lst (ys.map V.str)) /\
          ∃ ps : List (Str × Tr), ps.map (·.1) = ys.take (i2 + 1) /\ IsDts (upd H6 q (.tup [.str ys[i2], v])) (tdatR ps) (zs ++ [.ref q]) /\ ∀ q ∈ ps, KG e q.2 /\ tsz q.2 <= kz e := fun t v H6 kg ts it ex6 hn6 q hq => by
        have l6 := ex6 lf _ nlf hl4
        refine ⟨m2 - 1, by lia, by lia, ex4.trans (ex6.trans (ex_new hq)), hn6.new hq, by rw [upd_ne (ne_of_none l6 hq)]; exact l6, ps ++ [(ys[i2], t)], ?_, ?_, fun q' hq' => ?_⟩
        · rw [List.map_append, eps, List.take_add_one, List.getElem?_eq_getElem hi2]; rfl
        · rw [tdatR_map, List.map_append, <- tdatR_map]
          exact (IsDts.mono ((hn4.tups ex6).trans (Tups.new hq _)) ips).append (.one (isDt_new hq (.cons (by rw [IsDt]) (.one it))))
        · rcases List.mem_append.mp hq' with h | h
          · exact hps q' h
          · rw [List.mem_singleton.mp h]; exact ⟨kg, ts⟩
      first
      | refine ⟨_, rfl, _, rfl, e, he, p, c, cs, kn, (show [V.ref p, V.int 0] = _ by rw [ea]), hn4, fun t v H6 kg ts it ex6 hn6 => ⟨(by show 2 <= sizeLine; decide), fun q hq => next t v H6 kg ts it ex6 hn6 q hq⟩⟩
      | refine ⟨_, rfl, _, rfl, _, rfl, _, _, rfl, rfl, e, he, p, c, cs, kn, (show [V.ref p, V.int (((d' + 1 : Nat) : Int) - 1)] = _ by rw [ea]), hn4, fun t v H6 kg ts it ex6 hn6 => ⟨(by show 2 <= sizeLine; decide), fun q hq => next t v H6 kg ts it ex6 hn6 q hq⟩⟩
    · refine .inl ⟨⟨_, SqL.of hl4, by rw [List.length_map]; lia⟩, fun l2 hl2 => ?_⟩
      rw [List.take_of_length_le (by lia)] at eps
      refine ⟨l2, _, rfl, .inl ⟨SqL.of upd_same, fun t1 ht1 => ⟨(by show 2 <= sizeLine; decide), fun t2 ht2 => ?_⟩⟩⟩
      have ip1 : IsDt (upd (upd H4 l2 (.lst zs)) t1 (.tup zs)) (.tup (tdatR ps)) (.ref t1) := isDt_new ht1 (IsDts.mono (Tups.new hl2 _) ips)
      have lps' : ps.length <= ys.length := by lia
      refine fin (.row ps) _ _ (KG.row (by lia) (fun q hq => ?_) (fun q hq => (hps q hq).1.mono (by lia))) ?_ ?_ (ex4.trans ((ex_new hl2).trans ((ex_new ht1).trans (ex_new ht2)))) (((hn4.new hl2).new ht1).new ht2)
      · have : q.1 ∈ ys := by rw [<- eps]; exact List.mem_map.mpr ⟨q, hq, rfl⟩
        exact hyn _ this
      · have h1 := tszR_le (n := kz e) fun q hq => (hps q hq).2
        have h2 := Nat.mul_le_mul_right (1 + kz e) lps'
        rw [tsz]; lia
      · rw [tdat]
        exact isDt_new ht2 (.cons (by rw [IsDt]) (.one ip1))
theorem kind_all (T : Tx mg) (D__law_kind : Df K mg "_law_kind" (top 14) f fd ["hand", "deep"])
    (D__law_draw : Df K mg "_law_draw" (top 9) f_draw fd_draw ["hand", "limit"]) (G__law_draw : FnOk P w K mg base CX0 1 f_draw fd_draw ["hand", "limit"] spDraw)
    (D__law_fields : Df K mg "_law_fields" (top 12) f_flds fd_flds ["hand"]) (G__law_fields : FnOk P w K mg base CX0 3 f_flds fd_flds ["hand"] (spNames 6))
    (D__law_many_fields : Df K mg "_law_many_fields" (top 13) f_many fd_many ["hand"]) (G__law_many_fields : FnOk P w K mg base CX0 2 f_many fd_many ["hand"] (spNames 14)) :
    ∀ d : Nat, FnOk P w K mg base CX0 (d + 4) f fd ["hand", "deep"] (spKind d) := fun d => by
  induction d using Nat.strongRecOn with
  | ind d ih => exact ok_kind (k := d + 3) (by lia) T D__law_kind (fnOk_lt fun e he => (ih e he).mono (by lia)) D__law_draw G__law_draw D__law_fields G__law_fields D__law_many_fields G__law_many_fields
end
end K14
end
section
namespace K14
open PySem L2 Kn
noncomputable def W6 : List Str := [Str.ofString "num", Str.ofString "word", Str.ofString "var", Str.ofString "table", Str.ofString "none", Str.ofString "row"]
noncomputable def W12 : List Str := [Str.ofString "fields", Str.ofString "at", Str.ofString "add", Str.ofString "mul", Str.ofString "one", Str.ofString "both", Str.ofString "times", Str.ofString "for", Str.ofString "when", Str.ofString "let", Str.ofString "for", Str.ofString "when"]
noncomputable def W18 : List Str := W6 ++ W12
theorem w_apart : ∀ w ∈ W6, w ∉ W12 := by decide +kernel
theorem isDts_strs {H : Hp} : ∀ l : List Str, IsDts H (l.map Dt.str) (l.map V.str)
  | [] => .nil
  | x :: l => .cons (by rw [IsDt]) (isDts_strs l)
theorem depL_strs : ∀ l : List Str, depL (l.map Dt.str) <= 1
  | [] => by simp [depL]
  | x :: l => by
    have := depL_strs l
    rw [List.map_cons, depL, Dt.dep]
    lia
theorem veq {a : V} : decide (a = a) = true := decide_eq_true rfl
theorem vne {a b : Str} (h : a ≠ b) : ¬ (decide (V.str a = V.str b) = true) := fun z => h (by have := of_decide_eq_true z; injection this)
theorem vs_eq {a b : Str} (h : decide (V.str a = V.str b) = true) : a = b := by have := of_decide_eq_true h; injection this
section
variable {P : Program} {w : World} {K : PySem.W.Frag} {mg : Str -> Option Value} {base : Heap} {f f_draw f_flds f_many f_name f_num f_kind f_leaf f_any f_claim : Addr} {fd fd_draw fd_flds fd_many fd_name fd_num fd_kind fd_leaf fd_any fd_claim : FuncData}
theorem sc__law_any_leaf : FnScope ["hand", "word"] ["hand", "word"] (defScope (top 16)) := ⟨rfl, rfl, rfl, by decide +kernel, rfl, by decide +kernel, by decide +kernel⟩
noncomputable def spLeaf : Sp := fun vs H Q _ => ∃ (p c : Addr) (cs : List Int) (kn : Option Int) (wd : Str), vs = [.ref p, .str wd] /\ Hn H p c cs kn /\ wd ∈ W6 /\
  ∀ (t : Tr) (v : V) (H' : Hp), QG 0 false t -> nq t <= 1 -> IsDt H' (tdat t) v -> Ex p H H' -> Hn H' p c cs kn -> Q v H'
theorem ok_leaf (T : Tx mg) (D : Df K mg "_law_any_leaf" (top 16) f fd ["hand", "word"])
    (D__law_number : Df K mg "_law_number" (top 11) f_num fd_num ["hand"]) (G__law_number : FnOk P w K mg base CX0 2 f_num fd_num ["hand"] spNumber)
    (D__law_kind : Df K mg "_law_kind" (top 14) f_kind fd_kind ["hand", "deep"]) (G__law_kind : FnOk P w K mg base CX0 6 f_kind fd_kind ["hand", "deep"] (spKind 2))
    (D__law_name : Df K mg "_law_name" (top 10) f_name fd_name ["hand"]) (G__law_name : FnOk P w K mg base CX0 2 f_name fd_name ["hand"] spName) :
    FnOk P w K mg base CX0 7 f fd ["hand", "word"] spLeaf := by
  refine D.fn.okH (k := 6) sc__law_any_leaf (fun vs H Q E h => ?_) (fun cdv A outer s H vs Q E hr h => ?_)
  · obtain ⟨p, c, cs, kn, wd, rfl, _⟩ := h; rfl
  obtain ⟨p, c, cs, kn, wd, rfl, hn, hw, fin⟩ := h
  have hu := u110 hr
  have hu0 := u0 hr
  have hu1 := hu_of hr
  refine ⟨_, (wss_cons (ws_if (wt_cmpR (op_eqU hu) (wv 1) we_str (nomark _)) (wss_one (ws_ret (we_tup (wa_cons we_str (wa_cons (we_call G__law_number (hr.mono (by lia)) rfl D__law_number.mg D__law_number.kp D__law_number.b .nil pass0 (wa_cons (wv 0) wa_nil)) wa_nil))))) wss_nil)
      (wss_cons (ws_if (wt_cmpR (op_eqU hu) (wv 1) we_str (nomark _)) (wss_one (ws_ret (we_tup (wa_cons we_str (wa_cons (we_call G__law_kind (hr.mono (by lia)) rfl D__law_kind.mg D__law_kind.kp D__law_kind.b .nil pass0 (wa_cons (wv 0) (wa_cons we_int wa_nil))) wa_nil))))) wss_nil)
      (wss_cons (ws_if (wt_cmpR (op_eqU hu) (wv 1) we_str (nomark _)) (wss_one (ws_ret (we_tup (wa_cons we_str (wa_cons (we_tup wa_nil) wa_nil))))) wss_nil)
      (wss_one (ws_ret (we_tup (wa_cons (wv 1) (wa_cons (we_call G__law_name (hr.mono (by lia)) rfl D__law_name.mg D__law_name.kp D__law_name.b .nil pass0 (wa_cons (wv 0) wa_nil)) wa_nil)))))))), ?_⟩
  refine ⟨_, rfl, .inl ⟨rfl, _, rfl, ?_⟩⟩
  refine ite2 (fun e1 => ?_) (fun e1 => ?_)
  · refine ⟨_, rfl, p, c, cs, kn, rfl, hn, fun i H1 hi ex1 hn1 => ⟨(by show 2 <= sizeLine; decide), fun q hq => ?_⟩⟩
    refine fin (.node (Str.ofString "num") [.int i] []) _ _ (.num hi) (by rw [nq, nqL]; simp) ?_ (ex1.trans (ex_new hq)) (hn1.new hq)
    rw [tdat, tdatL]
    exact isDt_new hq (.cons (by rw [IsDt]) (.one (by show IsDt _ (.int i) _; rw [IsDt])))
  refine ⟨_, rfl, .inl ⟨rfl, _, rfl, ?_⟩⟩
  refine ite2 (fun e2 => ?_) (fun e2 => ?_)
  · refine ⟨_, rfl, p, c, cs, kn, rfl, hn, fun t v H1 kg ts it ex1 hn1 => ⟨(by show 2 <= sizeLine; decide), fun q hq => ?_⟩⟩
    refine fin (.node (Str.ofString "none") [] [t]) _ _ (.none kg) ?_ ?_ (ex1.trans (ex_new hq)) (hn1.new hq)
    · have : kz 2 = 288 := rfl
      rw [nq, if_pos rfl]; lia
    · rw [tdat, tdatL, tdatL]
      exact isDt_new hq (.cons (by rw [IsDt]) (.one it))
  refine ⟨_, rfl, .inl ⟨rfl, _, rfl, ?_⟩⟩
  refine ite2 (fun e3 => ?_) (fun e3 => ?_)
  · refine ⟨(by show 0 <= sizeLine; decide), fun q1 hq1 => ⟨(by show 2 <= sizeLine; decide), fun q hq => ?_⟩⟩
    refine fin (.row []) _ _ .row0 (by rw [nq, nqR]; lia) ?_ ((ex_new hq1).trans (ex_new hq)) ((hn.new hq1).new hq)
    rw [tdat, tdatR]
    exact isDt_new hq (.cons (by rw [IsDt]) (.one (isDt_new hq1 .nil)))
  refine ⟨_, rfl, _, rfl, p, c, cs, kn, rfl, hn, fun x H1 hx ex1 hn1 => ⟨(by show 2 <= sizeLine; decide), fun q hq => ?_⟩⟩
  refine fin (.node wd [.txt x] []) _ _ (.leaf ?_ hx) (by rw [nq, nqL]; simp) ?_ (ex1.trans (ex_new hq)) (hn1.new hq)
  · unfold W6 at hw
    simp only [List.mem_cons, List.not_mem_nil, or_false] at hw
    rcases hw with rfl | rfl | rfl | rfl | rfl | rfl
    · exact absurd veq e1
    · exact .inl rfl
    · exact .inr (.inl rfl)
    · exact .inr (.inr rfl)
    · exact absurd veq e2
    · exact absurd veq e3
  · rw [tdat, tdatL]
    exact isDt_new hq (.cons (by rw [IsDt]) (.one (by show IsDt _ (.str x) _; rw [IsDt])))
end
end K14
end
section
namespace K14
open PySem L2 Kn
noncomputable def Ad : Nat -> Int
  | 0 => 0
  | d + 1 => 60 + 6 * d
theorem hn_put {H : Hp} {p c : Addr} {cs : List Int} {k : Int} (h : Hn H p c cs (some k)) : ∃ kvs, H p = some (.dK kvs) /\ kvs.length < sizeLine /\ DGet H p (.str "knots") (some (.int k)) /\ ∀ k', Hn (upd H p (.dK (putK kvs kyK (.int k')))) p c cs (some k') := by
  obtain ⟨n, r, t, kvs, a, b⟩ := h
  exact ⟨kvs, a.at_, pl a, gK a, fun k' => ⟨n, r, t, _, a.putK' k' (.inl (by simp)), fun z => nomatch z⟩⟩
theorem hn_get {H : Hp} {p c : Addr} {cs : List Int} {k : Int} (h : Hn H p c cs (some k)) : DGet H p (.str "knots") (some (.int k)) := by
  obtain ⟨n, r, t, kvs, a, b⟩ := h
  exact gK a
theorem Ad_lt {a d : Nat} (h : a < d) : Ad a + 6 <= Ad d /\ 60 <= Ad d := by
  obtain ⟨e, rfl⟩ : ∃ e, d = e + 1 := ⟨d - 1, by lia⟩
  cases a with
  | zero => simp only [Ad]; lia
  | succ n => simp only [Ad]; lia
theorem Ad_le {a d : Nat} (h : a <= d) : Ad a <= Ad d := by
  rcases Nat.lt_or_ge a d with z | z
  · have := Ad_lt z; lia
  · have : a = d := by lia
    rw [this]; exact Int.le_refl _
theorem arg_eq {p : Addr} {x y : Int} (h : x = y) : [V.ref p, V.int x] = [V.ref p, V.int y] := by rw [h]
section
variable {P : Program} {w : World} {K : PySem.W.Frag} {mg : Str -> Option Value} {base : Heap} {f f_draw f_flds f_many f_name f_num f_kind f_leaf f_any f_claim : Addr} {fd fd_draw fd_flds fd_many fd_name fd_num fd_kind fd_leaf fd_any fd_claim : FuncData}
noncomputable def spAny (d : Nat) : Sp := fun vs H Q _ => ∃ (p c : Addr) (cs : List Int) (k : Int), vs = [.ref p, .int d] /\ Hn H p c cs (some k) /\
  ∀ (t : Tr) (v : V) (H' : Hp) (k' : Int), QG (2 * d + 1) false t -> (nq t : Int) <= k' - k -> k + 1 <= k' -> (k' <= k + 1 \/ (1 <= d /\ k' <= Ad d)) -> IsDt H' (tdat t) v -> Ex p H H' -> Hn H' p c cs (some k') -> Q v H'
noncomputable def spClaim (d : Nat) : Sp := fun vs H Q _ => ∃ (p c : Addr) (cs : List Int) (k : Int), vs = [.ref p, .int d] /\ Hn H p c cs (some k) /\
  ∀ (t : Tr) (v : V) (H' : Hp) (k' : Int), QG (2 * d + 2) true t -> (nq t : Int) <= k' - k -> k + 1 <= k' -> (k' <= k + 3 \/ (1 <= d /\ k' <= Ad d)) -> IsDt H' (tdat t) v -> Ex p H H' -> Hn H' p c cs (some k') -> Q v H'
theorem sc__law_any_claim : FnScope ["hand", "deep", "word"] ["hand", "deep"] (defScope (top 15)) := ⟨rfl, rfl, rfl, by decide +kernel, rfl, by decide +kernel, by decide +kernel⟩
theorem ok_claim {j d : Nat} (hj : 1 <= j) (T : Tx mg) (D__law_any_claim : Df K mg "_law_any_claim" (top 15) f fd ["hand", "deep"]) (G__law_any_claim : FnOk P w K mg base CX0 j f fd ["hand", "deep"] (fun vs H Q E => ∃ e, e < d /\ spClaim e vs H Q E))
    (D__law_draw : Df K mg "_law_draw" (top 9) f_draw fd_draw ["hand", "limit"]) (G__law_draw : FnOk P w K mg base CX0 1 f_draw fd_draw ["hand", "limit"] spDraw)
    (D__law_any : Df K mg "_law_any" (top 17) f_any fd_any ["hand", "deep"]) (G__law_any : FnOk P w K mg base CX0 j f_any fd_any ["hand", "deep"] (fun vs H Q E => ∃ e, e < d + 1 /\ spAny e vs H Q E)) :
    FnOk P w K mg base CX0 (j + 1) f fd ["hand", "deep"] (spClaim d) := by
  refine D__law_any_claim.fn.okH sc__law_any_claim (fun vs H Q E h => ?_) (fun cdv A outer s H vs Q E hr h => ?_)
  · obtain ⟨p, c, cs, k, rfl, _⟩ := h; rfl
  obtain ⟨p, c, cs, k, rfl, hn, fin⟩ := h
  have hu := u110 hr
  have hu0 := u0 hr
  have hu1 := hu_of hr
  refine ⟨_, (wss_cons (ws_asg (we_op op_plus (we_ix (ix_U hu1) (wv 0) we_str (fun _ _ => rfl)) we_int) (wg_sub (wv 0) we_str (set_U hu1)))
      (wss_cons (ws_if (wt_cmpR op_gt (we_ix (ix_U hu1) (wv 0) we_str (fun _ _ => rfl)) we_int (nomark _)) (wss_one (ws_set (i := 1) sc__law_any_claim.nd rfl (Or.inl rfl) we_int)) wss_nil)
      (wss_cons (ws_set (i := 2) sc__law_any_claim.nd rfl (Or.inl rfl) (we_ix (ix_U hu1) (we_lst (wa_consts rfl)) (we_call G__law_draw (hr.mono (by lia)) rfl D__law_draw.mg D__law_draw.kp D__law_draw.b .nil pass0 (wa_cons (wv 0) (wa_cons (we_ix (ix_U hu1) (we_lst (wa_consts rfl)) (we_callTy call_int1 rfl T.z_int bt_int (wa_cons (we_cmpR op_gt (wv 1) we_int (nomark _)) wa_nil)) (fun _ _ => rfl)) wa_nil))) (fun _ _ => rfl)))
      (wss_cons (ws_if (wt_cmpR (op_eqU hu) (wv 2) we_str (nomark _)) (wss_one (ws_ret (we_tup (wa_cons we_str (wa_cons (we_call G__law_any_claim (hr.mono (by lia)) rfl D__law_any_claim.mg D__law_any_claim.kp D__law_any_claim.b .nil pass0 (wa_cons (wv 0) (wa_cons (we_op op_sub (wv 1) we_int) wa_nil))) wa_nil))))) wss_nil)
      (wss_cons (ws_if (wt_pw (ww_or (wt_cmpR (op_eqU hu) (wv 2) we_str (nomark _)) (ww_or1 (wt_cmpR (op_eqU hu) (wv 2) we_str (nomark _))))) (wss_one (ws_ret (we_tup (wa_cons (wv 2) (wa_cons (we_call G__law_any_claim (hr.mono (by lia)) rfl D__law_any_claim.mg D__law_any_claim.kp D__law_any_claim.b .nil pass0 (wa_cons (wv 0) (wa_cons (we_op op_sub (wv 1) we_int) wa_nil))) (wa_cons (we_call G__law_any_claim (hr.mono (by lia)) rfl D__law_any_claim.mg D__law_any_claim.kp D__law_any_claim.b .nil pass0 (wa_cons (wv 0) (wa_cons (we_op op_sub (wv 1) we_int) wa_nil))) wa_nil)))))) wss_nil)
      (wss_one (ws_ret (we_tup (wa_cons (wv 2) (wa_cons (we_call G__law_any (hr.mono (by lia)) rfl D__law_any.mg D__law_any.kp D__law_any.b .nil pass0 (wa_cons (wv 0) (wa_cons (we_callB (call_max2 rfl) rfl T.z_max bt_max (wa_cons we_int (wa_cons (we_op op_sub (wv 1) we_int) wa_nil))) wa_nil))) (wa_cons (we_call G__law_any (hr.mono (by lia)) rfl D__law_any.mg D__law_any.kp D__law_any.b .nil pass0 (wa_cons (wv 0) (wa_cons (we_callB (call_max2 rfl) rfl T.z_max bt_max (wa_cons we_int (wa_cons (we_op op_sub (wv 1) we_int) wa_nil))) wa_nil))) wa_nil))))))))))), ?_⟩
  obtain ⟨kvs, hat, hlen, hget, hput⟩ := hn_put hn
  refine ⟨_, rfl, .inr (.inr (.inr ⟨p, _, rfl, hget, .inl ⟨_, _, rfl, rfl, _, rfl, .inr ⟨p, _, rfl, DPut.k (k := kyK) hat hlen, ?_⟩⟩⟩))⟩
  have hn1 := hput (k + 1)
  have ex1 : Ex p H (upd H p (.dK (putK kvs kyK (.int (k + 1))))) := ex_upd
  refine ⟨_, rfl, .inr (.inr (.inr ⟨p, _, rfl, hn_get hn1, _, _, rfl, rfl, _, rfl, ?_⟩))⟩
  refine ite2 (fun e0 => ?yes) (fun e0 => ?no)
  case' yes => obtain ⟨dd, hdd, hdk, edd⟩ : ∃ dd : Nat, dd <= d /\ (1 <= dd -> k <= 39) /\ (0 : Int) = dd := ⟨0, by lia, by lia, rfl⟩
  case' no => obtain ⟨dd, hdd, hdk, edd⟩ : ∃ dd : Nat, dd <= d /\ (1 <= dd -> k <= 39) /\ (d : Int) = dd := ⟨d, by lia, fun _ => by have : ¬ (k + 1 > 40) := fun z => e0 (decide_eq_true z); lia, rfl⟩
  case yes | no =>
  clear e0
  generalize upd H p (.dK (putK kvs kyK (.int (k + 1)))) = Ha at hn1 ex1 ⊢
  have sel : ∀ x : Int, x = dd -> ∃ m : Nat, 2 <= m /\ m <= 5 /\ (dd = 0 -> m = 2) /\ atI [V.int 2, .int 5] (if decide (x > 0) = true then 1 else 0) = some (.int m) := fun x ex => by
    by_cases z : dd = 0
    · have : decide (x > 0) = false := decide_eq_false (by lia)
      rw [this]; exact ⟨2, by decide, by decide, fun _ => rfl, rfl⟩
    · have : decide (x > 0) = true := decide_eq_true (by lia)
      rw [this]; exact ⟨5, by decide, by decide, fun q => absurd q z, rfl⟩
  obtain ⟨m, hm2, hm5, hmd, hsel⟩ := sel _ edd
  refine ⟨(by show 5 <= sizeLine; decide), fun l hl => ⟨_, rfl, (by show 2 <= sizeLine; decide), fun l2 hl2 => ⟨_, rfl, _, _, rfl, rfl, .inr ⟨_, rfl, .inl ⟨l2, _, _, _, rfl, rfl, SqL.of upd_same, hsel, ?_⟩⟩⟩⟩⟩
  have hnL := (hn1.new (o := .lst [.str "same", .str "under", .str "and", .str "or", .str "not"]) hl).new (o := .lst [.int 2, .int 5]) hl2
  have nl := hn1.ne hl
  have hL : (upd (upd Ha l (.lst [.str "same", .str "under", .str "and", .str "or", .str "not"])) l2 (.lst [.int 2, .int 5])) l = some (.lst [.str "same", .str "under", .str "and", .str "or", .str "not"]) := by rw [upd_ne (ne_of_none upd_same hl2)]; exact upd_same
  have exL : Ex p H (upd (upd Ha l (.lst [.str "same", .str "under", .str "and", .str "or", .str "not"])) l2 (.lst [.int 2, .int 5])) := ex1.trans ((ex_new hl).trans (ex_new hl2))
  refine ⟨p, c, cs, some (k + 1), _, rfl, hnL, by lia, Int.lt_of_le_of_lt (show _ <= 5 by lia) (by decide), fun x H1 x0 x1 ex2 hn2 => ?_⟩
  have hL1 := ex2 l _ nl hL
  have exA : Ex p H H1 := exL.trans ex2
  obtain ⟨wd, hwd, hcase⟩ : ∃ wd : Str, atI [V.str "same", .str "under", .str "and", .str "or", .str "not"] x = some (.str wd) /\ ((wd = Str.ofString "same" \/ wd = Str.ofString "under") \/ (1 <= dd /\ (wd = Str.ofString "and" \/ wd = Str.ofString "or" \/ wd = Str.ofString "not"))) := by
    have hx : x = 0 \/ x = 1 \/ (1 <= dd /\ (x = 2 \/ x = 3 \/ x = 4)) := by lia
    rcases hx with rfl | rfl | ⟨h, rfl | rfl | rfl⟩
    · exact ⟨_, rfl, .inl (.inl rfl)⟩
    · exact ⟨_, rfl, .inl (.inr rfl)⟩
    · exact ⟨_, rfl, .inr ⟨h, .inl rfl⟩⟩
    · exact ⟨_, rfl, .inr ⟨h, .inr (.inl rfl)⟩⟩
    · exact ⟨_, rfl, .inr ⟨h, .inr (.inr rfl)⟩⟩
  refine .inl ⟨l, _, x, _, rfl, rfl, SqL.of hL1, hwd, ?_⟩
  refine ⟨_, rfl, .inl ⟨rfl, _, rfl, ?_⟩⟩
  refine ite2 (fun e1 => ?_) (fun e1 => ?_)
  · have ew := vs_eq e1
    have d1 : 1 <= dd := by
      rcases hcase with h | h
      · exfalso; rw [ew] at h; revert h; decide +kernel
      · exact h.1
    have k39 := hdk d1
    refine ⟨_, rfl, _, rfl, _, _, rfl, rfl, dd - 1, by lia, p, c, cs, k + 1, arg_eq (by lia), hn2, fun t v H2 k' qg ts kk1 kk2 it ex3 hn3 => ⟨(by show 2 <= sizeLine; decide), fun q hq => ?_⟩⟩
    refine fin (.node (Str.ofString "not") [] [t]) _ _ k' (QG.mono (show 2 * (dd - 1) + 2 + 1 <= _ by lia) (.not qg)) (Int.le_trans (Int.ofNat_le.mpr (nq_le _ _ _)) (by simp; lia)) (by lia) ?_ ?_ (exA.trans (ex3.trans (ex_new hq))) (hn3.new hq)
    · have := Ad_lt (show dd - 1 < d by lia); lia
    · rw [tdat, tdatL, tdatL]
      exact isDt_new hq (.cons (by rw [IsDt]) (.one it))
  refine ⟨_, rfl, .inl ⟨rfl, _, rfl, ?_⟩⟩
  refine ite2 (fun e2 => iteT ?_) (fun e2 => ?_)
  · have ew : wd = Str.ofString "and" \/ wd = Str.ofString "or" := .inl (vs_eq e2)
    have d1 : 1 <= dd := by
      rcases hcase with h | h
      · exfalso
        rcases ew with rfl | rfl
        · revert h; decide +kernel
        · revert h; decide +kernel
      · exact h.1
    have k39 := hdk d1
    refine ⟨_, rfl, _, rfl, _, rfl, _, _, rfl, rfl, dd - 1, by lia, p, c, cs, k + 1, arg_eq (by lia), hn2, fun t v H2 k' qg ts kk1 kk2 it ex3 hn3 => ?_⟩
    refine ⟨_, rfl, _, rfl, _, _, rfl, rfl, dd - 1, by lia, p, c, cs, k', arg_eq (by lia), hn3, fun t2 v2 H3 k2 qg2 ts2 kk3 kk4 it2 ex4 hn4 => ⟨(by show 3 <= sizeLine; decide), fun q hq => ?_⟩⟩
    have al := Ad_lt (show dd - 1 < d by lia)
    refine fin (.node wd [] [t, t2]) _ _ k2 (QG.mono (show 2 * (dd - 1) + 2 + 1 <= _ by lia) (.logic ew qg qg2)) (Int.le_trans (Int.ofNat_le.mpr (nq_le _ _ _)) (by simp; lia)) (by lia) (by lia) ?_ (exA.trans (ex3.trans (ex4.trans (ex_new hq)))) (hn4.new hq)
    rw [tdat, tdatL, tdatL, tdatL]
    exact isDt_new hq (.cons (by rw [IsDt]) (.cons (IsDt.mono (hn3.tups ex4) it) (.one it2)))
  refine ⟨_, rfl, .inl ⟨rfl, _, rfl, ?_⟩⟩
  refine ite2 (fun e3 => ?_) (fun e3 => ?_)
  · have ew : wd = Str.ofString "and" \/ wd = Str.ofString "or" := .inr (vs_eq e3)
    have d1 : 1 <= dd := by
      rcases hcase with h | h
      · exfalso
        rcases ew with rfl | rfl
        · revert h; decide +kernel
        · revert h; decide +kernel
      · exact h.1
    have k39 := hdk d1
    refine ⟨_, rfl, _, rfl, _, rfl, _, _, rfl, rfl, dd - 1, by lia, p, c, cs, k + 1, arg_eq (by lia), hn2, fun t v H2 k' qg ts kk1 kk2 it ex3 hn3 => ?_⟩
    refine ⟨_, rfl, _, rfl, _, _, rfl, rfl, dd - 1, by lia, p, c, cs, k', arg_eq (by lia), hn3, fun t2 v2 H3 k2 qg2 ts2 kk3 kk4 it2 ex4 hn4 => ⟨(by show 3 <= sizeLine; decide), fun q hq => ?_⟩⟩
    have al := Ad_lt (show dd - 1 < d by lia)
    refine fin (.node wd [] [t, t2]) _ _ k2 (QG.mono (show 2 * (dd - 1) + 2 + 1 <= _ by lia) (.logic ew qg qg2)) (Int.le_trans (Int.ofNat_le.mpr (nq_le _ _ _)) (by simp; lia)) (by lia) (by lia) ?_ (exA.trans (ex3.trans (ex4.trans (ex_new hq)))) (hn4.new hq)
    rw [tdat, tdatL, tdatL, tdatL]
    exact isDt_new hq (.cons (by rw [IsDt]) (.cons (IsDt.mono (hn3.tups ex4) it) (.one it2)))
  have ew : wd = Str.ofString "same" \/ wd = Str.ofString "under" := by
    rcases hcase with h | ⟨_, rfl | rfl | rfl⟩
    · exact h
    · exact absurd veq e2
    · exact absurd veq e3
    · exact absurd veq e1
  refine ⟨_, rfl, _, rfl, _, rfl, _, _, rfl, rfl, _, _, rfl, dd - 1, by lia, p, c, cs, k + 1, arg_eq (by split <;> lia), hn2, fun t v H2 k' qg ts kk1 kk2 it ex3 hn3 => ?_⟩
  refine ⟨_, rfl, _, rfl, _, _, rfl, rfl, _, _, rfl, dd - 1, by lia, p, c, cs, k', arg_eq (by split <;> lia), hn3, fun t2 v2 H3 k2 qg2 ts2 kk3 kk4 it2 ex4 hn4 => ⟨(by show 3 <= sizeLine; decide), fun q hq => ?_⟩⟩
  have hk : k2 <= k + 3 \/ (1 <= d /\ k2 <= Ad d) := by
    by_cases z : 1 <= dd
    · have k39 := hdk z
      have al := Ad_lt (show dd - 1 < d by lia)
      lia
    · lia
  refine fin (.node wd [] [t, t2]) _ _ k2 (QG.mono (show 2 * (dd - 1) + 1 + 1 <= _ by lia) (.cmp ew qg qg2)) (Int.le_trans (Int.ofNat_le.mpr (nq_le _ _ _)) (by simp; lia)) (by lia) hk ?_ (exA.trans (ex3.trans (ex4.trans (ex_new hq)))) (hn4.new hq)
  rw [tdat, tdatL, tdatL, tdatL]
  exact isDt_new hq (.cons (by rw [IsDt]) (.cons (IsDt.mono (hn3.tups ex4) it) (.one it2)))
end
end K14
end
section
namespace K14
open PySem L2 Kn
theorem w_at {x : Int} (h0 : 0 <= x) (h1 : x < 18) : ∃ wd : Str, atI (W18.map V.str) x = some (.str wd) /\ wd ∈ W18 /\ (x < 6 -> wd ∈ W6) := by
  have hl : W18.length = 18 := rfl
  have hk : x.toNat < W18.length := by lia
  have e : ((x.toNat : Nat) : Int) = x := by lia
  have z : atI (W18.map V.str) ((x.toNat : Nat) : Int) = some (.str W18[x.toNat]) := atI_nat (by rw [List.getElem?_map, List.getElem?_eq_getElem hk]; rfl)
  rw [e] at z
  refine ⟨_, z, List.getElem_mem hk, fun h6 => ?_⟩
  have h6' : x.toNat < W6.length := by show x.toNat < 6; lia
  have : W18[x.toNat] = W6[x.toNat] := List.getElem_append_left h6'
  rw [this]; exact List.getElem_mem h6'
theorem w_idx {j : Nat} {wd : Str} (h : (W18.map Dt.str)[j]? = some (.str wd)) : (j < 6 -> wd ∈ W6) /\ (¬ j < 6 -> wd ∈ W12) := by
  rw [List.getElem?_map] at h
  obtain ⟨u, hu, e⟩ := Option.map_eq_some_iff.mp h
  injection e with e
  subst e
  constructor
  · intro h6
    have : (W6 ++ W12)[j]? = W6[j]? := List.getElem?_append_left (by exact h6)
    rw [show W18 = W6 ++ W12 from rfl, this] at hu
    exact List.mem_of_getElem? hu
  · intro h6
    have : (W6 ++ W12)[j]? = W12[j - W6.length]? := List.getElem?_append_right (by show 6 <= j; lia)
    rw [show W18 = W6 ++ W12 from rfl, this] at hu
    exact List.mem_of_getElem? hu
section
variable {P : Program} {w : World} {K : PySem.W.Frag} {mg : Str -> Option Value} {base : Heap} {f f_draw f_flds f_many f_name f_num f_kind f_leaf f_any f_claim : Addr} {fd fd_draw fd_flds fd_many fd_name fd_num fd_kind fd_leaf fd_any fd_claim : FuncData}
theorem sc__law_any : FnScope ["hand", "deep", "words", "word"] ["hand", "deep"] (defScope (top 17)) := ⟨rfl, rfl, rfl, by decide +kernel, rfl, by decide +kernel, by decide +kernel⟩
theorem ok_any {j d : Nat} (hj : 7 <= j) (T : Tx mg) (D__law_any : Df K mg "_law_any" (top 17) f fd ["hand", "deep"]) (G__law_any : FnOk P w K mg base CX0 j f fd ["hand", "deep"] (fun vs H Q E => ∃ e, e < d /\ spAny e vs H Q E))
    (D__law_any_claim : Df K mg "_law_any_claim" (top 15) f_claim fd_claim ["hand", "deep"]) (G__law_any_claim : FnOk P w K mg base CX0 j f_claim fd_claim ["hand", "deep"] (fun vs H Q E => ∃ e, e < d /\ spClaim e vs H Q E))
    (D__law_draw : Df K mg "_law_draw" (top 9) f_draw fd_draw ["hand", "limit"]) (G__law_draw : FnOk P w K mg base CX0 1 f_draw fd_draw ["hand", "limit"] spDraw)
    (D__law_any_leaf : Df K mg "_law_any_leaf" (top 16) f_leaf fd_leaf ["hand", "word"]) (G__law_any_leaf : FnOk P w K mg base CX0 7 f_leaf fd_leaf ["hand", "word"] spLeaf)
    (D__law_number : Df K mg "_law_number" (top 11) f_num fd_num ["hand"]) (G__law_number : FnOk P w K mg base CX0 2 f_num fd_num ["hand"] spNumber)
    (D__law_name : Df K mg "_law_name" (top 10) f_name fd_name ["hand"]) (G__law_name : FnOk P w K mg base CX0 2 f_name fd_name ["hand"] spName)
    (D__law_fields : Df K mg "_law_fields" (top 12) f_flds fd_flds ["hand"]) (G__law_fields : FnOk P w K mg base CX0 3 f_flds fd_flds ["hand"] (spNames 6))
    (D__law_many_fields : Df K mg "_law_many_fields" (top 13) f_many fd_many ["hand"]) (G__law_many_fields : FnOk P w K mg base CX0 2 f_many fd_many ["hand"] (spNames 14)) :
    FnOk P w K mg base CX0 (j + 1) f fd ["hand", "deep"] (spAny d) := by
  refine D__law_any.fn.okH sc__law_any (fun vs H Q E h => ?_) (fun cdv A outer s H vs Q E hr h => ?_)
  · obtain ⟨p, c, cs, k, rfl, _⟩ := h; rfl
  obtain ⟨p, c, cs, k, rfl, hn, fin⟩ := h
  have hu := u110 hr
  have hu0 := u0 hr
  have hu1 := hu_of hr
  refine ⟨_, (wss_cons (ws_asg (we_op op_plus (we_ix (ix_U hu1) (wv 0) we_str (fun _ _ => rfl)) we_int) (wg_sub (wv 0) we_str (set_U hu1)))
      (wss_cons (ws_if (wt_cmpR op_gt (we_ix (ix_U hu1) (wv 0) we_str (fun _ _ => rfl)) we_int (nomark _)) (wss_one (ws_set (i := 1) sc__law_any.nd rfl (Or.inr rfl) we_int)) wss_nil)
      (wss_cons (ws_set (i := 2) sc__law_any.nd rfl (Or.inl rfl) (we_lst (wa_consts rfl)))
      (wss_cons (ws_set (i := 2) sc__law_any.nd rfl (Or.inl rfl) (we_op op_plus (wv 2) (we_lst (wa_consts rfl))))
      (wss_cons (ws_set (i := 3) sc__law_any.nd rfl (Or.inl rfl) (we_ix (ix_U hu1) (wv 2) (we_call G__law_draw (hr.mono (by lia)) rfl D__law_draw.mg D__law_draw.kp D__law_draw.b .nil pass0 (wa_cons (wv 0) (wa_cons (we_ix (ix_U hu1) (we_lst (wa_consts rfl)) (we_callTy call_int1 rfl T.z_int bt_int (wa_cons (we_cmpR op_gt (wv 1) we_int (nomark _)) wa_nil)) (fun _ _ => rfl)) wa_nil))) (fun _ _ => rfl)))
      (wss_cons (ws_if (wt_cmpR (op_ltU hu0) (we_bm PySem.F.plainAttrs_list PySem.F.slot_list_index PySem.F.type_list_index (mt_indexD hu) (wv 2) (wa_cons (wv 3) wa_nil)) we_int (nomark _)) (wss_one (ws_ret (we_call G__law_any_leaf (hr.mono (by lia)) rfl D__law_any_leaf.mg D__law_any_leaf.kp D__law_any_leaf.b .nil pass0 (wa_cons (wv 0) (wa_cons (wv 3) wa_nil))))) wss_nil)
      (wss_cons (ws_if (wt_pw (ww_and (wt_cmpR (op_eqU hu) (wv 3) we_str (nomark _)) (ww_and1 (wt_cmpR (op_eqU hu) (we_call G__law_draw (hr.mono (by lia)) rfl D__law_draw.mg D__law_draw.kp D__law_draw.b .nil pass0 (wa_cons (wv 0) (wa_cons we_int wa_nil))) we_int (nomark _))))) (wss_one (ws_ret (we_tup (wa_cons we_str (wa_cons (we_callTy call_tuple_of rfl T.z_tuple bt_tuple (wa_cons (we_lc (Nt := ["field"]) (fr := [("hand", 0)]) (LcOk.of (sc := defScope (top 17)) (N := ["hand", "deep", "words", "word"]) rfl rfl (by decide +kernel)) rfl (wi_U (we_call G__law_many_fields (hr.mono (by lia)) rfl D__law_many_fields.mg D__law_many_fields.kp D__law_many_fields.b .nil pass0 (wa_cons (wv 0) wa_nil))) (fun z => wg_name (i := 0) (by show (["field", "hand"] : List Str).Nodup; decide +kernel) rfl (Or.inl rfl) (.inr rfl)) (fun z => tgt_name (by decide)) (fun z => wif_nil) (fun z => (we_tup (wa_cons (wv 0) (wa_cons (we_call G__law_any (hr.mono (by lia)) rfl D__law_any.mg D__law_any.kp D__law_any.b .nil pass0 (wa_cons (wv 1) (wa_cons we_int wa_nil))) wa_nil))))) wa_nil)) wa_nil))))) wss_nil)
      (wss_cons (ws_if (wt_cmpR (op_eqU hu) (wv 3) we_str (nomark _)) (wss_one (ws_ret (we_tup (wa_cons we_str (wa_cons (we_callTy call_tuple_of rfl T.z_tuple bt_tuple (wa_cons (we_lc (Nt := ["field"]) (fr := [("hand", 0), ("deep", 1)]) (LcOk.of (sc := defScope (top 17)) (N := ["hand", "deep", "words", "word"]) rfl rfl (by decide +kernel)) rfl (wi_U (we_call G__law_fields (hr.mono (by lia)) rfl D__law_fields.mg D__law_fields.kp D__law_fields.b .nil pass0 (wa_cons (wv 0) wa_nil))) (fun z => wg_name (i := 0) (by show (["field", "hand", "deep"] : List Str).Nodup; decide +kernel) rfl (Or.inl rfl) (.inr rfl)) (fun z => tgt_name (by decide)) (fun z => wif_nil) (fun z => (we_tup (wa_cons (wv 0) (wa_cons (we_call G__law_any (hr.mono (by lia)) rfl D__law_any.mg D__law_any.kp D__law_any.b .nil pass0 (wa_cons (wv 1) (wa_cons (we_op op_sub (wv 2) we_int) wa_nil))) wa_nil))))) wa_nil)) wa_nil))))) wss_nil)
      (wss_cons (ws_if (wt_cmpR (op_eqU hu) (wv 3) we_str (nomark _)) (wss_one (ws_ret (we_tup (wa_cons we_str (wa_cons (we_call G__law_name (hr.mono (by lia)) rfl D__law_name.mg D__law_name.kp D__law_name.b .nil pass0 (wa_cons (wv 0) wa_nil)) (wa_cons (we_call G__law_any (hr.mono (by lia)) rfl D__law_any.mg D__law_any.kp D__law_any.b .nil pass0 (wa_cons (wv 0) (wa_cons (we_op op_sub (wv 1) we_int) wa_nil))) wa_nil)))))) wss_nil)
      (wss_cons (ws_if (wt_cmpR (op_eqU hu) (wv 3) we_str (nomark _)) (wss_one (ws_ret (we_tup (wa_cons we_str (wa_cons (we_call G__law_number (hr.mono (by lia)) rfl D__law_number.mg D__law_number.kp D__law_number.b .nil pass0 (wa_cons (wv 0) wa_nil)) (wa_cons (we_call G__law_any (hr.mono (by lia)) rfl D__law_any.mg D__law_any.kp D__law_any.b .nil pass0 (wa_cons (wv 0) (wa_cons (we_op op_sub (wv 1) we_int) wa_nil))) wa_nil)))))) wss_nil)
      (wss_cons (ws_if (wt_cmpR (op_eqU hu) (wv 3) we_str (nomark _)) (wss_one (ws_ret (we_tup (wa_cons we_str (wa_cons (we_call G__law_any (hr.mono (by lia)) rfl D__law_any.mg D__law_any.kp D__law_any.b .nil pass0 (wa_cons (wv 0) (wa_cons (we_op op_sub (wv 1) we_int) wa_nil))) wa_nil))))) wss_nil)
      (wss_cons (ws_if (wt_cmpR (op_eqU hu) (wv 3) we_str (nomark _)) (wss_one (ws_ret (we_tup (wa_cons we_str (wa_cons (we_call G__law_any_claim (hr.mono (by lia)) rfl D__law_any_claim.mg D__law_any_claim.kp D__law_any_claim.b .nil pass0 (wa_cons (wv 0) (wa_cons (we_op op_sub (wv 1) we_int) wa_nil))) (wa_cons (we_call G__law_any (hr.mono (by lia)) rfl D__law_any.mg D__law_any.kp D__law_any.b .nil pass0 (wa_cons (wv 0) (wa_cons (we_op op_sub (wv 1) we_int) wa_nil))) wa_nil)))))) wss_nil)
      (wss_cons (ws_if (wt_pw (ww_or (wt_cmpR (op_eqU hu) (wv 3) we_str (nomark _)) (ww_or1 (wt_cmpR (op_eqU hu) (wv 3) we_str (nomark _))))) (wss_one (ws_ret (we_tup (wa_cons (wv 3) (wa_cons (we_call G__law_name (hr.mono (by lia)) rfl D__law_name.mg D__law_name.kp D__law_name.b .nil pass0 (wa_cons (wv 0) wa_nil)) (wa_cons (we_call G__law_any (hr.mono (by lia)) rfl D__law_any.mg D__law_any.kp D__law_any.b .nil pass0 (wa_cons (wv 0) (wa_cons (we_op op_sub (wv 1) we_int) wa_nil))) (wa_cons (we_call G__law_any (hr.mono (by lia)) rfl D__law_any.mg D__law_any.kp D__law_any.b .nil pass0 (wa_cons (wv 0) (wa_cons (we_op op_sub (wv 1) we_int) wa_nil))) wa_nil))))))) wss_nil)
      (wss_one (ws_ret (we_tup (wa_cons (wv 3) (wa_cons (we_call G__law_any (hr.mono (by lia)) rfl D__law_any.mg D__law_any.kp D__law_any.b .nil pass0 (wa_cons (wv 0) (wa_cons (we_op op_sub (wv 1) we_int) wa_nil))) (wa_cons (we_call G__law_any (hr.mono (by lia)) rfl D__law_any.mg D__law_any.kp D__law_any.b .nil pass0 (wa_cons (wv 0) (wa_cons (we_op op_sub (wv 1) we_int) wa_nil))) wa_nil))))))))))))))))))), ?_⟩
  obtain ⟨kvs, hat, hlen, hget, hput⟩ := hn_put hn
  refine ⟨_, rfl, .inr (.inr (.inr ⟨p, _, rfl, hget, .inl ⟨_, _, rfl, rfl, _, rfl, .inr ⟨p, _, rfl, DPut.k (k := kyK) hat hlen, ?_⟩⟩⟩))⟩
  have hn1 := hput (k + 1)
  have ex1 : Ex p H (upd H p (.dK (putK kvs kyK (.int (k + 1))))) := ex_upd
  refine ⟨_, rfl, .inr (.inr (.inr ⟨p, _, rfl, hn_get hn1, _, _, rfl, rfl, _, rfl, ?_⟩))⟩
  refine ite2 (fun e0 => ?yes) (fun e0 => ?no)
  case' yes => obtain ⟨dd, hdd, hdk, edd⟩ : ∃ dd : Nat, dd <= d /\ (1 <= dd -> k <= 39) /\ (0 : Int) = dd := ⟨0, by lia, by lia, rfl⟩
  case' no => obtain ⟨dd, hdd, hdk, edd⟩ : ∃ dd : Nat, dd <= d /\ (1 <= dd -> k <= 39) /\ (d : Int) = dd := ⟨d, by lia, fun _ => by have : ¬ (k + 1 > 40) := fun z => e0 (decide_eq_true z); lia, rfl⟩
  case yes | no =>
  clear e0
  generalize upd H p (.dK (putK kvs kyK (.int (k + 1)))) = Ha at hn1 ex1 ⊢
  have sel : ∀ x : Int, x = dd -> ∃ m : Nat, 6 <= m /\ m <= 18 /\ (dd = 0 -> m = 6) /\ atI [V.int 6, .int 18] (if decide (x > 0) = true then 1 else 0) = some (.int m) := fun x ex => by
    by_cases z : dd = 0
    · have : decide (x > 0) = false := decide_eq_false (by lia)
      rw [this]; exact ⟨6, by decide, by decide, fun _ => rfl, rfl⟩
    · have : decide (x > 0) = true := decide_eq_true (by lia)
      rw [this]; exact ⟨18, by decide, by decide, fun q => absurd q z, rfl⟩
  obtain ⟨m, hm6, hm18, hmd, hsel⟩ := sel _ edd
  refine ⟨(by show 14 <= sizeLine; decide), fun l hl => ?_⟩
  generalize hX1 : upd Ha l _ = Hl
  have hnl : Hn Hl p c cs (some (k + 1)) := hX1 ▸ hn1.new hl
  have exl : Ex p H Hl := hX1 ▸ ex1.trans (ex_new hl)
  have hLl : Hl l = some (.lst [.str "num", .str "word", .str "var", .str "table", .str "none", .str "row", .str "fields", .str "at", .str "add", .str "mul", .str "one", .str "both", .str "times", .str "for"]) := by rw [<- hX1]; exact upd_same
  clear hX1
  refine ⟨_, rfl, (by show 4 <= sizeLine; decide), fun l2 hl2 => ?_⟩
  generalize hX2 : upd Hl l2 _ = Hm
  have hnm : Hn Hm p c cs (some (k + 1)) := hX2 ▸ hnl.new hl2
  have exm : Ex p H Hm := hX2 ▸ exl.trans (ex_new hl2)
  have hLm : Hm l = some (.lst [.str "num", .str "word", .str "var", .str "table", .str "none", .str "row", .str "fields", .str "at", .str "add", .str "mul", .str "one", .str "both", .str "times", .str "for"]) := by rw [<- hX2, upd_ne (ne_of_none hLl hl2)]; exact hLl
  have hM2 : Hm l2 = some (.lst [.str "when", .str "let", .str "for", .str "when"]) := by rw [<- hX2]; exact upd_same
  clear hX2
  refine .inr (.inr (.inl ⟨l, l2, _, _, rfl, rfl, hLm, hM2, (by show 14 + 4 <= sizeLine; decide), fun l3 hl3 => ?_⟩))
  generalize hX3 : upd Hm l3 _ = Hb
  have hnb : Hn Hb p c cs (some (k + 1)) := hX3 ▸ hnm.new hl3
  have exb : Ex p H Hb := hX3 ▸ exm.trans (ex_new hl3)
  have hL : Hb l3 = some (.lst (W18.map V.str)) := by rw [<- hX3]; exact upd_same
  have nl3 := hnm.ne hl3
  clear hX3
  refine ⟨_, rfl, _, rfl, (by show 2 <= sizeLine; decide), fun l4 hl4 => ⟨_, rfl, _, _, rfl, rfl, .inr ⟨_, rfl, .inl ⟨l4, _, _, _, rfl, rfl, SqL.of upd_same, hsel, ?_⟩⟩⟩⟩
  refine ⟨p, c, cs, some (k + 1), _, rfl, hnb.new hl4, by lia, Int.lt_of_le_of_lt (show _ <= 18 by lia) (by decide), fun x H1 x0 x1 ex2 hn2 => ?_⟩
  have exA : Ex p H H1 := exb.trans ((ex_new hl4).trans ex2)
  have hL1 : H1 l3 = some (.lst (W18.map V.str)) := ex2 l3 _ nl3 (by rw [upd_ne (ne_of_none hL hl4)]; exact hL)
  obtain ⟨wd, hwd, hw18, hw6⟩ := w_at x0 (by lia)
  refine .inl ⟨l3, _, x, _, rfl, rfl, SqL.of hL1, hwd, ?_⟩
  refine ⟨_, rfl, .inl ⟨rfl, _, SqL.of hL1⟩, _, rfl, l3, _, _, .str wd, W18.map Dt.str, rfl, rfl, hL1, (by rw [IsDt]), isDts_strs W18, Nat.le_trans (depL_strs W18) (by decide), List.mem_map.mpr ⟨wd, hw18, rfl⟩, fun jx hjx => .inl ⟨_, _, rfl, rfl, _, rfl, ?_⟩⟩
  obtain ⟨jlt, jge⟩ := w_idx hjx
  refine ite2 (fun e6 => ?_) (fun e6 => ?_)
  · have h6 : wd ∈ W6 := jlt (by have := of_decide_eq_true e6; lia)
    refine ⟨_, rfl, _, rfl, p, c, cs, some (k + 1), wd, rfl, hn2, h6, fun t v H2 qg ts it ex5 hn5 => ?_⟩
    exact fin t v H2 (k + 1) (qg.mono (by lia)) (by lia) (by lia) (by lia) it (exA.trans ex5) hn5
  have h12 : wd ∈ W12 := jge (by intro z; exact e6 (decide_eq_true (by lia)))
  have d1 : 1 <= dd := by
    by_cases z : dd = 0
    · have := hmd z
      exact absurd h12 (w_apart wd (hw6 (by lia)))
    · lia
  have k39 := hdk d1
  have al := Ad_lt (show dd - 1 < d by lia)
  clear e6 hw6 hw18 hjx jlt jge
  refine ⟨_, rfl, .inl ⟨rfl, _, rfl, ?_⟩⟩
  refine ite2 (fun e1 => ?_) (fun e1 => ?_)
  · refine ⟨_, rfl, p, c, cs, some (k + 1), _, rfl, hn2, by decide, by decide, fun y H2 y0 y1 ex5 hn6 => .inl ⟨rfl, _, rfl, ?_⟩⟩
    have exC : Ex p H H2 := exA.trans ex5
    refine ite2 (fun e2 => ?_) (fun e2 => ?_)
    · refine .inl ⟨_, rfl, p, c, cs, some (k + 1), rfl, hn6, fun lf ys H3 hy14 hyn ex7 hn7 hlf hLf => ⟨lf, rfl, ⟨_, SqL.of hLf⟩, ?_⟩⟩
      obtain ⟨e, he, hsz, ea, y14⟩ : ∃ e : Nat, e < d /\ (1 <= e -> ys.length <= 6) /\ (0 : Int) = e /\ ys.length <= 14 := ⟨0, by lia, by lia, rfl, hy14⟩
      have exB : Ex p H H3 := exC.trans ex7
      have nlf : lf ≠ p := fun z => by
        obtain ⟨_, _, _, _, a, _⟩ := hn7
        rw [z, a.at_] at hLf; cases hLf
      refine ⟨fun i2 m2 zs H4 => m2 + i2 = ys.length /\ Ex p H H4 /\ H4 lf = some (.lst (ys.map V.str)) /\ ∃ (ps : List (Str × Tr)) (kk : Int), Hn H4 p c cs (some kk) /\ ps.map (·.1) = ys.take i2 /\ IsDts H4 (tdatR ps) zs /\ (∀ q ∈ ps, QG (2 * e + 1) false q.2) /\ (nqR ps : Int) <= kk - (k + 1) /\ k + 1 <= kk /\ (kk <= k + 1 + i2 \/ (1 <= e /\ kk <= Ad e + i2)),
        ⟨_, by rw [Nat.add_zero], exB, hLf, [], k + 1, hn7, by simp, by rw [tdatR]; exact .nil, (fun q hq => (nomatch hq)), by rw [nqR]; simp, by lia, by simp⟩, ?_⟩
      rintro i2 m2 zs H4 ⟨hm2, ex4, hl4, ps, kk, hn4, eps, ips, hps, hts, hk1, hk2⟩
      have lps : ps.length = min i2 ys.length := by have := congrArg List.length eps; simpa using this
      have lzs : zs.length = ps.length := by rw [ips.length, tdatR_map, List.length_map]
      refine ⟨line1 (by lia), ?_⟩
      by_cases hi2 : i2 < ys.length
      · have hyi : (ys.map V.str)[i2]? = some (.str ys[i2]) := by simp [hi2]
        refine .inr ⟨⟨_, _, SqL.of hl4, hyi⟩, fun z x H5 hy2 => ?_⟩
        obtain ⟨rfl, hx5⟩ := hy2
        obtain rfl : V.str ys[i2] = x := by have := hx5 _ (SqL.of hl4); rw [hyi] at this; injection this
        refine gall ?_
        refine ⟨_, rfl, _, rfl, e, he, p, c, cs, kk, arg_eq ea, hn4, fun t v H6 k' qg ts kk1 kk2 it ex6 hn6' => ⟨(by show 2 <= sizeLine; decide), fun q hq => ?_⟩⟩
        have l6 := ex6 lf _ nlf hl4
        refine ⟨m2 - 1, by lia, by lia, ex4.trans (ex6.trans (ex_new hq)), by rw [upd_ne (ne_of_none l6 hq)]; exact l6, ps ++ [(ys[i2], t)], k', hn6'.new hq, ?_, ?_, fun q' hq' => ?_, ?_, by lia, by lia⟩
        · rw [List.map_append, eps, List.take_add_one, List.getElem?_eq_getElem hi2]; rfl
        · rw [tdatR_map, List.map_append, <- tdatR_map]
          exact (IsDts.mono ((hn4.tups ex6).trans (Tups.new hq _)) ips).append (.one (isDt_new hq (.cons (by rw [IsDt]) (.one it))))
        · rcases List.mem_append.mp hq' with h | h
          · exact hps q' h
          · rw [List.mem_singleton.mp h]; exact qg
        · rw [nqR_snoc]
          simp only [Int.natCast_add]
          lia
      · refine .inl ⟨⟨_, SqL.of hl4, by rw [List.length_map]; lia⟩, fun l9 hl9 => ?_⟩
        have i2y : i2 = ys.length := by lia
        rw [List.take_of_length_le (by lia)] at eps
        refine ⟨l9, _, rfl, .inl ⟨SqL.of upd_same, fun t1 ht1 => ⟨(by show 2 <= sizeLine; decide), fun t2 ht2 => ?_⟩⟩⟩
        have ip1 : IsDt (upd (upd H4 l9 (.lst zs)) t1 (.tup zs)) (.tup (tdatR ps)) (.ref t1) := isDt_new ht1 (IsDts.mono (Tups.new hl9 _) ips)
        refine fin (.row ps) _ _ kk (QG.mono (show 2 * e + 1 + 1 <= _ by lia) (QG.row (by lia) (fun q hq => ?_) hps)) (by rw [nq_row]; simp only [Int.natCast_add]; lia) (by lia) ?_ ?_ (ex4.trans ((ex_new hl9).trans ((ex_new ht1).trans (ex_new ht2)))) (((hn4.new hl9).new ht1).new ht2)
        · have : q.1 ∈ ys := by rw [<- eps]; exact List.mem_map.mpr ⟨q, hq, rfl⟩
          exact hyn _ this
        · have a0 := Ad_lt (show 0 < d by lia)
          rcases hk2 with z | ⟨z1, z2⟩
          · right; lia
          · have := hsz z1
            have al := Ad_lt he
            right; lia
        · rw [tdat]
          exact isDt_new ht2 (.cons (by rw [IsDt]) (.one ip1))
    · refine ⟨_, rfl, .inl ⟨rfl, _, rfl, iteP e1 ?_⟩⟩
      refine .inl ⟨_, rfl, p, c, cs, some (k + 1), rfl, hn6, fun lf ys H3 hy14 hyn ex7 hn7 hlf hLf => ⟨lf, rfl, ⟨_, SqL.of hLf⟩, ?_⟩⟩
      obtain ⟨e, he, hsz, ea, y14⟩ : ∃ e : Nat, e < d /\ (1 <= e -> ys.length <= 6) /\ (dd : Int) - 1 = e /\ ys.length <= 14 := ⟨dd - 1, by lia, fun _ => hy14, by lia, by lia⟩
      have exB : Ex p H H3 := exC.trans ex7
      have nlf : lf ≠ p := fun z => by
        obtain ⟨_, _, _, _, a, _⟩ := hn7
        rw [z, a.at_] at hLf; cases hLf
      refine ⟨fun i2 m2 zs H4 => m2 + i2 = ys.length /\ Ex p H H4 /\ H4 lf = some (.lst (ys.map V.str)) /\ ∃ (ps : List (Str × Tr)) (kk : Int), Hn H4 p c cs (some kk) /\ ps.map (·.1) = ys.take i2 /\ IsDts H4 (tdatR ps) zs /\ (∀ q ∈ ps, QG (2 * e + 1) false q.2) /\ (nqR ps : Int) <= kk - (k + 1) /\ k + 1 <= kk /\ (kk <= k + 1 + i2 \/ (1 <= e /\ kk <= Ad e + i2)),
        ⟨_, by rw [Nat.add_zero], exB, hLf, [], k + 1, hn7, by simp, by rw [tdatR]; exact .nil, (fun q hq => (nomatch hq)), by rw [nqR]; simp, by lia, by simp⟩, ?_⟩
      rintro i2 m2 zs H4 ⟨hm2, ex4, hl4, ps, kk, hn4, eps, ips, hps, hts, hk1, hk2⟩
      have lps : ps.length = min i2 ys.length := by have := congrArg List.length eps; simpa using this
      have lzs : zs.length = ps.length := by rw [ips.length, tdatR_map, List.length_map]
      refine ⟨line1 (by lia), ?_⟩
      by_cases hi2 : i2 < ys.length
      · have hyi : (ys.map V.str)[i2]? = some (.str ys[i2]) := by simp [hi2]
        refine .inr ⟨⟨_, _, SqL.of hl4, hyi⟩, fun z x H5 hy2 => ?_⟩
        obtain ⟨rfl, hx5⟩ := hy2
        obtain rfl : V.str ys[i2] = x := by have := hx5 _ (SqL.of hl4); rw [hyi] at this; injection this
        refine gall ?_
        refine ⟨_, rfl, _, rfl, _, rfl, _, _, rfl, rfl, e, he, p, c, cs, kk, arg_eq (by lia), hn4, fun t v H6 k' qg ts kk1 kk2 it ex6 hn6' => ⟨(by show 2 <= sizeLine; decide), fun q hq => ?_⟩⟩
        have l6 := ex6 lf _ nlf hl4
        refine ⟨m2 - 1, by lia, by lia, ex4.trans (ex6.trans (ex_new hq)), by rw [upd_ne (ne_of_none l6 hq)]; exact l6, ps ++ [(ys[i2], t)], k', hn6'.new hq, ?_, ?_, fun q' hq' => ?_, ?_, by lia, by lia⟩
        · rw [List.map_append, eps, List.take_add_one, List.getElem?_eq_getElem hi2]; rfl
        · rw [tdatR_map, List.map_append, <- tdatR_map]
          exact (IsDts.mono ((hn4.tups ex6).trans (Tups.new hq _)) ips).append (.one (isDt_new hq (.cons (by rw [IsDt]) (.one it))))
        · rcases List.mem_append.mp hq' with h | h
          · exact hps q' h
          · rw [List.mem_singleton.mp h]; exact qg
        · rw [nqR_snoc]
          simp only [Int.natCast_add]
          lia
      · refine .inl ⟨⟨_, SqL.of hl4, by rw [List.length_map]; lia⟩, fun l9 hl9 => ?_⟩
        have i2y : i2 = ys.length := by lia
        rw [List.take_of_length_le (by lia)] at eps
        refine ⟨l9, _, rfl, .inl ⟨SqL.of upd_same, fun t1 ht1 => ⟨(by show 2 <= sizeLine; decide), fun t2 ht2 => ?_⟩⟩⟩
        have ip1 : IsDt (upd (upd H4 l9 (.lst zs)) t1 (.tup zs)) (.tup (tdatR ps)) (.ref t1) := isDt_new ht1 (IsDts.mono (Tups.new hl9 _) ips)
        refine fin (.row ps) _ _ kk (QG.mono (show 2 * e + 1 + 1 <= _ by lia) (QG.row (by lia) (fun q hq => ?_) hps)) (by rw [nq_row]; simp only [Int.natCast_add]; lia) (by lia) ?_ ?_ (ex4.trans ((ex_new hl9).trans ((ex_new ht1).trans (ex_new ht2)))) (((hn4.new hl9).new ht1).new ht2)
        · have : q.1 ∈ ys := by rw [<- eps]; exact List.mem_map.mpr ⟨q, hq, rfl⟩
          exact hyn _ this
        · have a0 := Ad_lt (show 0 < d by lia)
          rcases hk2 with z | ⟨z1, z2⟩
          · right; lia
          · have := hsz z1
            have al := Ad_lt he
            right; lia
        · rw [tdat]
          exact isDt_new ht2 (.cons (by rw [IsDt]) (.one ip1))
  refine ⟨_, rfl, .inl ⟨rfl, _, rfl, iteN e1 ?_⟩⟩
  refine ⟨_, rfl, .inl ⟨rfl, _, rfl, ?_⟩⟩
  refine ite2 (fun e2 => ?_) (fun e2 => ?_)
  · refine ⟨_, rfl, p, c, cs, some (k + 1), rfl, hn2, fun x H2 hx ex5 hn5 => ?_⟩
    refine ⟨_, rfl, _, rfl, _, _, rfl, rfl, dd - 1, by lia, p, c, cs, k + 1, arg_eq (by lia), hn5, fun t v H3 k' qg ts kk1 kk2 it ex6 hn6 => ⟨(by show 3 <= sizeLine; decide), fun q hq => ?_⟩⟩
    refine fin (.node (Str.ofString "at") [.txt x] [t]) _ _ k' (QG.mono (show 2 * (dd - 1) + 1 + 1 <= _ by lia) (.at hx qg)) (Int.le_trans (Int.ofNat_le.mpr (nq_le _ _ _)) (by simp; lia)) (by lia) (by lia) ?_ (exA.trans (ex5.trans (ex6.trans (ex_new hq)))) (hn6.new hq)
    rw [tdat, tdatL, tdatL]
    exact isDt_new hq (.cons (by rw [IsDt]) (.cons (by show IsDt _ (.str x) _; rw [IsDt]) (.one it)))
  refine ⟨_, rfl, .inl ⟨rfl, _, rfl, ?_⟩⟩
  refine ite2 (fun e3 => ?_) (fun e3 => ?_)
  · refine ⟨_, rfl, p, c, cs, some (k + 1), rfl, hn2, fun x H2 hx ex5 hn5 => ?_⟩
    refine ⟨_, rfl, _, rfl, _, _, rfl, rfl, dd - 1, by lia, p, c, cs, k + 1, arg_eq (by lia), hn5, fun t v H3 k' qg ts kk1 kk2 it ex6 hn6 => ⟨(by show 3 <= sizeLine; decide), fun q hq => ?_⟩⟩
    refine fin (.node (Str.ofString "times") [.int x] [t]) _ _ k' (QG.mono (show 2 * (dd - 1) + 1 + 1 <= _ by lia) (.times hx qg)) (Int.le_trans (Int.ofNat_le.mpr (nq_le _ _ _)) (by simp; lia)) (by lia) (by lia) ?_ (exA.trans (ex5.trans (ex6.trans (ex_new hq)))) (hn6.new hq)
    rw [tdat, tdatL, tdatL]
    exact isDt_new hq (.cons (by rw [IsDt]) (.cons (by show IsDt _ (.int x) _; rw [IsDt]) (.one it)))
  refine ⟨_, rfl, .inl ⟨rfl, _, rfl, ?_⟩⟩
  refine ite2 (fun e4 => ?_) (fun e4 => ?_)
  · refine ⟨_, rfl, _, rfl, _, _, rfl, rfl, dd - 1, by lia, p, c, cs, k + 1, arg_eq (by lia), hn2, fun t v H3 k' qg ts kk1 kk2 it ex6 hn6 => ⟨(by show 2 <= sizeLine; decide), fun q hq => ?_⟩⟩
    refine fin (.node (Str.ofString "one") [] [t]) _ _ k' (QG.mono (show 2 * (dd - 1) + 1 + 1 <= _ by lia) (.one qg)) (Int.le_trans (Int.ofNat_le.mpr (nq_le _ _ _)) (by simp; lia)) (by lia) (by lia) ?_ (exA.trans (ex6.trans (ex_new hq))) (hn6.new hq)
    rw [tdat, tdatL, tdatL]
    exact isDt_new hq (.cons (by rw [IsDt]) (.one it))
  refine ⟨_, rfl, .inl ⟨rfl, _, rfl, ?_⟩⟩
  refine ite2 (fun e5 => ?_) (fun e5 => ?_)
  · refine ⟨_, rfl, _, rfl, _, _, rfl, rfl, dd - 1, by lia, p, c, cs, k + 1, arg_eq (by lia), hn2, fun t v H3 k' qg ts kk1 kk2 it ex6 hn6 => ?_⟩
    refine ⟨_, rfl, _, rfl, _, _, rfl, rfl, dd - 1, by lia, p, c, cs, k', arg_eq (by lia), hn6, fun t2 v2 H4 k2 qg2 ts2 kk3 kk4 it2 ex7 hn7 => ⟨(by show 3 <= sizeLine; decide), fun q hq => ?_⟩⟩
    refine fin (.node (Str.ofString "when") [] [t, t2]) _ _ k2 (QG.mono (show 2 * (dd - 1) + 2 + 1 <= _ by lia) (.when qg (qg2.mono (by lia)))) (Int.le_trans (Int.ofNat_le.mpr (nq_le _ _ _)) (by simp; lia)) (by lia) (by lia) ?_ (exA.trans (ex6.trans (ex7.trans (ex_new hq)))) (hn7.new hq)
    rw [tdat, tdatL, tdatL, tdatL]
    exact isDt_new hq (.cons (by rw [IsDt]) (.cons (IsDt.mono (hn6.tups ex7) it) (.one it2)))
  have bnd : ∀ (wf : wd = Str.ofString "for" \/ wd = Str.ofString "let") (x : Str) (t t2 : Tr) (v v2 : V) (k' k2 : Int) (H3 H4 H5 : Hp) (q : Addr), x.length <= 10 -> QG (2 * (dd - 1) + 1) false t -> (nq t : Int) <= (k' - (k + 1)) -> k + 1 + 1 <= k' -> (k' <= k + 1 + 1 \/ (1 <= dd - 1 /\ k' <= Ad (dd - 1))) -> IsDt H4 (tdat t) v -> QG (2 * (dd - 1) + 1) false t2 -> (nq t2 : Int) <= (k2 - k') -> k' + 1 <= k2 -> (k2 <= k' + 1 \/ (1 <= dd - 1 /\ k2 <= Ad (dd - 1))) -> IsDt H5 (tdat t2) v2 ->
      Hn H4 p c cs (some k') -> Ex p H H5 -> Ex p H4 H5 -> Hn H5 p c cs (some k2) -> H5 q = none -> Q (.ref q) (upd H5 q (.tup [.str wd, .str x, v, v2])) := by
    intro wf x t t2 v v2 k' k2 H3 H4 H5 q hx qg ts kk1 kk2 it qg2 ts2 kk3 kk4 it2 hn4 exH ex45 hn5 hq
    refine fin (.node wd [.txt x] [t, t2]) _ _ k2 (QG.mono (show 2 * (dd - 1) + 1 + 1 <= _ by lia) (.bind wf hx qg qg2)) (Int.le_trans (Int.ofNat_le.mpr (nq_le _ _ _)) (by simp; lia)) (by lia) (by lia) ?_ (exH.trans (ex_new hq)) (hn5.new hq)
    rw [tdat, tdatL, tdatL, tdatL]
    exact isDt_new hq (.cons (by rw [IsDt]) (.cons (by show IsDt _ (.str x) _; rw [IsDt]) (.cons (IsDt.mono (hn4.tups ex45) it) (.one it2))))
  refine ⟨_, rfl, .inl ⟨rfl, _, rfl, ?_⟩⟩
  refine ite2 (fun e7 => iteT ?_) (fun e7 => ?_)
  · refine ⟨_, rfl, _, rfl, p, c, cs, some (k + 1), rfl, hn2, fun x H2 hx ex5 hn5 => ?_⟩
    refine ⟨_, rfl, _, rfl, _, _, rfl, rfl, dd - 1, by lia, p, c, cs, k + 1, arg_eq (by lia), hn5, fun t v H3 k' qg ts kk1 kk2 it ex6 hn6 => ?_⟩
    refine ⟨_, rfl, _, rfl, _, _, rfl, rfl, dd - 1, by lia, p, c, cs, k', arg_eq (by lia), hn6, fun t2 v2 H4 k2 qg2 ts2 kk3 kk4 it2 ex7 hn7 => ⟨(by show 4 <= sizeLine; decide), fun q hq => ?_⟩⟩
    exact bnd (.inl (vs_eq e7)) x t t2 v v2 k' k2 H3 H3 H4 q hx qg ts kk1 kk2 it qg2 ts2 kk3 kk4 it2 hn6 (exA.trans (ex5.trans (ex6.trans ex7))) ex7 hn7 hq
  refine ⟨_, rfl, .inl ⟨rfl, _, rfl, ?_⟩⟩
  refine ite2 (fun e8 => ?_) (fun e8 => ?_)
  · refine ⟨_, rfl, _, rfl, p, c, cs, some (k + 1), rfl, hn2, fun x H2 hx ex5 hn5 => ?_⟩
    refine ⟨_, rfl, _, rfl, _, _, rfl, rfl, dd - 1, by lia, p, c, cs, k + 1, arg_eq (by lia), hn5, fun t v H3 k' qg ts kk1 kk2 it ex6 hn6 => ?_⟩
    refine ⟨_, rfl, _, rfl, _, _, rfl, rfl, dd - 1, by lia, p, c, cs, k', arg_eq (by lia), hn6, fun t2 v2 H4 k2 qg2 ts2 kk3 kk4 it2 ex7 hn7 => ⟨(by show 4 <= sizeLine; decide), fun q hq => ?_⟩⟩
    exact bnd (.inr (vs_eq e8)) x t t2 v v2 k' k2 H3 H3 H4 q hx qg ts kk1 kk2 it qg2 ts2 kk3 kk4 it2 hn6 (exA.trans (ex5.trans (ex6.trans ex7))) ex7 hn7 hq
  have ew : wd = Str.ofString "add" \/ wd = Str.ofString "mul" \/ wd = Str.ofString "both" := by
    unfold W12 at h12
    simp only [List.mem_cons, List.not_mem_nil, or_false] at h12
    rcases h12 with rfl | rfl | rfl | rfl | rfl | rfl | rfl | rfl | rfl | rfl | rfl | rfl
    · exact absurd veq e1
    · exact absurd veq e2
    · exact .inl rfl
    · exact .inr (.inl rfl)
    · exact absurd veq e4
    · exact .inr (.inr rfl)
    · exact absurd veq e3
    · exact absurd veq e7
    · exact absurd veq e5
    · exact absurd veq e8
    · exact absurd veq e7
    · exact absurd veq e5
  refine ⟨_, rfl, _, rfl, _, rfl, _, _, rfl, rfl, dd - 1, by lia, p, c, cs, k + 1, arg_eq (by lia), hn2, fun t v H3 k' qg ts kk1 kk2 it ex6 hn6 => ?_⟩
  refine ⟨_, rfl, _, rfl, _, _, rfl, rfl, dd - 1, by lia, p, c, cs, k', arg_eq (by lia), hn6, fun t2 v2 H4 k2 qg2 ts2 kk3 kk4 it2 ex7 hn7 => ⟨(by show 3 <= sizeLine; decide), fun q hq => ?_⟩⟩
  refine fin (.node wd [] [t, t2]) _ _ k2 (QG.mono (show 2 * (dd - 1) + 1 + 1 <= _ by lia) (.two ew qg qg2)) (Int.le_trans (Int.ofNat_le.mpr (nq_le _ _ _)) (by simp; lia)) (by lia) (by lia) ?_ (exA.trans (ex6.trans (ex7.trans (ex_new hq)))) (hn7.new hq)
  rw [tdat, tdatL, tdatL, tdatL]
  exact isDt_new hq (.cons (by rw [IsDt]) (.cons (IsDt.mono (hn6.tups ex7) it) (.one it2)))
theorem any_all (T : Tx mg) (D__law_any : Df K mg "_law_any" (top 17) f_any fd_any ["hand", "deep"]) (D__law_any_claim : Df K mg "_law_any_claim" (top 15) f_claim fd_claim ["hand", "deep"])
    (D__law_draw : Df K mg "_law_draw" (top 9) f_draw fd_draw ["hand", "limit"]) (G__law_draw : FnOk P w K mg base CX0 1 f_draw fd_draw ["hand", "limit"] spDraw)
    (D__law_any_leaf : Df K mg "_law_any_leaf" (top 16) f_leaf fd_leaf ["hand", "word"]) (G__law_any_leaf : FnOk P w K mg base CX0 7 f_leaf fd_leaf ["hand", "word"] spLeaf)
    (D__law_number : Df K mg "_law_number" (top 11) f_num fd_num ["hand"]) (G__law_number : FnOk P w K mg base CX0 2 f_num fd_num ["hand"] spNumber)
    (D__law_name : Df K mg "_law_name" (top 10) f_name fd_name ["hand"]) (G__law_name : FnOk P w K mg base CX0 2 f_name fd_name ["hand"] spName)
    (D__law_fields : Df K mg "_law_fields" (top 12) f_flds fd_flds ["hand"]) (G__law_fields : FnOk P w K mg base CX0 3 f_flds fd_flds ["hand"] (spNames 6))
    (D__law_many_fields : Df K mg "_law_many_fields" (top 13) f_many fd_many ["hand"]) (G__law_many_fields : FnOk P w K mg base CX0 2 f_many fd_many ["hand"] (spNames 14)) :
    ∀ d : Nat, FnOk P w K mg base CX0 (8 + 2 * d) f_any fd_any ["hand", "deep"] (spAny d) /\ FnOk P w K mg base CX0 (9 + 2 * d) f_claim fd_claim ["hand", "deep"] (spClaim d) := fun d => by
  induction d using Nat.strongRecOn with
  | ind d ih =>
    have ha : FnOk P w K mg base CX0 (7 + 2 * d + 1) f_any fd_any ["hand", "deep"] (spAny d) := ok_any (j := 7 + 2 * d) (by lia) T D__law_any (fnOk_lt fun e he => (ih e he).1.mono (by lia)) D__law_any_claim (fnOk_lt fun e he => (ih e he).2.mono (by lia)) D__law_draw G__law_draw D__law_any_leaf G__law_any_leaf D__law_number G__law_number D__law_name G__law_name D__law_fields G__law_fields D__law_many_fields G__law_many_fields
    have hc : FnOk P w K mg base CX0 (8 + 2 * d + 1) f_claim fd_claim ["hand", "deep"] (spClaim d) := ok_claim (j := 8 + 2 * d) (by lia) T D__law_any_claim (fnOk_lt fun e he => (ih e he).2.mono (by lia)) D__law_draw G__law_draw D__law_any (fnOk_lt fun e he => by
      by_cases z : e < d
      · exact (ih e z).1.mono (by lia)
      · have : e = d := by lia
        subst this
        exact ha.mono (by lia))
    exact ⟨ha.mono (by lia), hc.mono (by lia)⟩
end
end K14
end
section
namespace K14
open PySem L2 Kn
theorem tall {σ : St} {H : Hp} {A B : Hp -> Prop} (h : A H) : tAll σ H fun b H3 => if b = true then A H3 else B H3 := by
  show (if true = true then A H else B H)
  rw [if_pos rfl]; exact h
section
variable {P : Program} {w : World} {K : PySem.W.Frag} {mg : Str -> Option Value} {base : Heap} {f f_draw f_any f_parts f_unf : Addr} {fd fd_draw fd_any fd_parts fd_unf : FuncData}
theorem sc__law_drawn : FnScope ["hand"] ["hand"] (defScope (top 18)) := ⟨rfl, rfl, rfl, by decide +kernel, rfl, by decide +kernel, by decide +kernel⟩
noncomputable def spDrawn : Sp := fun vs H Q _ => ∃ (p c : Addr) (cs : List Int) (kn : Option Int), vs = [.ref p] /\ Hn H p c cs kn /\
  ∀ (t : Tr) (v : V) (H' : Hp) (k' : Int), QG 15 false t -> nq t <= 100 -> IsDt H' (tdat t) v -> Ex p H H' -> Hn H' p c cs (some k') -> Q v H'
theorem ok_drawn (T : Tx mg) (D : Df K mg "_law_drawn" (top 18) f fd ["hand"]) (D__law_draw : Df K mg "_law_draw" (top 9) f_draw fd_draw ["hand", "limit"]) (G__law_draw : FnOk P w K mg base CX0 1 f_draw fd_draw ["hand", "limit"] spDraw)
    (D__law_any : Df K mg "_law_any" (top 17) f_any fd_any ["hand", "deep"]) (G__law_any : FnOk P w K mg base CX0 22 f_any fd_any ["hand", "deep"] (fun vs H Q E => ∃ e, e < 8 /\ spAny e vs H Q E)) :
    FnOk P w K mg base CX0 23 f fd ["hand"] spDrawn := by
  refine D.fn.okH (k := 22) sc__law_drawn (fun vs H Q E h => ?_) (fun cdv A outer s H vs Q E hr h => ?_)
  · obtain ⟨p, c, cs, kn, rfl, _⟩ := h; rfl
  obtain ⟨p, c, cs, kn, rfl, ⟨n, r, t, kvs, h0, hk0⟩, fin⟩ := h
  have hu := u110 hr
  have hu0 := u0 hr
  have hu1 := hu_of hr
  refine ⟨_, (wss_cons (ws_asg we_int (wg_sub (wv 0) we_str (set_U hu1)))
      (wss_one (ws_ret (we_call G__law_any (hr.mono (by lia)) rfl D__law_any.mg D__law_any.kp D__law_any.b .nil pass0 (wa_cons (wv 0) (wa_cons (we_call G__law_draw (hr.mono (by lia)) rfl D__law_draw.mg D__law_draw.kp D__law_draw.b .nil pass0 (wa_cons (wv 0) (wa_cons we_int wa_nil))) wa_nil)))))), ?_⟩
  have h1 := h0.putK' 0 (by
    cases kn with
    | none => exact .inr (hk0 rfl)
    | some _ => exact .inl (by simp))
  have hn1 : Hn (upd H p (.dK (putK kvs kyK (.int 0)))) p c cs (some 0) := ⟨_, _, _, _, h1, fun z => nomatch z⟩
  refine ⟨_, rfl, .inr ⟨p, _, rfl, DPut.k (k := kyK) h0.at_ (pl h0), ?_⟩⟩
  refine ⟨_, rfl, _, rfl, p, c, cs, some 0, _, rfl, hn1, by decide, by decide, fun x H1 x0 x1 ex1 hn2 => ?_⟩
  refine ⟨x.toNat, by lia, p, c, cs, 0, arg_eq (by lia), hn2, fun t v H2 k' qg ts kk1 kk2 it ex2 hn3 => ?_⟩
  have al := Ad_le (show x.toNat <= 7 by lia)
  have a7 : Ad 7 = 96 := rfl
  exact fin t v H2 k' (qg.mono (by lia)) (by lia) it ((ex_upd).trans (ex1.trans ex2)) hn3
end
theorem tr_row {H : Hp} {ps : List (Str × Tr)} {v : V} (h : IsDt H (tdat (.row ps)) v) : ∃ a b ys, v = .ref a /\ H a = some (.tup [.str "row", .ref b]) /\ H b = some (.tup ys) /\ IsDts H (tdatR ps) ys := by
  rw [tdat, IsDt] at h
  obtain ⟨a, xs, rfl, h1, h2⟩ := h
  rw [IsDts] at h2
  obtain ⟨y1, r1, rfl, h3, h4⟩ := h2
  rw [IsDts] at h4
  obtain ⟨y2, r2, rfl, h5, h6⟩ := h4
  rw [IsDts] at h6
  subst h6
  rw [IsDt] at h3
  subst h3
  rw [IsDt] at h5
  obtain ⟨b, ys, rfl, h7, h8⟩ := h5
  exact ⟨a, b, ys, rfl, h1, h7, h8⟩
theorem tr_item {H : Hp} {ps : List (Str × Tr)} {ys : List V} {i : Nat} {y : V} (h : IsDts H (tdatR ps) ys) (e : ys[i]? = some y) : ∃ p c u, ps[i]? = some p /\ y = .ref c /\ H c = some (.tup [.str p.1, u]) /\ IsDt H (tdat p.2) u := by
  have hl := h.length
  have hi : i < ys.length := (List.getElem?_eq_some_iff.mp e).1
  have hp : i < ps.length := by rw [tdatR_map, List.length_map] at hl; lia
  obtain ⟨z, e1, d1⟩ := h.get (i := i) (d := .tup [.str ps[i].1, tdat ps[i].2]) (by rw [tdatR_map, List.getElem?_map, List.getElem?_eq_getElem hp]; rfl)
  rw [e] at e1
  cases e1
  rw [IsDt] at d1
  obtain ⟨c, xs, rfl, h1, h2⟩ := d1
  rw [IsDts] at h2
  obtain ⟨y1, r1, rfl, h3, h4⟩ := h2
  rw [IsDts] at h4
  obtain ⟨y2, r2, rfl, h5, h6⟩ := h4
  rw [IsDts] at h6
  subst h6
  rw [IsDt] at h3
  subst h3
  exact ⟨ps[i], c, y2, List.getElem?_eq_getElem hp, rfl, h1, h5⟩
noncomputable def atV : At -> V
  | .int i => .int i
  | .txt s => .str s
theorem isDt_at {H : Hp} {a : At} {u : V} (h : IsDt H (atD a) u) : u = atV a := by
  cases a with
  | int i => rw [atD, IsDt] at h; exact h
  | txt s => rw [atD, IsDt] at h; exact h
theorem isDts_ats {H : Hp} : ∀ (as : List At) (ds : List Dt) (xs : List V), IsDts H (as.map atD ++ ds) xs -> ∃ zs, xs = as.map atV ++ zs /\ IsDts H ds zs
  | [], ds, xs, h => ⟨xs, rfl, h⟩
  | a :: as, ds, xs, h => by
    rw [List.map_cons, List.cons_append, IsDts] at h
    obtain ⟨y, r, rfl, h1, h2⟩ := h
    obtain ⟨zs, e, h3⟩ := isDts_ats as ds r h2
    exact ⟨zs, by rw [isDt_at h1, e]; rfl, h3⟩
theorem tr_node {H : Hp} {w : Str} {as : List At} {ps : List Tr} {v : V} (h : IsDt H (tdat (.node w as ps)) v) : ∃ a zs, v = .ref a /\ H a = some (.tup (.str w :: (as.map atV ++ zs))) /\ IsDts H (ps.map tdat) zs := by
  rw [tdat, IsDt] at h
  obtain ⟨a, xs, rfl, h1, h2⟩ := h
  rw [IsDts] at h2
  obtain ⟨y1, r1, rfl, h3, h4⟩ := h2
  rw [IsDt] at h3
  subst h3
  obtain ⟨zs, rfl, h5⟩ := isDts_ats as _ r1 h4
  rw [tdatL_map] at h5
  exact ⟨a, zs, rfl, h1, h5⟩
theorem isDts_one {H : Hp} {d : Dt} {zs : List V} (h : IsDts H [d] zs) : ∃ u, zs = [u] /\ IsDt H d u := by
  rw [IsDts] at h
  obtain ⟨y, r, rfl, h1, h2⟩ := h
  rw [IsDts] at h2
  subst h2
  exact ⟨y, rfl, h1⟩
theorem isDts_nil' {H : Hp} {zs : List V} (h : IsDts H [] zs) : zs = [] := by rw [IsDts] at h; exact h
theorem inV_str (w : Str) : ∀ l : List Str, inV (.str w) (l.map V.str) = true ↔ w ∈ l
  | [] => by simp [inV]
  | x :: l => by
    have ih := inV_str w l
    unfold inV at ih ⊢
    rw [List.map_cons, List.any_cons, Bool.or_eq_true, ih, List.mem_cons]
    show (x == w) = true \/ _ ↔ _
    rw [beq_iff_eq]
    exact ⟨fun h => h.elim (fun e => .inl e.symm) .inr, fun h => h.elim (fun e => .inl e.symm) .inr⟩
theorem flat_strs (l : List Str) : (l.map V.str).all flatV = true := by rw [List.all_map]; exact List.all_eq_true.mpr fun _ _ => rfl
theorem cutN {xs : List V} {k : Nat} : cutV xs (some (k : Int)) none = xs.drop k := by
  unfold cutV
  rw [HT.sIx_nat, show HT.sIx xs.length xs.length none = xs.length from rfl]
  rw [List.take_of_length_le (by rw [List.length_drop]; lia)]
  by_cases h : k <= xs.length
  · rw [Nat.min_eq_left h]
  · rw [List.drop_of_length_le (by lia), List.drop_of_length_le (by lia)]
theorem ncutN {xs : List V} {k : Nat} (h : 0 < k) (h2 : 0 < xs.length) : ¬ (HT.sIx xs.length 0 (some (k : Int)) = 0 /\ HT.sIx xs.length xs.length none = xs.length) := fun z => by
  rw [HT.sIx_nat] at z; lia
section
variable {P : Program} {w : World} {K : PySem.W.Frag} {mg : Str -> Option Value} {base : Heap} {f : Addr} {fd : FuncData} {aH : Addr}
theorem sc_under : FnScope ["question"] ["question"] (defScope (top 2)) := ⟨rfl, rfl, rfl, by decide +kernel, rfl, by decide +kernel, by decide +kernel⟩
noncomputable def spUnder : Sp := fun vs H Q _ => ∃ (v : V) (t : Tr) (d : Nat), vs = [v] /\ IsDt H (tdat t) v /\ TH d t /\
  ∀ (a : Addr) (us : List V) (H' : Hp), Same H H' -> H' a = some (.tup us) -> IsDts H' ((kids t).map tdat) us -> Q (.ref a) H'
theorem ok_under (T : Tx mg) (g_HAVE_MORE : mg "HAVE_MORE" = some (.ref aH)) (hHM : ∀ H, SqT K H aH (HM.map V.str)) (D : Df K mg "under" (top 2) f fd ["question"]) : FnOk P w K mg base CX0 1 f fd ["question"] spUnder := by
  refine D.fn.okH sc_under (fun vs H Q E h => ?_) (fun cdv A outer s H vs Q E hr h => ?_)
  · obtain ⟨v, t, d, rfl, _⟩ := h; rfl
  obtain ⟨v, t, d, rfl, hx, th, fin⟩ := h
  have hu := u110 hr
  have hu0 := u0 hr
  have hu1 := hu_of hr
  refine ⟨_, (wss_cons (ws_if (wt_cmpR (op_eqU hu) (we_ix (ix_U hu1) (wv 0) we_int (fun _ _ => rfl)) we_str (nomark _)) (wss_one (ws_ret (we_callTy call_tuple_of rfl T.z_tuple bt_tuple (wa_cons (we_lc (Nt := ["field", "part"]) (fr := []) (LcOk.of (sc := defScope (top 2)) (N := ["question"]) rfl rfl (by decide +kernel)) rfl (wi_U (we_ix (ix_U hu1) (wv 0) we_int (fun _ _ => rfl))) (fun z => wg_tup rfl (wgs_cons (wg_name (i := 0) (by show (["field", "part"] : List Str).Nodup; decide +kernel) rfl (Or.inl rfl) (.inr rfl)) (wgs_cons (wg_name (i := 1) (by show (["field", "part"] : List Str).Nodup; decide +kernel) rfl (Or.inl rfl) (.inr rfl)) wgs_nil))) (fun z => tgt_two (by decide) (by decide)) (fun z => wif_nil) (fun z => (wv 1))) wa_nil)))) wss_nil)
      (wss_one (ws_ret (we_ifExp (wt_cmpR (op_inU hu) (we_ix (ix_U hu1) (wv 0) we_int (fun _ _ => rfl)) (we_glob rfl g_HAVE_MORE (relv_ref _)) (by with_unfolding_all rfl)) (we_slice sl_U (wv 0) (wo_some we_int) wo_none) (we_slice sl_U (wv 0) (wo_some we_int) wo_none))))), ?_⟩
  cases t with
  | row ps =>
    have hl6 : ps.length <= 14 := by cases th with | row hl h => exact hl
    obtain ⟨a, b, ys, rfl, ha, hb, hys⟩ := tr_row hx
    have ly : ys.length = ps.length := by rw [hys.length, tdatR_map, List.length_map]
    refine ⟨_, rfl, .inr (.inl ⟨a, _, 0, .str "row", rfl, rfl, SqT.of ha, rfl, .inl ⟨rfl, _, rfl, iteP veq ?_⟩⟩)⟩
    refine .inr ⟨_, rfl, .inr (.inl ⟨a, _, 1, .ref b, rfl, rfl, SqT.of ha, rfl, b, rfl, ⟨ys, SqT.of hb⟩, ?_⟩)⟩
    refine ⟨fun i2 m2 zs H2 => H2 = H /\ m2 + i2 = ps.length /\ IsDts H (((ps.map (·.2)).take i2).map tdat) zs, ⟨ps.length, rfl, rfl, by rw [List.take_zero]; exact .nil⟩, ?_⟩
    rintro i2 m2 zs H2 ⟨rfl, hm2, iz⟩
    have lz := iz.length
    rw [List.length_map, List.length_take, List.length_map] at lz
    refine ⟨line1 (by lia), ?_⟩
    by_cases hi2 : i2 < ps.length
    · have hyi : ys[i2]? = some ys[i2] := List.getElem?_eq_getElem (by lia)
      refine .inr ⟨⟨_, _, SqT.of hb, hyi⟩, fun z x H5 hy2 => ?_⟩
      obtain ⟨rfl, hx5⟩ := hy2
      obtain rfl : ys[i2] = x := by have := hx5 _ (SqT.of hb); rw [hyi] at this; injection this
      obtain ⟨p, c, u, hp, ey, hc, hu'⟩ := tr_item hys hyi
      rw [ey]
      refine ⟨c, _, rfl, SqT.of hc, rfl, _, _, rfl, _, _, rfl, rfl, ?_⟩
      refine tall ?_
      refine ⟨_, rfl, m2 - 1, by lia, rfl, by lia, ?_⟩
      rw [List.take_add_one, List.getElem?_map, hp, List.map_append]
      exact iz.append (.one hu')
    · refine .inl ⟨⟨_, SqT.of hb, by lia⟩, fun l2 hl2 => ?_⟩
      rw [List.take_of_length_le (by rw [List.length_map]; lia)] at iz
      refine ⟨l2, _, rfl, .inl ⟨SqL.of upd_same, fun t1 ht1 => ?_⟩⟩
      exact fin t1 zs _ ((same_new hl2 _).trans (same_new ht1 _)) upd_same (IsDts.mono ((same_new hl2 _).trans (same_new ht1 _)).tups iz)
  | node wd as ps =>
    obtain ⟨a, zs, rfl, ha, hzs⟩ := tr_node hx
    have hw : wd ≠ Str.ofString "row" := by
      cases th with
      | num => decide +kernel
      | atom hw => rintro rfl; revert hw; decide +kernel
      | none => decide +kernel
      | times h => decide +kernel
      | «at» h => decide +kernel
      | bind hw h1 h2 => rcases hw with rfl | rfl <;> decide +kernel
      | plain hw hr hl h => exact hr
    refine ⟨_, rfl, .inr (.inl ⟨a, _, 0, .str wd, rfl, rfl, SqT.of ha, (show atI (V.str wd :: (as.map atV ++ zs)) ((0 : Nat) : Int) = _ from atI_nat rfl), .inl ⟨rfl, _, rfl, iteN (vne hw) ?_⟩⟩)⟩
    refine ⟨_, rfl, .inr (.inl ⟨a, _, 0, .str wd, rfl, rfl, SqT.of ha, (show atI (V.str wd :: (as.map atV ++ zs)) ((0 : Nat) : Int) = _ from atI_nat rfl), .inl ⟨aH, _, rfl, .inr (hHM H), rfl, flat_strs HM, _, rfl, ?_⟩⟩)⟩
    have key : ∀ k : Nat, (k = 1 \/ k = 2) -> IsDts H ((kids (.node wd as ps)).map tdat) ((V.str wd :: (as.map atV ++ zs)).drop k) -> ∀ q, H q = none -> Q (.ref q) (upd H q (.tup (cutV (V.str wd :: (as.map atV ++ zs)) (some (k : Int)) none))) := fun k _ hk q hq => by
      rw [cutN]
      exact fin q _ _ (same_new hq _) upd_same (IsDts.mono (same_new hq _).tups hk)
    refine ite2 (fun e => ?_) (fun e => ?_)
    · have hm : wd ∈ HM := (inV_str wd HM).mp e
      refine ⟨_, rfl, _, rfl, .inr (.inl ⟨a, _, rfl, SqT.of ha, ncutN (k := 2) (by decide) (by simp), fun q hq => key 2 (.inr rfl) ?_ q hq⟩)⟩
      cases th with
      | num =>
        have e0 := isDts_nil' hzs
        subst e0
        rw [kids_node]; split <;> exact .nil
      | atom hw =>
        have e0 := isDts_nil' hzs
        subst e0
        rw [kids_node]; split <;> exact .nil
      | none => rw [kids_node, if_pos rfl]; obtain ⟨u, rfl, _⟩ := isDts_one hzs; exact .nil
      | times h => rw [kids_ne _ _ (by decide +kernel)]; exact hzs
      | «at» h => rw [kids_ne _ _ (by decide +kernel)]; exact hzs
      | bind hw2 h1 h2 => rw [kids_ne _ _ (by rcases hw2 with rfl | rfl <;> decide +kernel)]; exact hzs
      | plain hw2 hr2 hl h => exact absurd hm hw2
    · have hm : wd ∉ HM := fun z => e ((inV_str wd HM).mpr z)
      refine ⟨_, rfl, _, rfl, .inr (.inl ⟨a, _, rfl, SqT.of ha, ncutN (k := 1) (by decide) (by simp), fun q hq => key 1 (.inl rfl) ?_ q hq⟩)⟩
      cases th with
      | num => exact absurd (by decide +kernel) hm
      | atom hw => exfalso; apply hm; revert hw; simp only [List.mem_cons, List.not_mem_nil, or_false, HM]; rintro (h | h | h) <;> simp [h]
      | none => exact absurd (by decide +kernel) hm
      | times h => exact absurd (by decide +kernel) hm
      | «at» h => exact absurd (by decide +kernel) hm
      | bind hw2 h1 h2 => exfalso; apply hm; rcases hw2 with rfl | rfl <;> decide +kernel
      | plain hw2 hr2 hl h =>
        have n0 : ¬ wd = Str.ofString "none" := by rintro rfl; exact hm (by decide +kernel)
        rw [kids_node, if_neg n0]; exact hzs
end
end K14
end
section
namespace K14
open PySem L2 Kn
theorem same_back {H H' : Hp} (s : Same H H') {l : Addr} (h : H' l = none) : H l = none := by
  cases e : H l with
  | none => rfl
  | some u => rw [s _ _ e] at h; cases h
theorem ixt {K : PySem.W.Frag} {a : Addr} {xs : List V} {i : Int} {v : V} {H : Hp} {Q : VK} (h : SqT K H a xs) (e : atI xs i = some v) (k : Q v H) : rIxL K (.ref a) (.int i) H Q \/ (rIxT K (.ref a) (.int i) H Q \/ (rIxS (.ref a) (.int i) H Q \/ rIxD (.ref a) (.int i) H Q)) := .inr (.inl ⟨a, xs, i, v, rfl, rfl, h, e, k⟩)
theorem wh_hideD {Nx : St -> Hp -> Prop} {tb : TS} {D : Ends} {σ : St} {H : Hp} (b : ∀ E : Ends, (∀ σ H, Nx σ H -> E.nx σ H) -> (∀ v H, D.rt v H -> E.rt v H) -> tb E σ H) : ∃ N : St -> Hp -> Prop, (∀ σ' H', N σ' H' -> Nx σ' H') /\ tb { D with nx := N, ct := N, bk := D.nx } σ H := ⟨Nx, fun _ _ h => h, b _ (fun _ _ h => h) (fun _ _ h => h)⟩
theorem for_hide {go : Prop} {Nx : St -> Hp -> Prop} {J : It} {i : Nat} {σ : St} {H : Hp} {g : TG} {tb : TS} {D : Ends} (g0 : go) (M : St -> Hp -> Prop) (hM : ∀ σ H, M σ H -> Nx σ H) (b : ∀ E : Ends, (∀ σ H, M σ H -> E.nx σ H) -> (∀ v H, D.rt v H -> E.rt v H) -> ∀ x H', J.yld i H x H' -> g x σ H' fun σ2 H2 => tb E σ2 H2) :
    go /\ ∃ N : St -> Hp -> Prop, (∀ σ' H', N σ' H' -> Nx σ' H') /\ ∀ x H', J.yld i H x H' -> g x σ H' fun σ2 H2 => tb { D with nx := N, ct := N, bk := D.nx } σ2 H2 := ⟨g0, M, hM, b _ (fun _ _ h => h) (fun _ _ h => h)⟩
noncomputable def wT : Tr -> Str
  | .row _ => Str.ofString "row"
  | .node w _ _ => w
theorem t_at {H : Hp} {t : Tr} {u : V} (h : IsDt H (tdat t) u) : ∃ a xs, u = .ref a /\ H a = some (.tup (.str (wT t) :: xs)) := by
  cases t with
  | row ps => obtain ⟨a, b, ys, rfl, ha, _⟩ := tr_row h; exact ⟨a, _, rfl, ha⟩
  | node w as ps => obtain ⟨a, zs, rfl, ha, _⟩ := tr_node h; exact ⟨a, _, rfl, ha⟩
theorem at0 {x : V} {xs : List V} : atI (x :: xs) 0 = some x := (show atI (x :: xs) ((0 : Nat) : Int) = _ from atI_nat rfl)
theorem at1 {x y : V} {xs : List V} : atI (x :: y :: xs) 1 = some y := (show atI (x :: y :: xs) ((1 : Nat) : Int) = _ from atI_nat rfl)
theorem t_txt {H : Hp} {w s : Str} {ps : List Tr} {u : V} (h : IsDt H (tdat (.node w [.txt s] ps)) u) : ∃ a zs, u = .ref a /\ H a = some (.tup (.str w :: .str s :: zs)) := by
  obtain ⟨a, zs, rfl, ha, _⟩ := tr_node h
  exact ⟨a, zs, rfl, ha⟩
theorem th_table {d : Nat} {t : Tr} (h : TH d t) (e : wT t = Str.ofString "table") : ∃ s, t = .node (Str.ofString "table") [.txt s] [] := by
  cases h with
  | num => (simp only [wT] at e; exact absurd e (by decide +kernel))
  | atom hw => simp only [wT] at e; subst e; exact ⟨_, rfl⟩
  | none => (simp only [wT] at e; exact absurd e (by decide +kernel))
  | row hl h => (simp only [wT] at e; exact absurd e (by decide +kernel))
  | times h => (simp only [wT] at e; exact absurd e (by decide +kernel))
  | «at» h => (simp only [wT] at e; exact absurd e (by decide +kernel))
  | bind hw _ _ => rcases hw with rfl | rfl <;> (simp only [wT] at e; exact absurd e (by decide +kernel))
  | plain hw hr hl h => (simp only [wT] at e; exact absurd (by rw [e]; decide +kernel) hw)
theorem th_var {d : Nat} {t : Tr} (h : TH d t) (e : wT t = Str.ofString "var") : ∃ s, t = .node (Str.ofString "var") [.txt s] [] := by
  cases h with
  | num => (simp only [wT] at e; exact absurd e (by decide +kernel))
  | atom hw => simp only [wT] at e; subst e; exact ⟨_, rfl⟩
  | none => (simp only [wT] at e; exact absurd e (by decide +kernel))
  | row hl h => (simp only [wT] at e; exact absurd e (by decide +kernel))
  | times h => (simp only [wT] at e; exact absurd e (by decide +kernel))
  | «at» h => (simp only [wT] at e; exact absurd e (by decide +kernel))
  | bind hw _ _ => rcases hw with rfl | rfl <;> (simp only [wT] at e; exact absurd e (by decide +kernel))
  | plain hw hr hl h => (simp only [wT] at e; exact absurd (by rw [e]; decide +kernel) hw)
theorem th_bind {d : Nat} {t : Tr} (h : TH d t) (e : wT t = Str.ofString "for" \/ wT t = Str.ofString "let") : ∃ w s q r, t = .node w [.txt s] [q, r] /\ (w = Str.ofString "for" \/ w = Str.ofString "let") := by
  cases h with
  | num => (simp only [wT] at e; exact absurd e (by decide +kernel))
  | atom hw => exfalso; simp only [wT] at e; rcases e with e | e <;> subst e <;> revert hw <;> decide +kernel
  | none => (simp only [wT] at e; exact absurd e (by decide +kernel))
  | row hl h => (simp only [wT] at e; exact absurd e (by decide +kernel))
  | times h => (simp only [wT] at e; exact absurd e (by decide +kernel))
  | «at» h => (simp only [wT] at e; exact absurd e (by decide +kernel))
  | bind hw _ _ => exact ⟨_, _, _, _, rfl, hw⟩
  | plain hw hr hl h =>
    simp only [wT] at e
    exact absurd (by rcases e with e | e <;> rw [e] <;> decide +kernel) hw
theorem isDts_snoc {H : Hp} : ∀ {ds : List Dt} {d : Dt} {xs : List V}, IsDts H (ds ++ [d]) xs -> ∃ ys y, xs = ys ++ [y] /\ IsDts H ds ys /\ IsDt H d y
  | [], d, xs, h => by
    rw [List.nil_append, IsDts] at h
    obtain ⟨y, r, rfl, h1, h2⟩ := h
    rw [IsDts] at h2
    subst h2
    exact ⟨[], y, rfl, .nil, h1⟩
  | e :: ds, d, xs, h => by
    rw [List.cons_append, IsDts] at h
    obtain ⟨y, r, rfl, h1, h2⟩ := h
    obtain ⟨ys, z, rfl, h3, h4⟩ := isDts_snoc h2
    exact ⟨y :: ys, z, rfl, .cons h1 h3, h4⟩
noncomputable def tabN (x : Str) : Tr := .node (Str.ofString "table") [.txt x] []
section
variable {P : Program} {w : World} {K : PySem.W.Frag} {mg : Str -> Option Value} {base : Heap} {f f_under f_knots f_bound : Addr} {fd fd_under fd_knots fd_bound : FuncData}
theorem sc_knots : FnScope ["question", "found", "waiting", "part"] ["question"] (defScope (top 3)) := ⟨rfl, rfl, rfl, by decide +kernel, rfl, by decide +kernel, by decide +kernel⟩
noncomputable def spKnots : Sp := fun vs H Q _ => ∃ (v : V) (t : Tr), vs = [v] /\ IsDt H (tdat t) v /\ TH 60 t /\ nq t <= 1000 /\
  ∀ (p : Addr) (us : List V) (ts : List Tr) (H' : Hp), Same H H' -> H p = none -> H' p = some (.lst us) -> IsDts H' (ts.map tdat) us -> (∀ q ∈ ts, TH 60 q) -> (∀ x, Tb x t ↔ tabN x ∈ ts) -> ts.length <= 1000 -> Q (.ref p) H'
theorem ok_knots (T : Tx mg) (D : Df K mg "knots" (top 3) f fd ["question"]) (D_under : Df K mg "under" (top 2) f_under fd_under ["question"]) (G_under : FnOk P w K mg base CX0 1 f_under fd_under ["question"] spUnder) : FnOk P w K mg base CX0 2 f fd ["question"] spKnots := by
  refine D.fn.okH (k := 1) sc_knots (fun vs H Q E h => ?_) (fun cdv A outer s H vs Q E hr h => ?_)
  · obtain ⟨v, t, rfl, _⟩ := h; rfl
  obtain ⟨v, t0, rfl, hx, th, n2, fin⟩ := h
  have hu := u110 hr
  have hu0 := u0 hr
  have hu1 := hu_of hr
  refine ⟨_, (wss_cons (ws_set (i := 1) sc_knots.nd rfl (Or.inl rfl) (we_lst wa_nil))
      (wss_cons (ws_set (i := 2) sc_knots.nd rfl (Or.inl rfl) (we_lst (wa_cons (wv 0) wa_nil)))
      (wss_cons (ws_while PassesOwn.never (wt_truth (wv 2) (fun _ => rfl)) (wss_cons (ws_set (i := 3) sc_knots.nd rfl (Or.inl rfl) (we_bm0 PySem.F.plainAttrs_list PySem.F.slot_list_pop PySem.F.type_list_pop mt_pop (wv 2)))
      (wss_cons (ws_expr (we_bm PySem.F.plainAttrs_list PySem.F.slot_list_append PySem.F.type_list_append mt_append (wv 1) (wa_cons (wv 3) wa_nil)))
      (wss_one (ws_expr (we_bm PySem.F.plainAttrs_list PySem.F.slot_list_extend PySem.F.type_list_extend mt_extendU (wv 2) (wa_cons (we_call G_under (hr.mono (by lia)) rfl D_under.mg D_under.kp D_under.b .nil pass0 (wa_cons (wv 3) wa_nil)) wa_nil)))))))
      (wss_one (ws_ret (wv 1)))))), ?_⟩
  obtain ⟨X', gX'⟩ : ∃ X', X' = (cxOf CX0 P w K mg base ["question", "found", "waiting", "part"] "knots" (defScope (top 3)) f cdv A outer s H E).nox := ⟨_, rfl⟩
  try rw [<- gX']
  clear gX'
  refine ⟨(by show 0 <= sizeLine; decide), fun p hp => ?_⟩
  refine ⟨_, rfl, (by show 1 <= sizeLine; decide), fun l hl => ?_⟩
  have sA := (same_new hp (.lst [])).trans (same_new hl (.lst [v]))
  have hpA : (upd (upd H p (.lst [])) l (.lst [v])) p = some (.lst []) := same_new hl _ _ _ upd_same
  have hlA : (upd (upd H p (.lst [])) l (.lst [v])) l = some (.lst [v]) := upd_same
  have hlH : H l = none := same_back (same_new hp (.lst [])) hl
  have npl : p ≠ l := fun z => by rw [z, upd_same] at hl; cases hl
  generalize upd (upd H p (.lst [])) l (.lst [v]) = H1 at sA hpA hlA ⊢
  refine ⟨fun m σ H' => ∃ (ts ws : List Tr) (us zs : List V) (o3 : Option V), σ = [some v, some (.ref p), some (.ref l), o3] /\ Same H H' /\ H' p = some (.lst us) /\ H' l = some (.lst zs) /\ IsDts H' (ts.map tdat) us /\ IsDts H' (ws.map tdat) zs /\ (∀ q ∈ ts, TH 60 q) /\ (∀ q ∈ ws, TH 60 q) /\ (∀ x, Tb x t0 ↔ tabN x ∈ ts \/ ∃ q ∈ ws, Tb x q) /\ m = (ws.map nq).sum /\ ts.length + (ws.map nq).sum <= 1000,
    ⟨_, [], [t0], [], [v], none, rfl, sA, hpA, hlA, .nil, .one (IsDt.mono sA.tups hx), (fun q hq => nomatch hq), fun q hq => by rw [List.mem_singleton.mp hq]; exact th, fun x => by simp, rfl, by simp; lia⟩, ?_⟩
  rintro m σ H2 ⟨ts, ws, us, zs, o3, rfl, s2, hp2, hl2, iu, iz, tht, thw, mem, rfl, ln⟩
  refine ⟨_, rfl, _, .inl ⟨zs, SqL.of hl2, rfl⟩, ?_⟩
  have lus : us.length = ts.length := by rw [iu.length, List.length_map]
  have lzs : zs.length = ws.length := by rw [iz.length, List.length_map]
  have lws := len_nq ws
  rcases List.eq_nil_or_concat ws with rfl | ⟨rest, t, ews⟩
  · obtain rfl := isDts_nil' iz
    refine iteF ?_
    refine ⟨_, rfl, fin p us ts H2 s2 hp hp2 iu tht (fun x => (mem x).trans ?_) (by simpa using ln)⟩
    simp
  · rw [List.concat_eq_append] at ews
    subst ews
    rw [List.map_append] at iz
    obtain ⟨ys, y, rfl, iys, iy⟩ := isDts_snoc iz
    refine iteP (by simp) ?_
    refine wh_hideD fun E' toN _ => ?_
    have tht' := thw t (by simp)
    refine ⟨_, rfl, .inl ⟨rfl, _, SqL.of hl2⟩, l, ys ++ [y], y, rfl, rfl, hl2, by simp, ?_⟩
    rw [List.dropLast_concat]
    have s3 : Same H (upd H2 l (.lst ys)) := fun b o e => by rw [upd_ne (ne_of_none e hlH)]; exact s2 b o e
    have t3 : Tups H2 (upd H2 l (.lst ys)) := Tups.lst hl2
    have hp3 : (upd H2 l (.lst ys)) p = some (.lst us) := by rw [upd_ne npl]; exact hp2
    have hl3 : (upd H2 l (.lst ys)) l = some (.lst ys) := upd_same
    generalize upd H2 l (.lst ys) = H3 at s3 t3 hp3 hl3 ⊢
    have sm : ((rest ++ [t]).map nq).sum = (rest.map nq).sum + nq t := by rw [List.map_append, List.sum_append]; simp
    have kq := nq_kids t
    have kl := tht'.len
    have lr := len_nq rest
    have lys : ys.length = rest.length := by rw [iys.length, List.length_map]
    refine ⟨_, rfl, .inl ⟨rfl, _, SqL.of hp3⟩, _, rfl, p, _, _, rfl, rfl, hp3, line1 (by lia), ?_⟩
    have s4 : Same H (upd H3 p (.lst (us ++ [y]))) := fun b o e => by rw [upd_ne (ne_of_none e hp)]; exact s3 b o e
    have t4 : Tups H3 (upd H3 p (.lst (us ++ [y]))) := Tups.lst hp3
    have hp4 : (upd H3 p (.lst (us ++ [y]))) p = some (.lst (us ++ [y])) := upd_same
    have hl4 : (upd H3 p (.lst (us ++ [y]))) l = some (.lst ys) := by rw [upd_ne (Ne.symm npl)]; exact hl3
    generalize upd H3 p (.lst (us ++ [y])) = H4 at s4 t4 hp4 hl4 ⊢
    have t24 := t3.trans t4
    refine ⟨_, rfl, .inl ⟨rfl, _, SqL.of hl4⟩, _, rfl, y, t, 60, rfl, IsDt.mono t24 iy, tht', fun a ks H5 s5 ha ik => .inr ⟨l, a, _, _, rfl, rfl, s5 _ _ hl4, ha, ?_, ?_⟩⟩
    · have : ks.length <= 14 := by rw [ik.length, List.length_map]; exact kl
      exact Nat.le_of_lt (line1 (by lia))
    have t6 : Tups H5 (upd H5 l (.lst (ys ++ ks))) := Tups.lst (s5 _ _ hl4)
    have t26 := (t24.trans s5.tups).trans t6
    refine toN _ _ ⟨((rest ++ kids t).map nq).sum, by rw [List.map_append, List.sum_append, sm]; lia, ts ++ [t], rest ++ kids t, us ++ [y], ys ++ ks, _, rfl, fun b o e => by rw [upd_ne (ne_of_none e hlH)]; exact s5 _ _ (s4 b o e), by rw [upd_ne npl]; exact s5 _ _ hp4, upd_same, ?_, ?_, fun q hq => ?_, fun q hq => ?_, fun x => ?_, rfl, by rw [List.map_append, List.sum_append, List.length_append]; show ts.length + 1 + _ <= _; lia⟩
    · rw [List.map_append]; exact (IsDts.mono t26 iu).append (.one (IsDt.mono t26 iy))
    · rw [List.map_append]; exact (IsDts.mono t26 iys).append (IsDts.mono t6 ik)
    · rcases List.mem_append.mp hq with h | h
      · exact tht q h
      · rw [List.mem_singleton.mp h]; exact tht'
    · rcases List.mem_append.mp hq with h | h
      · exact thw q (List.mem_append_left _ h)
      · obtain ⟨e, he, hq'⟩ := tht'.sub q h
        exact hq'.mono (by lia)
    · rw [mem]
      constructor
      · rintro (h | ⟨q, hq, h⟩)
        · exact .inl (List.mem_append_left _ h)
        · rcases List.mem_append.mp hq with z | z
          · exact .inr ⟨q, List.mem_append_left _ z, h⟩
          · rw [List.mem_singleton.mp z] at h
            rcases Tb.iff.mp h with rfl | ⟨i, k, e, h⟩
            · exact .inl (List.mem_append_right _ (List.mem_singleton.mpr rfl))
            · exact .inr ⟨k, List.mem_append_right _ (List.mem_of_getElem? e), h⟩
      · rintro (h | ⟨q, hq, h⟩)
        · rcases List.mem_append.mp h with z | z
          · exact .inl z
          · exact .inr ⟨t, by simp, by rw [<- List.mem_singleton.mp z]; exact .here⟩
        · rcases List.mem_append.mp hq with z | z
          · exact .inr ⟨q, List.mem_append_left _ z, h⟩
          · obtain ⟨i, hi⟩ := List.mem_iff_getElem?.mp z
            exact .inr ⟨t, by simp, .kid hi h⟩
end
end K14
end
section
namespace K14
open PySem L2 Kn
open PyProof.Rows (sortedS)
theorem vs_str {x y : Str} (h : decide (V.str x = V.str y) = true) : x = y := by have := of_decide_eq_true h; injection this
theorem vs_ne {x y : Str} (h : ¬ decide (V.str x = V.str y) = true) : x ≠ y := fun z => h (decide_eq_true (by rw [z]))
noncomputable def varN (x : Str) : Tr := .node (Str.ofString "var") [.txt x] []
noncomputable def wD (p : Tr × List Str) : Dt := .tup [tdat p.1, .tup (p.2.map Dt.str)]
theorem dts_strs {H : Hp} : ∀ {l : List Str} {us : List V}, IsDts H (l.map Dt.str) us -> us = l.map V.str
  | [], us, h => by rw [List.map_nil, IsDts] at h; exact h
  | x :: l, us, h => by
    rw [List.map_cons, IsDts] at h
    obtain ⟨y, r, rfl, h1, h2⟩ := h
    rw [IsDt] at h1
    rw [h1, dts_strs h2]; rfl
theorem strs_isDts {H : Hp} (l : List Str) : IsDts H (l.map Dt.str) (l.map V.str) := by
  induction l with
  | nil => exact .nil
  | cons x l ih => exact .cons (isDt_str _) ih
theorem bnd_node (w s : Str) (q r : Tr) (h : w = Str.ofString "for" \/ w = Str.ofString "let") : bnd (.node w [.txt s] [q, r]) 1 = [s] := by
  show (if _ then _ else _) = _
  rw [if_pos h]
theorem bnd_no {t : Tr} {i : Nat} (h : ¬ ((wT t = Str.ofString "for" \/ wT t = Str.ofString "let") /\ i = 1)) : bnd t i = [] := by
  unfold bnd
  split
  · rename_i w s ps
    exact if_neg fun z => h ⟨z, rfl⟩
  · rfl
section
variable {P : Program} {w : World} {K : PySem.W.Frag} {mg : Str -> Option Value} {base : Heap} {f f_under f_knots f_bound : Addr} {fd fd_under fd_knots fd_bound : FuncData}
theorem sc_tables : FnScope ["question"] ["question"] (defScope (top 4)) := ⟨rfl, rfl, rfl, by decide +kernel, rfl, by decide +kernel, by decide +kernel⟩
noncomputable def OutS (R : Str -> Prop) (H : Hp) (Q : VK) : Prop := ∀ (q : Addr) (ys : List Str) (H' : Hp), Same H H' -> H q = none -> H' q = some (.lst (ys.map V.str)) -> ys.Nodup -> sortedS ys = true -> (∀ x, x ∈ ys ↔ R x) -> ys.length <= 1000 -> Q (.ref q) H'
noncomputable def spTables : Sp := fun vs H Q _ => ∃ (v : V) (t : Tr), vs = [v] /\ IsDt H (tdat t) v /\ TH 60 t /\ nq t <= 1000 /\ OutS (fun x => Tb x t) H Q
theorem ok_tables (T : Tx mg) (D : Df K mg "tables" (top 4) f fd ["question"]) (D_knots : Df K mg "knots" (top 3) f_knots fd_knots ["question"]) (G_knots : FnOk P w K mg base CX0 2 f_knots fd_knots ["question"] spKnots) : FnOk P w K mg base CX0 3 f fd ["question"] spTables := by
  refine D.fn.okH (k := 2) sc_tables (fun vs H Q E h => ?_) (fun cdv A outer s H vs Q E hr h => ?_)
  · obtain ⟨v, t, rfl, _⟩ := h; rfl
  obtain ⟨v, t, rfl, hx, th, n2, fin⟩ := h
  have hu := u110 hr
  have hu0 := u0 hr
  have hu1 := hu_of hr
  refine ⟨_, (wss_one (ws_ret (we_ssL rfl rfl T.z_sorted rfl T.z_set (we_lc (Nt := ["knot"]) (fr := []) (LcOk.of (sc := defScope (top 4)) (N := ["question"]) rfl rfl (by decide +kernel)) rfl (wi_U (we_call G_knots (hr.mono (by lia)) rfl D_knots.mg D_knots.kp D_knots.b .nil pass0 (wa_cons (wv 0) wa_nil))) (fun z => wg_name (i := 0) (by show (["knot"] : List Str).Nodup; decide +kernel) rfl (Or.inl rfl) (.inr rfl)) (fun z => tgt_name (by decide)) (fun z => wif_one (wt_cmpR (op_eqU hu) (we_ix (ix_U hu1) (wv 0) we_int (fun _ _ => rfl)) we_str (nomark _))) (fun z => (we_ix (ix_U hu1) (wv 0) we_int (fun _ _ => rfl))))))), ?_⟩
  obtain ⟨X', gX'⟩ : ∃ X', X' = (cxOf CX0 P w K mg base ["question"] "tables" (defScope (top 4)) f cdv A outer s H E).nox := ⟨_, rfl⟩
  try rw [<- gX']
  clear gX'
  refine .inl ⟨_, rfl, v, t, rfl, hx, th, n2, fun p us ts H1 s1 hp hp1 iu tht mem lt => ⟨p, rfl, ⟨us, SqL.of hp1⟩, ?_⟩⟩
  have lus : us.length = ts.length := by rw [iu.length, List.length_map]
  refine ⟨fun i m zs H' => H' = H1 /\ m + i = ts.length /\ ∃ ns : List Str, zs = ns.map V.str /\ ns.length <= i /\ ∀ x, x ∈ ns ↔ tabN x ∈ ts.take i, ⟨ts.length, rfl, rfl, [], rfl, Nat.le_refl _, fun x => by simp⟩, ?_⟩
  rintro i m zs H2 ⟨rfl, hm, ns, rfl, ln, hns⟩
  refine ⟨line1 (by rw [List.length_map]; lia), ?_⟩
  by_cases hi : i < ts.length
  · obtain ⟨u, hu2, du⟩ := iu.get (i := i) (d := tdat ts[i]) (by rw [List.getElem?_map, List.getElem?_eq_getElem hi]; rfl)
    refine .inr ⟨⟨_, _, SqL.of hp1, hu2⟩, fun zc x H9 hy => ?_⟩
    obtain ⟨rfl, hx'⟩ := hy
    obtain rfl : u = x := by have := hx' _ (SqL.of hp1); rw [hu2] at this; injection this
    have tk : ts.take (i + 1) = ts.take i ++ [ts[i]] := by rw [List.take_add_one, List.getElem?_eq_getElem hi]; rfl
    have th' := tht _ (List.getElem_mem hi)
    generalize ts[i] = ti at *
    obtain ⟨a, xs, rfl, ha⟩ := t_at du
    refine ⟨_, rfl, ixt (SqT.of ha) at0 (.inl ⟨rfl, _, rfl, ?_⟩)⟩
    refine ite2 (fun e => ?_) (fun e => ?_)
    · obtain ⟨s', rfl⟩ := th_table th' (vs_str e)
      obtain ⟨a', zs', ea, ha'⟩ := t_txt du
      cases ea
      refine ⟨_, rfl, ixt (SqT.of ha') at1 ⟨m - 1, by lia, rfl, by lia, ns ++ [s'], by rw [List.map_append]; rfl, by rw [List.length_append]; show ns.length + 1 <= _; lia, fun x => ?_⟩⟩
      rw [tk, List.mem_append, List.mem_append, hns]
      refine or_congr Iff.rfl ?_
      rw [List.mem_singleton, List.mem_singleton]
      refine ⟨fun z => by rw [z]; rfl, fun z => ?_⟩
      unfold tabN at z
      injection z with _ z
      injection z with z
      injection z
    · refine ⟨m - 1, by lia, rfl, by lia, ns, rfl, by lia, fun x => ?_⟩
      rw [tk, List.mem_append, hns]
      refine ⟨fun z => .inl z, fun z => z.elim id fun z => ?_⟩
      exact absurd (by rw [<- List.mem_singleton.mp z]; rfl) (vs_ne e)
  · refine .inl ⟨⟨_, SqL.of hp1, by lia⟩, fun l hl => ⟨l, ns, rfl, upd_same, by lia, fun q ys hq nd mem' srt => ?_⟩⟩
    rw [List.take_of_length_le (by lia)] at hns
    have ly : ys.length <= ns.length := List.Nodup.length_le_of_subset nd fun y hy => (mem' y).mp hy
    exact fin q ys _ (s1.trans ((same_new hl _).trans (same_new hq _))) (same_back (s1.trans (same_new hl _)) hq) upd_same nd srt (fun x => by rw [mem', hns]; exact (mem x).symm) (by lia)
theorem sc_bound_in : FnScope ["question", "place"] ["question", "place"] (defScope (top 6)) := ⟨rfl, rfl, rfl, by decide +kernel, rfl, by decide +kernel, by decide +kernel⟩
noncomputable def spBound : Sp := fun vs H Q _ => ∃ (v : V) (t : Tr) (d i : Nat), vs = [v, .int i] /\ IsDt H (tdat t) v /\ TH d t /\ ∀ (a : Addr) (H' : Hp), Same H H' -> H' a = some (.tup ((bnd t i).map V.str)) -> Q (.ref a) H'
theorem ok_bound (T : Tx mg) (D : Df K mg "bound_in" (top 6) f fd ["question", "place"]) : FnOk P w K mg base CX0 1 f fd ["question", "place"] spBound := by
  refine D.fn.okH sc_bound_in (fun vs H Q E h => ?_) (fun cdv A outer s H vs Q E hr h => ?_)
  · obtain ⟨v, t, d, i, rfl, _⟩ := h; rfl
  obtain ⟨v, t, d, i, rfl, hx, th, fin⟩ := h
  have hu := u110 hr
  have hu0 := u0 hr
  have hu1 := hu_of hr
  refine ⟨_, (wss_cons (ws_if (wt_pw (ww_and (wt_cmpR (op_inU hu) (we_ix (ix_U hu1) (wv 0) we_int (fun _ _ => rfl)) (we_tup (wa_consts rfl)) (by with_unfolding_all rfl)) (ww_and1 (wt_cmpR (op_eqU hu) (wv 1) we_int (nomark _))))) (wss_one (ws_ret (we_tup (wa_cons (we_ix (ix_U hu1) (wv 0) we_int (fun _ _ => rfl)) wa_nil)))) wss_nil)
      (wss_one (ws_ret (we_tup wa_nil)))), ?_⟩
  obtain ⟨X', gX'⟩ : ∃ X', X' = (cxOf CX0 P w K mg base ["question", "place"] "bound_in" (defScope (top 6)) f cdv A outer s H E).nox := ⟨_, rfl⟩
  try rw [<- gX']
  clear gX'
  obtain ⟨a, xs, rfl, ha⟩ := t_at hx
  refine ⟨_, rfl, ixt (SqT.of ha) at0 ⟨(by show 2 <= sizeLine; decide), fun c hc => .inl ⟨c, [.str "for", .str "let"], rfl, .inr (SqT.of upd_same), rfl, rfl, _, rfl, ?_⟩⟩⟩
  have s1 := same_new hc (.tup [V.str "for", .str "let"])
  generalize upd H c (.tup [V.str "for", .str "let"]) = H1 at s1 ⊢
  have no : bnd t i = [] -> ∀ q, H1 q = none -> Q (.ref q) (upd H1 q (.tup [])) := fun e q hq => fin q _ (s1.trans (same_new hq _)) (by rw [e]; exact upd_same)
  refine ite2 (fun e => ?_) (fun e => ?_)
  · have e' : wT t = Str.ofString "for" \/ wT t = Str.ofString "let" := by
      have := (inV_str (wT t) [Str.ofString "for", Str.ofString "let"]).mp e
      simpa using this
    refine ⟨_, rfl, .inl ⟨rfl, _, rfl, ?_⟩⟩
    refine ite2 (fun e2 => ?_) (fun e2 => ?_)
    · have hi : i = 1 := by have := of_decide_eq_true e2; injection this with this; lia
      obtain ⟨w', s', q, r, rfl, hw⟩ := th_bind th e'
      obtain ⟨a', zs, ea, ha'⟩ := t_txt hx
      cases ea
      refine ⟨_, rfl, ixt (SqT.of (s1 _ _ ha')) at1 ⟨(by show 1 <= sizeLine; decide), fun p hp => fin p _ (s1.trans (same_new hp _)) ?_⟩⟩
      rw [hi, bnd_node _ _ _ _ hw]
      exact upd_same
    · exact ⟨(by show 0 <= sizeLine; decide), no (bnd_no fun z => e2 (decide_eq_true (by rw [z.2]; rfl)))⟩
  · exact ⟨(by show 0 <= sizeLine; decide), no (bnd_no fun z => e ((inV_str (wT t) [Str.ofString "for", Str.ofString "let"]).mpr (by simpa using z.1)))⟩
end
end K14
end
section
namespace K14
open PySem L2 Kn
open PyProof.Rows (sortedS)
theorem dt_two {H : Hp} {a b : Dt} {v : V} (h : IsDt H (.tup [a, b]) v) : ∃ c y z, v = .ref c /\ H c = some (.tup [y, z]) /\ IsDt H a y /\ IsDt H b z := by
  rw [IsDt] at h
  obtain ⟨c, xs, e, h1, h2⟩ := h
  rw [IsDts] at h2
  obtain ⟨y, ys, rfl, h3, h4⟩ := h2
  rw [IsDts] at h4
  obtain ⟨z, zs, rfl, h5, h6⟩ := h4
  rw [IsDts] at h6
  subst h6
  exact ⟨c, y, z, e, h1, h3, h5⟩
theorem wD_of {H : Hp} {t : Tr} {b : List Str} {v : V} (h : IsDt H (wD (t, b)) v) : ∃ c y z, v = .ref c /\ H c = some (.tup [y, .ref z]) /\ IsDt H (tdat t) y /\ H z = some (.tup (b.map V.str)) := by
  obtain ⟨c, y, z, e, h1, h2, h3⟩ := dt_two h
  rw [IsDt] at h3
  obtain ⟨z', us, rfl, h4, h5⟩ := h3
  rw [dts_strs h5] at h4
  exact ⟨c, y, z', e, h1, h2, h4⟩
noncomputable def kb (t : Tr) (b : List Str) (i : Nat) : List (Tr × List Str) := (List.range i).map fun j => ((kids t)[j]?.getD t, b ++ bnd t j)
theorem kb_succ {t : Tr} {b : List Str} {i : Nat} (h : i < (kids t).length) : kb t b (i + 1) = kb t b i ++ [((kids t)[i], b ++ bnd t i)] := by
  unfold kb
  rw [List.range_succ, List.map_append, List.map_cons, List.getElem?_eq_getElem h]; rfl
theorem kb_sum (t : Tr) (b : List Str) : ((kb t b (kids t).length).map fun q => nq q.1).sum = ((kids t).map nq).sum := by
  congr 1
  unfold kb
  rw [List.map_map]
  refine List.ext_getElem (by simp) fun i h1 h2 => ?_
  have hi : i < (kids t).length := by simpa using h1
  rw [List.getElem_map, List.getElem_range, List.getElem_map]
  show nq ((kids t)[i]?.getD t) = _
  rw [List.getElem?_eq_getElem hi]; rfl
theorem kb_mem {t : Tr} {b : List Str} {q : Tr × List Str} (h : q ∈ kb t b (kids t).length) : ∃ i : Nat, (kids t)[i]? = some q.1 /\ q.2 = b ++ bnd t i := by
  obtain ⟨i, hi, rfl⟩ := List.mem_map.mp h
  have hi' := List.mem_range.mp hi
  exact ⟨i, by rw [List.getElem?_eq_getElem hi']; rfl, rfl⟩
theorem mem_kb {t k : Tr} {b : List Str} {i : Nat} (h : (kids t)[i]? = some k) : (k, b ++ bnd t i) ∈ kb t b (kids t).length := by
  have hi := (List.getElem?_eq_some_iff.mp h).1
  exact List.mem_map.mpr ⟨i, List.mem_range.mpr hi, by rw [h]; rfl⟩
theorem bnd_len (t : Tr) (i : Nat) : (bnd t i).length <= 1 := by
  unfold bnd
  split
  · split <;> simp
  · simp
theorem nq_kid {t k : Tr} (h : k ∈ kids t) : nq k + 1 <= nq t := by
  rw [nq_kids t]
  have key : ∀ l : List Tr, k ∈ l -> nq k <= (l.map nq).sum := fun l => by
    induction l with
    | nil => intro h; cases h
    | cons a l ih =>
      intro h
      rw [List.map_cons, List.sum_cons]
      rcases List.mem_cons.mp h with rfl | h
      · lia
      · have := ih h; lia
  have := key _ h
  lia
theorem sum_len (l : List (Tr × List Str)) : l.length <= (l.map fun q => nq q.1).sum := by
  induction l with
  | nil => simp
  | cons t l ih => rw [List.map_cons, List.sum_cons, List.length_cons]; have := nq_pos t.1; lia
theorem join_seq {tt : TT} {a b u : TS} {D : Ends} {σ : St} {H : Hp} (I : St -> Hp -> Prop) (tail : ∀ σ H, I σ H -> u D σ H) (main : ∀ Kt : St -> Hp -> Prop, (∀ σ H, I σ H -> Kt σ H) -> tIfS tt a b { nx := Kt, rt := D.rt, bk := D.bk, ct := D.ct } σ H) : tSeq (tIfS tt a b) u D σ H := main _ tail
section
variable {P : Program} {w : World} {K : PySem.W.Frag} {mg : Str -> Option Value} {base : Heap} {f f_under f_bound : Addr} {fd fd_under fd_bound : FuncData}
theorem sc_free : FnScope ["question", "found", "waiting", "part", "bound", "place", "inner"] ["question"] (defScope (top 5)) := ⟨rfl, rfl, rfl, by decide +kernel, rfl, by decide +kernel, by decide +kernel⟩
noncomputable def spFree : Sp := fun vs H Q _ => ∃ (v : V) (t : Tr), vs = [v] /\ IsDt H (tdat t) v /\ TH 60 t /\ nq t <= 1000 /\ OutS (fun x => Fv x [] t) H Q
theorem ok_free (T : Tx mg) (D : Df K mg "free" (top 5) f fd ["question"]) (D_under : Df K mg "under" (top 2) f_under fd_under ["question"]) (G_under : FnOk P w K mg base CX0 1 f_under fd_under ["question"] spUnder)
    (D_bound_in : Df K mg "bound_in" (top 6) f_bound fd_bound ["question", "place"]) (G_bound_in : FnOk P w K mg base CX0 1 f_bound fd_bound ["question", "place"] spBound) : FnOk P w K mg base CX0 2 f fd ["question"] spFree := by
  refine D.fn.okH (k := 1) sc_free (fun vs H Q E h => ?_) (fun cdv A outer s H vs Q E hr h => ?_)
  · obtain ⟨v, t, rfl, _⟩ := h; rfl
  obtain ⟨v, t0, rfl, hx, th, n2, fin⟩ := h
  have hu := u110 hr
  have hu0 := u0 hr
  have hu1 := hu_of hr
  refine ⟨_, (wss_cons (ws_set (i := 1) sc_free.nd rfl (Or.inl rfl) (we_lst wa_nil))
      (wss_cons (ws_set (i := 2) sc_free.nd rfl (Or.inl rfl) (we_lst (wa_cons (we_tup (wa_cons (wv 0) (wa_cons (we_tup wa_nil) wa_nil))) wa_nil)))
      (wss_cons (ws_while PassesOwn.never (wt_truth (wv 2) (fun _ => rfl)) (wss_cons (ws_asg (we_bm0 PySem.F.plainAttrs_list PySem.F.slot_list_pop PySem.F.type_list_pop mt_pop (wv 2)) (wg_tup rfl (wgs_cons (wg_name (i := 3) sc_free.nd rfl (Or.inl rfl)) (wgs_cons (wg_name (i := 4) sc_free.nd rfl (Or.inl rfl)) wgs_nil))))
      (wss_cons (ws_if (wt_pw (ww_and (wt_cmpR (op_eqU hu) (we_ix (ix_U hu1) (wv 3) we_int (fun _ _ => rfl)) we_str (nomark _)) (ww_and1 (wt_cmpR (op_notInU hu) (we_ix (ix_U hu1) (wv 3) we_int (fun _ _ => rfl)) (wv 4) (by with_unfolding_all rfl))))) (wss_one (ws_expr (we_bm PySem.F.plainAttrs_list PySem.F.slot_list_append PySem.F.type_list_append mt_append (wv 1) (wa_cons (we_ix (ix_U hu1) (wv 3) we_int (fun _ _ => rfl)) wa_nil)))) wss_nil)
      (wss_one (ws_for PassesOwn.never rfl (wi_enumT rfl T.z_enumerate (wa_cons (we_call G_under (hr.mono (by lia)) rfl D_under.mg D_under.kp D_under.b .nil pass0 (wa_cons (wv 3) wa_nil)) wa_nil)) (wg_tup rfl (wgs_cons (wg_name (i := 5) sc_free.nd rfl (Or.inl rfl)) (wgs_cons (wg_name (i := 6) sc_free.nd rfl (Or.inl rfl)) wgs_nil))) (wss_one (ws_expr (we_bm PySem.F.plainAttrs_list PySem.F.slot_list_append PySem.F.type_list_append mt_append (wv 2) (wa_cons (we_tup (wa_cons (wv 6) (wa_cons (we_op op_plus (wv 4) (we_call G_bound_in (hr.mono (by lia)) rfl D_bound_in.mg D_bound_in.kp D_bound_in.b .nil pass0 (wa_cons (wv 3) (wa_cons (wv 5) wa_nil)))) wa_nil))) wa_nil)))))))))
      (wss_one (ws_ret (we_ssL rfl rfl T.z_sorted rfl T.z_set (wv 1))))))), ?_⟩
  obtain ⟨X', gX'⟩ : ∃ X', X' = (cxOf CX0 P w K mg base ["question", "found", "waiting", "part", "bound", "place", "inner"] "free" (defScope (top 5)) f cdv A outer s H E).nox := ⟨_, rfl⟩
  try rw [<- gX']
  clear gX'
  refine ⟨(by show 0 <= sizeLine; decide), fun p hp => ?_⟩
  refine ⟨_, rfl, (by show 0 <= sizeLine; decide), fun b0 hb0 => ⟨(by show 2 <= sizeLine; decide), fun t1 ht1 => ⟨(by show 1 <= sizeLine; decide), fun l hl => ?_⟩⟩⟩
  have sA := same_new hp (.lst [])
  have sB := sA.trans (same_new hb0 (.tup []))
  have sC := sB.trans (same_new ht1 (.tup [v, .ref b0]))
  have sD := sC.trans (same_new hl (.lst [.ref t1]))
  have hpD : (upd (upd (upd (upd H p (.lst [])) b0 (.tup [])) t1 (.tup [v, .ref b0])) l (.lst [.ref t1])) p = some (.lst []) := same_new hl _ _ _ (same_new ht1 _ _ _ (same_new hb0 _ _ _ upd_same))
  have hbD : (upd (upd (upd (upd H p (.lst [])) b0 (.tup [])) t1 (.tup [v, .ref b0])) l (.lst [.ref t1])) b0 = some (.tup []) := same_new hl _ _ _ (same_new ht1 _ _ _ upd_same)
  have htD : (upd (upd (upd (upd H p (.lst [])) b0 (.tup [])) t1 (.tup [v, .ref b0])) l (.lst [.ref t1])) t1 = some (.tup [v, .ref b0]) := same_new hl _ _ _ upd_same
  have hlD : (upd (upd (upd (upd H p (.lst [])) b0 (.tup [])) t1 (.tup [v, .ref b0])) l (.lst [.ref t1])) l = some (.lst [.ref t1]) := upd_same
  have hlH : H l = none := same_back sC hl
  generalize upd (upd (upd (upd H p (.lst [])) b0 (.tup [])) t1 (.tup [v, .ref b0])) l (.lst [.ref t1]) = H1 at sD hpD hbD htD hlD ⊢
  have npl : p ≠ l := fun z => by rw [z, hlD] at hpD; cases hpD
  refine ⟨fun m σ H' => ∃ (zs : List Str) (ws : List (Tr × List Str)) (us : List V) (o3 o4 o5 o6 : Option V), σ = [some v, some (.ref p), some (.ref l), o3, o4, o5, o6] /\ Same H H' /\ H' p = some (.lst (zs.map V.str)) /\ H' l = some (.lst us) /\ IsDts H' (ws.map wD) us /\ (∀ q ∈ ws, TH 60 q.1 /\ q.2.length + nq q.1 <= 1000) /\ (∀ x, Fv x [] t0 ↔ x ∈ zs \/ ∃ q ∈ ws, Fv x q.2 q.1) /\ m = (ws.map fun q => nq q.1).sum /\ zs.length + (ws.map fun q => nq q.1).sum <= 1000,
    ⟨_, [], [(t0, [])], [.ref t1], none, none, none, none, rfl, sD, hpD, hlD, .one (isDt_tup htD (.cons (IsDt.mono sD.tups hx) (.one (isDt_tup hbD .nil)))), fun q hq => by rw [List.mem_singleton.mp hq]; exact ⟨th, by simpa using n2⟩, fun x => by simp, rfl, by simpa using n2⟩, ?_⟩
  rintro m σ H2 ⟨zs, ws, us, o3, o4, o5, o6, rfl, s2, hP, hL, iw, okw, mem, rfl, ln⟩
  refine ⟨_, rfl, _, .inl ⟨us, SqL.of hL, rfl⟩, ?_⟩
  have lus : us.length = ws.length := by rw [iw.length, List.length_map]
  have lws := sum_len ws
  rcases List.eq_nil_or_concat ws with rfl | ⟨rest, ⟨t, b⟩, ews⟩
  · obtain rfl := isDts_nil' iw
    refine iteF ?_
    refine ⟨_, rfl, p, zs, rfl, hP, by simp at ln; lia, fun q ys hq nd mem' srt => ?_⟩
    have ly : ys.length <= zs.length := List.Nodup.length_le_of_subset nd fun y hy => (mem' y).mp hy
    exact fin q ys _ (s2.trans (same_new hq _)) (same_back s2 hq) upd_same nd srt (fun x => by rw [mem']; exact ⟨fun z => (mem x).mpr (.inl z), fun z => by simpa using (mem x).mp z⟩) (by simp at ln; lia)
  · rw [List.concat_eq_append] at ews
    subst ews
    rw [List.map_append] at iw
    obtain ⟨ys, y, rfl, iys, iy⟩ := isDts_snoc iw
    refine iteP (by simp) ?_
    refine wh_hideD fun E' toN _ => ?_
    obtain ⟨tht, lbt⟩ : TH 60 t /\ b.length + nq t <= 1000 := okw (t, b) (by simp)
    refine ⟨_, rfl, .inl ⟨rfl, _, SqL.of hL⟩, l, ys ++ [y], y, rfl, rfl, hL, by simp, ?_⟩
    rw [List.dropLast_concat]
    have s3 : Same H (upd H2 l (.lst ys)) := fun b o e => by rw [upd_ne (ne_of_none e hlH)]; exact s2 b o e
    have t3 : Tups H2 (upd H2 l (.lst ys)) := Tups.lst hL
    have hP3 : (upd H2 l (.lst ys)) p = some (.lst (zs.map V.str)) := by rw [upd_ne npl]; exact hP
    have hL3 : (upd H2 l (.lst ys)) l = some (.lst ys) := upd_same
    have iys3 := IsDts.mono t3 iys
    obtain ⟨c, y1, bt, rfl, hc3, it3, hb3⟩ := wD_of (IsDt.mono t3 iy)
    generalize upd H2 l (.lst ys) = H3 at s3 t3 hP3 hL3 iys3 hc3 it3 hb3 ⊢
    have sm : ((rest ++ [(t, b)]).map fun q => nq q.1).sum = (rest.map fun q => nq q.1).sum + nq t := by rw [List.map_append, List.sum_append]; simp
    have lbt' : b.length + nq t <= 1000 := lbt
    have ln' : zs.length + ((rest.map fun q => nq q.1).sum + nq t) <= 1000 := by rw [<- sm]; exact ln
    have kq := nq_kids t
    have kl := tht.len
    have lr := sum_len rest
    have lys : ys.length = rest.length := by rw [iys.length, List.length_map]
    refine ⟨c, _, rfl, SqT.of hc3, rfl, _, _, rfl, _, _, rfl, rfl, ?_⟩
    obtain ⟨a, xs, rfl, ha⟩ := t_at it3
    dsimp only
    refine join_seq (fun σ' H' => ∃ zs' : List Str, σ' = [some v, some (.ref p), some (.ref l), some (.ref a), some (.ref bt), o5, o6] /\ Same H H' /\ H' p = some (.lst (zs'.map V.str)) /\ H' l = some (.lst ys) /\ Tups H3 H' /\ zs'.length <= zs.length + 1 /\ ∀ x, x ∈ zs' ↔ x ∈ zs \/ (t = varN x /\ x ∉ b)) ?tl fun Kt tail => ?mn
    case mn =>
      have no : (∀ x, ¬ (t = varN x /\ x ∉ b)) -> ∀ H4, Same H3 H4 -> Kt [some v, some (.ref p), some (.ref l), some (.ref a), some (.ref bt), o5, o6] H4 := fun n H4 s4 => tail _ _ ⟨zs, rfl, s3.trans s4, s4 _ _ hP3, s4 _ _ hL3, s4.tups, by lia, fun x => ⟨.inl, fun z => z.elim id fun z => absurd z (n x)⟩⟩
      refine ⟨_, rfl, ixt (SqT.of ha) at0 (.inl ⟨rfl, _, rfl, ?_⟩)⟩
      refine ite2 (fun e => ?_) (fun e => no (fun x z => vs_ne e (by rw [z.1]; rfl)) H3 (.refl _))
      obtain ⟨x, rfl⟩ := th_var tht (vs_str e)
      obtain ⟨a', zz, ea, ha'⟩ := t_txt it3
      cases ea
      refine ⟨_, rfl, ixt (SqT.of ha') at1 ⟨_, rfl, .inl ⟨bt, b.map V.str, rfl, .inr (SqT.of hb3), rfl, flat_strs b, _, rfl, ?_⟩⟩⟩
      refine ite2 (fun e2 => ?_) (fun e2 => ?_)
      · have nb : x ∉ b := fun z => by
          have := (inV_str x b).mpr z
          rw [this] at e2
          revert e2; decide
        refine ⟨_, rfl, .inl ⟨rfl, _, SqL.of hP3⟩, _, rfl, ixt (SqT.of ha') at1 ⟨p, _, _, rfl, rfl, hP3, line1 (by rw [List.length_map]; lia), ?_⟩⟩
        refine tail _ _ ⟨zs ++ [x], rfl, fun b o e => by rw [upd_ne (ne_of_none e hp)]; exact s3 b o e, by rw [upd_same, List.map_append]; rfl, by rw [upd_ne (Ne.symm npl)]; exact hL3, Tups.lst hP3, by rw [List.length_append]; exact Nat.le_refl _, fun z => ?_⟩
        rw [List.mem_append, List.mem_singleton]
        refine or_congr Iff.rfl ⟨fun q => by rw [q]; exact ⟨rfl, nb⟩, fun q => ?_⟩
        have q1 := q.1
        unfold varN at q1
        injection q1 with _ q1
        injection q1 with q1
        injection q1 with q1
        exact q1.symm
      · refine no (fun z q => ?_) H3 (.refl _)
        have q1 := q.1
        unfold varN at q1
        injection q1 with _ q1
        injection q1 with q1
        injection q1 with q1
        rw [<- q1] at q
        refine e2 ?_
        have : inV (.str x) (b.map V.str) = false := by
          rw [Bool.eq_false_iff]
          exact fun z => q.2 ((inV_str x b).mp z)
        rw [this]; rfl
    case tl =>
      rintro σ' H4 ⟨zs', rfl, s4, hP4, hL4, t34, lz', mz⟩
      have it4 := IsDt.mono t34 it3
      refine ⟨_, rfl, _, t, 60, rfl, it4, tht, fun ku kus H5 s5 hku iku => ⟨ku, _, rfl, SqT.of hku, ?_⟩⟩
      have lk : kus.length = (kids t).length := by rw [iku.length, List.length_map]
      have hb5 := s5 _ _ (t34 _ _ hb3)
      have it5 := IsDt.mono s5.tups it4
      refine ⟨fun i m σ H6 => m + i = (kids t).length /\ Same H H6 /\ Tups H5 H6 /\ (∃ o5 o6, σ = [some v, some (.ref p), some (.ref l), some (.ref a), some (.ref bt), o5, o6]) /\ H6 p = some (.lst (zs'.map V.str)) /\ ∃ us, H6 l = some (.lst us) /\ IsDts H6 ((rest ++ kb t b i).map wD) us,
        ⟨(kids t).length, rfl, s4.trans s5, .refl _, ⟨o5, o6, rfl⟩, s5 _ _ hP4, ys, s5 _ _ hL4, by rw [show kb t b 0 = [] from rfl, List.append_nil]; exact IsDts.mono (t34.trans s5.tups) iys3⟩, ?_⟩
      rintro i m σ H6 ⟨hm, s6, t56, ⟨o5, o6, rfl⟩, hP6, us6, hL6, iw6⟩
      have lus6 : us6.length = rest.length + i := by rw [iw6.length, List.length_map, List.length_append]; unfold kb; rw [List.length_map, List.length_range]
      by_cases hi : i < (kids t).length
      · have hki : kus[i]? = some kus[i] := List.getElem?_eq_getElem (by lia)
        refine .inr (for_hide ⟨_, _, SqT.of (t56 _ _ hku), hki⟩ (fun σ' H7 => (m - 1) + (i + 1) = (kids t).length /\ Same H H7 /\ Tups H5 H7 /\ (∃ o5 o6, σ' = [some v, some (.ref p), some (.ref l), some (.ref a), some (.ref bt), o5, o6]) /\ H7 p = some (.lst (zs'.map V.str)) /\ ∃ us, H7 l = some (.lst us) /\ IsDts H7 ((rest ++ kb t b (i + 1)).map wD) us) (fun σ' H7 hW => ⟨m - 1, by lia, hW⟩) fun E2 toN2 _ => ?_)
        intro x H7 hy
        obtain ⟨pt, rfl, hpt, x', hx', rfl⟩ := hy
        have e7 := hx' _ (SqT.of (t56 _ _ hku))
        rw [hki] at e7
        cases e7
        obtain ⟨kd, e8, ikd⟩ := iku.get (i := i) (d := tdat (kids t)[i]) (by rw [List.getElem?_map, List.getElem?_eq_getElem hi]; rfl)
        rw [hki] at e8
        cases e8
        have s7 := same_new hpt (.tup [.int i, kus[i]])
        have hpt7 : (upd H6 pt (.tup [.int i, kus[i]])) pt = some (.tup [.int i, kus[i]]) := upd_same
        generalize upd H6 pt (.tup [.int i, kus[i]]) = H7 at s7 hpt7 ⊢
        refine ⟨pt, _, rfl, SqT.of hpt7, rfl, _, _, rfl, _, _, rfl, rfl, ?_⟩
        have t57 : Tups H5 H7 := t56.trans s7.tups
        have hL7 : H7 l = some (.lst us6) := s7 _ _ hL6
        refine ⟨_, rfl, .inl ⟨rfl, _, SqL.of hL7⟩, _, rfl, _, rfl, _, rfl, _, rfl, _, t, 60, i, rfl, IsDt.mono t57 it5, tht, fun e0 H8 s8 he0 => ?_⟩
        have hb8 := s8 _ _ (t57 _ _ hb5)
        have bl := bnd_len t i
        refine .inr (.inr (.inr ⟨bt, e0, _, _, rfl, rfl, hb8, he0, Nat.le_of_lt (line1 (by rw [List.length_map, List.length_map]; show b.length + _ <= _; lia)), fun nb H9 s9 hnb => ⟨(by show 2 <= sizeLine; decide), fun tn htn => ?_⟩⟩))
        have s9' : Same H8 H9 := s9
        have s10 := s9'.trans (same_new htn (.tup [kus[i], .ref nb]))
        have hL10 := s10 _ _ (s8 _ _ hL7)
        refine ⟨l, us6, _, rfl, rfl, hL10, line1 (by lia), ?_⟩
        have htn' : (upd H9 tn (.tup [kus[i], .ref nb])) tn = some (.tup [kus[i], .ref nb]) := upd_same
        have hnb' := same_new htn (.tup [kus[i], .ref nb]) _ _ hnb
        generalize upd H9 tn (.tup [kus[i], .ref nb]) = HA at s10 hL10 htn' hnb' ⊢
        have tB : Tups HA (upd HA l (.lst (us6 ++ [.ref tn]))) := Tups.lst hL10
        have t6A : Tups H6 HA := s7.tups.trans (s8.tups.trans s10.tups)
        refine toN2 _ _ ⟨by lia, fun z o e => by rw [upd_ne (ne_of_none e hlH)]; exact s10 _ _ (s8 _ _ (s7 _ _ (s6 _ _ e))), t56.trans (t6A.trans tB), ⟨_, _, rfl⟩, by rw [upd_ne npl]; exact s10 _ _ (s8 _ _ (s7 _ _ hP6)), us6 ++ [.ref tn], upd_same, ?_⟩
        rw [kb_succ hi, <- List.append_assoc, List.map_append]
        refine (IsDts.mono (t6A.trans tB) iw6).append (.one (isDt_tup (tB _ _ htn') (.cons (IsDt.mono (t56.trans (t6A.trans tB)) ikd) (.one (isDt_tup (tB _ _ hnb') ?_)))))
        rw [<- List.map_append]
        exact strs_isDts _
      · refine .inl ⟨⟨_, SqT.of (t56 _ _ hku), by lia⟩, ?_⟩
        have ei : i = (kids t).length := by lia
        subst ei
        refine toN _ _ ⟨((rest ++ kb t b (kids t).length).map fun q => nq q.1).sum, by rw [sm, List.map_append, List.sum_append, kb_sum]; lia, zs', rest ++ kb t b (kids t).length, us6, _, _, _, _, rfl, s6, hP6, hL6, iw6, fun q hq => ?_, fun x => ?_, rfl, by rw [List.map_append, List.sum_append, kb_sum]; lia⟩
        · rcases List.mem_append.mp hq with h | h
          · exact okw q (List.mem_append_left _ h)
          · obtain ⟨i, e1, e2⟩ := kb_mem h
            have hm := List.mem_of_getElem? e1
            obtain ⟨e, he, hq'⟩ := tht.sub _ hm
            have := nq_kid hm
            have := bnd_len t i
            exact ⟨hq'.mono (by lia), by rw [e2, List.length_append]; show b.length + _ + _ <= _; have : b.length + nq t <= 1000 := lbt; lia⟩
        · rw [mem, mz]
          constructor
          · rintro (h | ⟨q, hq, h⟩)
            · exact .inl (.inl h)
            · rcases List.mem_append.mp hq with z | z
              · exact .inr ⟨q, List.mem_append_left _ z, h⟩
              · rw [List.mem_singleton.mp z] at h
                rcases Fv.iff.mp h with h | ⟨i, k, e, h⟩
                · exact .inl (.inr h)
                · exact .inr ⟨_, List.mem_append_right _ (mem_kb e), h⟩
          · rintro ((h | h) | ⟨q, hq, h⟩)
            · exact .inl h
            · exact .inr ⟨(t, b), by simp, Fv.iff.mpr (.inl h)⟩
            · rcases List.mem_append.mp hq with z | z
              · exact .inr ⟨q, List.mem_append_left _ z, h⟩
              · obtain ⟨i, e1, e2⟩ := kb_mem z
                refine .inr ⟨(t, b), by simp, .kid e1 ?_⟩
                rw [<- e2]; exact h
end
end K14
end
section
namespace K14
open PySem L2 Kn
theorem t_tup {H : Hp} {t : Tr} {u : V} (h : IsDt H (tdat t) u) : ∃ a xs, u = .ref a /\ H a = some (.tup xs) := by
  obtain ⟨a, xs, e, h⟩ := t_at h
  exact ⟨a, _, e, h⟩
noncomputable def isR : V -> Bool
  | .ref _ => true
  | _ => false
theorem fil_at (as : List At) : (as.map atV).filter isR = [] := by
  induction as with
  | nil => rfl
  | cons a as ih => rw [List.map_cons, List.filter_cons_of_neg (by cases a <;> exact Bool.false_ne_true), ih]
theorem fil_ts {H : Hp} : ∀ {ts : List Tr} {zs : List V}, IsDts H (ts.map tdat) zs -> zs.filter isR = zs
  | [], zs, h => by rw [isDts_nil' h]; rfl
  | t :: ts, zs, h => by
    rw [List.map_cons, IsDts] at h
    obtain ⟨y, r, rfl, h1, h2⟩ := h
    obtain ⟨a, xs, rfl, _⟩ := t_tup h1
    rw [List.filter_cons_of_pos (by rfl), fil_ts h2]
section
variable {P : Program} {w : World} {K : PySem.W.Frag} {mg : Str -> Option Value} {base : Heap} {f : Addr} {fd : FuncData}
theorem sc__law_below : FnScope ["question"] ["question"] (defScope (top 20)) := ⟨rfl, rfl, rfl, by decide +kernel, rfl, by decide +kernel, by decide +kernel⟩
theorem ok_below (T : Tx mg) (D : Df K mg "_law_below" (top 20) f fd ["question"]) : FnOk P w K mg base CX0 1 f fd ["question"] spUnder := by
  refine D.fn.okH sc__law_below (fun vs H Q E h => ?_) (fun cdv A outer s H vs Q E hr h => ?_)
  · obtain ⟨v, t, d, rfl, _⟩ := h; rfl
  obtain ⟨v, t, d, rfl, hx, th, fin⟩ := h
  have hu := u110 hr
  have hu0 := u0 hr
  have hu1 := hu_of hr
  refine ⟨_, (wss_cons (ws_if (wt_cmpR (op_eqU hu) (we_ix (ix_U hu1) (wv 0) we_int (fun _ _ => rfl)) we_str (nomark _)) (wss_one (ws_ret (we_tup wa_nil))) wss_nil)
      (wss_cons (ws_if (wt_cmpR (op_eqU hu) (we_ix (ix_U hu1) (wv 0) we_int (fun _ _ => rfl)) we_str (nomark _)) (wss_one (ws_ret (we_callTy call_tuple_of rfl T.z_tuple bt_tuple (wa_cons (we_lc (Nt := ["field", "own"]) (fr := []) (LcOk.of (sc := defScope (top 20)) (N := ["question"]) rfl rfl (by decide +kernel)) rfl (wi_U (we_ix (ix_U hu1) (wv 0) we_int (fun _ _ => rfl))) (fun z => wg_tup rfl (wgs_cons (wg_name (i := 0) (by show (["field", "own"] : List Str).Nodup; decide +kernel) rfl (Or.inl rfl) (.inr rfl)) (wgs_cons (wg_name (i := 1) (by show (["field", "own"] : List Str).Nodup; decide +kernel) rfl (Or.inl rfl) (.inr rfl)) wgs_nil))) (fun z => tgt_two (by decide) (by decide)) (fun z => wif_nil) (fun z => (wv 1))) wa_nil)))) wss_nil)
      (wss_one (ws_ret (we_callTy call_tuple_of rfl T.z_tuple bt_tuple (wa_cons (we_lc (Nt := ["part"]) (fr := []) (LcOk.of (sc := defScope (top 20)) (N := ["question"]) rfl rfl (by decide +kernel)) rfl (wi_U (we_slice sl_U (wv 0) (wo_some we_int) wo_none)) (fun z => wg_name (i := 0) (by show (["part"] : List Str).Nodup; decide +kernel) rfl (Or.inl rfl) (.inr rfl)) (fun z => tgt_name (by decide)) (fun z => wif_one (wt_val (we_callB call_isA rfl T.z_isinstance bt_isinstance (wa_cons (wv 0) (wa_cons (we_bltn rfl T.z_tuple bt_tuple (relv_ty _)) wa_nil))))) (fun z => (wv 0))) wa_nil)))))), ?_⟩
  obtain ⟨X', gX'⟩ : ∃ X', X' = (cxOf CX0 P w K mg base ["question"] "_law_below" (defScope (top 20)) f cdv A outer s H E).nox := ⟨_, rfl⟩
  try rw [<- gX']
  clear gX'
  cases t with
  | row ps =>
    have hl6 : ps.length <= 14 := by cases th with | row hl h => exact hl
    obtain ⟨a, b, ys, rfl, ha, hb, hys⟩ := tr_row hx
    have ly : ys.length = ps.length := by rw [hys.length, tdatR_map, List.length_map]
    refine ⟨_, rfl, ixt (SqT.of ha) at0 (.inl ⟨rfl, _, rfl, iteN (vne (by decide +kernel)) ?_⟩)⟩
    refine ⟨_, rfl, ixt (SqT.of ha) at0 (.inl ⟨rfl, _, rfl, iteP veq ?_⟩)⟩
    refine .inr ⟨_, rfl, ixt (SqT.of ha) at1 ⟨b, rfl, ⟨ys, SqT.of hb⟩, ?_⟩⟩
    refine ⟨fun i2 m2 zs H2 => H2 = H /\ m2 + i2 = ps.length /\ IsDts H (((ps.map (·.2)).take i2).map tdat) zs, ⟨ps.length, rfl, rfl, by rw [List.take_zero]; exact .nil⟩, ?_⟩
    rintro i2 m2 zs H2 ⟨rfl, hm2, iz⟩
    have lz := iz.length
    rw [List.length_map, List.length_take, List.length_map] at lz
    refine ⟨line1 (by lia), ?_⟩
    by_cases hi2 : i2 < ps.length
    · have hyi : ys[i2]? = some ys[i2] := List.getElem?_eq_getElem (by lia)
      refine .inr ⟨⟨_, _, SqT.of hb, hyi⟩, fun z x H5 hy2 => ?_⟩
      obtain ⟨rfl, hx5⟩ := hy2
      obtain rfl : ys[i2] = x := by have := hx5 _ (SqT.of hb); rw [hyi] at this; injection this
      obtain ⟨p, c, u, hp, ey, hc, hu'⟩ := tr_item hys hyi
      rw [ey]
      refine ⟨c, _, rfl, SqT.of hc, rfl, _, _, rfl, _, _, rfl, rfl, ?_⟩
      refine tall ?_
      refine ⟨_, rfl, m2 - 1, by lia, rfl, by lia, ?_⟩
      rw [List.take_add_one, List.getElem?_map, hp, List.map_append]
      exact iz.append (.one hu')
    · refine .inl ⟨⟨_, SqT.of hb, by lia⟩, fun l2 hl2 => ?_⟩
      rw [List.take_of_length_le (by rw [List.length_map]; lia)] at iz
      refine ⟨l2, _, rfl, .inl ⟨SqL.of upd_same, fun t1 ht1 => ?_⟩⟩
      exact fin t1 zs _ ((same_new hl2 _).trans (same_new ht1 _)) upd_same (IsDts.mono ((same_new hl2 _).trans (same_new ht1 _)).tups iz)
  | node wd as ps =>
    obtain ⟨a, zs, rfl, ha, hzs⟩ := tr_node hx
    have hw : wd ≠ Str.ofString "row" := by
      cases th with
      | num => decide +kernel
      | atom hw => rintro rfl; revert hw; decide +kernel
      | none => decide +kernel
      | times h => decide +kernel
      | «at» h => decide +kernel
      | bind hw h1 h2 => rcases hw with rfl | rfl <;> decide +kernel
      | plain hw hr hl h => exact hr
    have hlen : as.length + ps.length <= 14 := by
      cases th with
      | num => simp
      | atom hw => simp
      | none => simp
      | times h => simp
      | «at» h => simp
      | bind hw h1 h2 => simp
      | plain hw hr hl h => simp; lia
    refine ⟨_, rfl, ixt (SqT.of ha) at0 (.inl ⟨rfl, _, rfl, ite2 (fun e => ?_) (fun e => ?_)⟩)⟩
    · have e := vs_str e
      subst e
      refine ⟨(by show 0 <= sizeLine; decide), fun p hp => fin p [] _ (same_new hp _) upd_same ?_⟩
      rw [kids_node, if_pos rfl]
      exact .nil
    have e := vs_ne e
    rw [kids_ne _ _ e] at fin
    refine ⟨_, rfl, ixt (SqT.of ha) at0 (.inl ⟨rfl, _, rfl, iteN (vne hw) ?_⟩)⟩
    have lz : zs.length = ps.length := by rw [hzs.length, List.length_map]
    obtain ⟨L, eL⟩ : ∃ L, L = as.map atV ++ zs := ⟨_, rfl⟩
    have lL : L.length <= 14 := by rw [eL, List.length_append, List.length_map]; lia
    have fL : L.filter isR = zs := by rw [eL, List.filter_append, fil_at, fil_ts hzs]; rfl
    have ty : ∀ x ∈ L, (isR x = false /\ ((∃ i, x = .int i) \/ ∃ z, x = .str z)) \/ ∃ b xs, x = .ref b /\ H b = some (.tup xs) := by
      intro x hx
      rw [eL] at hx
      rcases List.mem_append.mp hx with h | h
      · obtain ⟨o, _, rfl⟩ := List.mem_map.mp h
        cases o with
        | int i => exact .inl ⟨rfl, .inl ⟨i, rfl⟩⟩
        | txt z => exact .inl ⟨rfl, .inr ⟨z, rfl⟩⟩
      · obtain ⟨i, hi⟩ := List.mem_iff_getElem?.mp h
        obtain ⟨hi1, hi2⟩ := List.getElem?_eq_some_iff.mp hi
        obtain ⟨y, e1, e2⟩ := hzs.get (i := i) (d := tdat (ps[i]'(by lia))) (by rw [List.getElem?_map, List.getElem?_eq_getElem (by lia)]; rfl)
        rw [hi] at e1
        cases e1
        exact .inr (t_tup e2)
    rw [<- eL] at ha
    refine .inr ⟨_, rfl, _, rfl, .inr (.inl ⟨a, _, rfl, SqT.of ha, ncutN (k := 1) (by decide) (by simp), fun q hq => ?_⟩)⟩
    rw [show cutV (V.str wd :: L) (some (1 : Int)) none = L from (show cutV (V.str wd :: L) (some ((1 : Nat) : Int)) none = L by rw [cutN]; rfl)]
    have sq := same_new hq (.tup L)
    have hq1 : (upd H q (.tup L)) q = some (.tup L) := upd_same
    generalize upd H q (.tup L) = H1 at sq hq1 ⊢
    refine ⟨q, rfl, ⟨L, SqT.of hq1⟩, ?_⟩
    refine ⟨fun i m us H2 => H2 = H1 /\ m + i = L.length /\ us = (L.take i).filter isR, ⟨L.length, rfl, rfl, rfl⟩, ?_⟩
    rintro i m us H2 ⟨rfl, hm, eu⟩
    have lu : us.length <= 14 := by rw [eu]; exact Nat.le_trans (List.length_filter_le _ _) (by rw [List.length_take]; lia)
    refine ⟨line1 (by lia), ?_⟩
    by_cases hi : i < L.length
    · have hyi : L[i]? = some L[i] := List.getElem?_eq_getElem hi
      refine .inr ⟨⟨_, _, SqT.of hq1, hyi⟩, fun z x H5 hy => ?_⟩
      obtain ⟨rfl, hx5⟩ := hy
      obtain rfl : L[i] = x := by have := hx5 _ (SqT.of hq1); rw [hyi] at this; injection this
      rcases ty _ (List.getElem_mem hi) with ⟨nr, h⟩ | ⟨b, xs, ex, hb⟩
      · have nx : us = (L.take (i + 1)).filter isR := by rw [List.take_add_one, hyi, List.filter_append, eu]; show _ = _ ++ [L[i]].filter isR; rw [List.filter_cons_of_neg (by rw [nr]; exact Bool.false_ne_true)]; simp
        rcases h with ⟨j, ej⟩ | ⟨s, es⟩
        · rw [ej]
          refine ⟨_, rfl, .inl ⟨_, _, _, false, rfl, .int j, ist_int_tuple, _, rfl, iteF ⟨m - 1, by lia, rfl, by lia, nx⟩⟩⟩
        · rw [es]
          refine ⟨_, rfl, .inl ⟨_, _, _, false, rfl, .str s, ist_str_tuple, _, rfl, iteF ⟨m - 1, by lia, rfl, by lia, nx⟩⟩⟩
      · have nx : us ++ [L[i]] = (L.take (i + 1)).filter isR := by rw [List.take_add_one, hyi, List.filter_append, eu]; show _ = _ ++ [L[i]].filter isR; rw [List.filter_cons_of_pos (by rw [ex]; rfl)]; rfl
        rw [ex] at nx ⊢
        refine ⟨_, rfl, .inl ⟨_, _, _, true, rfl, .tup (sq _ _ hb), ist_self _, _, rfl, iteT ⟨_, rfl, m - 1, by lia, rfl, by lia, nx⟩⟩⟩
    · refine .inl ⟨⟨_, SqT.of hq1, by lia⟩, fun l2 hl2 => ?_⟩
      rw [List.take_of_length_le (by lia), fL] at eu
      subst eu
      refine ⟨l2, _, rfl, .inl ⟨SqL.of upd_same, fun t1 ht1 => ?_⟩⟩
      have sE := sq.trans ((same_new hl2 (.lst us)).trans (same_new ht1 (.tup us)))
      exact fin t1 us _ sE upd_same (IsDts.mono sE.tups hzs)
end
end K14
end
section
namespace K14
open PySem L2 Kn
inductive Nd : Nat -> Dt -> Prop where
  | int {n : Nat} (i : Int) : Nd n (.int i)
  | str {n : Nat} (s : Str) : Nd n (.str s)
  | tup {n : Nat} (ds : List Dt) (h : ds.length <= 1000) (a : ∀ d ∈ ds, Nd n d) : Nd (n + 1) (.tup ds)
theorem Nd.up {n : Nat} {d : Dt} (h : Nd n d) : Nd (n + 1) d := by
  induction h with
  | int => exact .int _
  | str => exact .str _
  | tup ds h _ ih => exact .tup ds h ih
theorem Nd.mono {n m : Nat} {d : Dt} (l : n <= m) (h : Nd n d) : Nd m d := by
  induction l with
  | refl => exact h
  | step _ ih => exact ih.up
theorem nd_node {n : Nat} {w : Str} {as : List At} {ps : List Tr} (hl : as.length + ps.length <= 14) (h : ∀ q ∈ ps, Nd n (tdat q)) : Nd (n + 1) (tdat (.node w as ps)) := by
  rw [tdat, tdatL_map]
  refine .tup _ (by rw [List.length_cons, List.length_append, List.length_map, List.length_map]; lia) fun d hd => ?_
  rcases List.mem_cons.mp hd with rfl | hd
  · exact .str _
  · rcases List.mem_append.mp hd with hd | hd
    · obtain ⟨a, _, rfl⟩ := List.mem_map.mp hd
      cases a with
      | int i => exact .int _
      | txt s => exact .str _
    · obtain ⟨q, hq, rfl⟩ := List.mem_map.mp hd
      exact h q hq
theorem nd_two {n : Nat} {a b : Dt} (h1 : Nd n a) (h2 : Nd n b) : Nd (n + 1) (.tup [a, b]) := .tup _ (by show 2 <= 1000; decide) fun d hd => by
  simp only [List.mem_cons, List.not_mem_nil, or_false] at hd
  rcases hd with rfl | rfl
  · exact h1
  · exact h2
theorem nd_row {n : Nat} {ps : List (Str × Tr)} (hl : ps.length <= 14) (h : ∀ p ∈ ps, Nd n (tdat p.2)) : Nd (n + 3) (tdat (.row ps)) := by
  rw [tdat, tdatR_map]
  refine nd_two (.str _) (.tup _ (by rw [List.length_map]; lia) fun d hd => ?_)
  obtain ⟨p, hp, rfl⟩ := List.mem_map.mp hd
  exact nd_two (.str _) (h p hp)
theorem nd_kg {d : Nat} {t : Tr} (h : KG d t) : Nd (3 * d + 1) (tdat t) := by
  induction h with
  | num => exact (nd_node (n := 0) (ps := []) (by simp) fun q hq => (nomatch hq)).mono (by lia)
  | word => exact (nd_node (n := 0) (ps := []) (by simp) fun q hq => (nomatch hq)).mono (by lia)
  | bag _ ih => exact (nd_node (by simp) (one_mem (P := fun q => Nd _ (tdat q)) ih)).mono (by lia)
  | row hl hn _ ih => exact (nd_row hl ih).mono (by lia)
theorem nd_th {d : Nat} {t : Tr} (h : TH d t) : Nd (3 * d + 8) (tdat t) := by
  induction h with
  | num => exact (nd_node (n := 0) (ps := []) (by simp) fun q hq => (nomatch hq)).mono (by lia)
  | atom => exact (nd_node (n := 0) (ps := []) (by simp) fun q hq => (nomatch hq)).mono (by lia)
  | none h => exact (nd_node (by simp) (one_mem (P := fun q => Nd _ (tdat q)) (nd_kg h))).mono (by lia)
  | row hl _ ih => exact (nd_row hl ih).mono (by lia)
  | times _ ih => exact (nd_node (by simp) (one_mem (P := fun q => Nd _ (tdat q)) ih)).mono (by lia)
  | «at» _ ih => exact (nd_node (by simp) (one_mem (P := fun q => Nd _ (tdat q)) ih)).mono (by lia)
  | bind hw _ _ i1 i2 => exact (nd_node (by simp) (two_mem (P := fun q => Nd _ (tdat q)) i1 i2)).mono (by lia)
  | plain hw hr hl _ ih => exact (nd_node (by simp; lia) ih).mono (by lia)
section
variable {P : Program} {w : World} {K : PySem.W.Frag} {mg : Str -> Option Value} {base : Heap} {f : Addr} {fd : FuncData}
noncomputable def spSame (n : Nat) : Sp := fun vs H Q _ => ∃ (v u : V) (d : Dt), vs = [v, u] /\ IsDt H d v /\ IsDt H d u /\ Nd n d /\ ∀ H', Same H H' -> Q (.bl true) H'
noncomputable def preS : Nat -> Sp
  | 0 => fun _ _ _ _ => False
  | n + 1 => spSame n
theorem sc__law_same : FnScope ["found", "due"] ["found", "due"] (defScope (top 19)) := ⟨rfl, rfl, rfl, by decide +kernel, rfl, by decide +kernel, by decide +kernel⟩
theorem ok_same {k n : Nat} (hk : 1 <= k) (T : Tx mg) (D__law_same : Df K mg "_law_same" (top 19) f fd ["found", "due"]) (G__law_same : FnOk P w K mg base CX0 k f fd ["found", "due"] (preS n)) : FnOk P w K mg base CX0 (k + 1) f fd ["found", "due"] (spSame n) := by
  refine D__law_same.fn.okH sc__law_same (fun vs H Q E h => ?_) (fun cdv A outer s H vs Q E hr h => ?_)
  · obtain ⟨v, u, d, rfl, _⟩ := h; rfl
  obtain ⟨v, u, d, rfl, iv, iu, nw, fin⟩ := h
  have hu := u110 hr
  have hu0 := u0 hr
  have hu1 := hu_of hr
  refine ⟨_, (wss_cons (ws_if (wt_val (we_callB call_isA rfl T.z_isinstance bt_isinstance (wa_cons (wv 1) (wa_cons (we_bltn rfl T.z_tuple bt_tuple (relv_ty _)) wa_nil)))) (wss_cons (ws_if (wt_pw (ww_or (wt_not (wt_val (we_callB call_isA rfl T.z_isinstance bt_isinstance (wa_cons (wv 0) (wa_cons (we_bltn rfl T.z_tuple bt_tuple (relv_ty _)) wa_nil))))) (ww_or1 (wt_cmpR (op_neU hu) (we_callB call_lenU rfl T.z_len bt_len (wa_cons (wv 0) wa_nil)) (we_callB call_lenU rfl T.z_len bt_len (wa_cons (wv 1) wa_nil)) (nomark _))))) (wss_one (ws_ret we_bl)) wss_nil)
      (wss_one (ws_ret (we_callB (call_all rfl) rfl T.z_all bt_all (wa_cons (we_lc (Nt := ["one", "other"]) (fr := []) (LcOk.of (sc := defScope (top 19)) (N := ["found", "due"]) rfl rfl (by decide +kernel)) rfl (wi_zip rfl T.z_zip (wa_cons (wv 0) (wa_cons (wv 1) wa_nil))) (fun z => wg_tup rfl (wgs_cons (wg_name (i := 0) (by show (["one", "other"] : List Str).Nodup; decide +kernel) rfl (Or.inl rfl) (.inr rfl)) (wgs_cons (wg_name (i := 1) (by show (["one", "other"] : List Str).Nodup; decide +kernel) rfl (Or.inl rfl) (.inr rfl)) wgs_nil))) (fun z => tgt_two (by decide) (by decide)) (fun z => wif_nil) (fun z => (we_call G__law_same (hr.mono (by lia)) rfl D__law_same.mg D__law_same.kp D__law_same.b .nil pass0 (wa_cons (wv 0) (wa_cons (wv 1) wa_nil))))) wa_nil))))) wss_nil)
      (wss_cons (ws_if (wt_pw (ww_or (wt_val (we_callB call_isA rfl T.z_isinstance bt_isinstance (wa_cons (wv 0) (wa_cons (we_bltn rfl T.z_bool bt_bool (relv_ty _)) wa_nil)))) (ww_or1 (wt_cmpR (op_neU hu) (we_callB call_isA rfl T.z_isinstance bt_isinstance (wa_cons (wv 0) (wa_cons (we_bltn rfl T.z_str bt_str (relv_ty _)) wa_nil))) (we_callB call_isA rfl T.z_isinstance bt_isinstance (wa_cons (wv 1) (wa_cons (we_bltn rfl T.z_str bt_str (relv_ty _)) wa_nil))) (nomark _))))) (wss_one (ws_ret we_bl)) wss_nil)
      (wss_one (ws_ret (we_and (we_callB call_isA rfl T.z_isinstance bt_isinstance (wa_cons (wv 0) (wa_cons (we_tup (wa_cons (we_bltn rfl T.z_str bt_str (relv_ty _)) (wa_cons (we_bltn rfl T.z_int bt_int (relv_ty _)) wa_nil))) wa_nil))) (we_one (we_cmpR (op_eqU hu) (wv 0) (wv 1) (nomark _)))))))), ?_⟩
  obtain ⟨X', gX'⟩ : ∃ X', X' = (cxOf CX0 P w K mg base ["found", "due"] "_law_same" (defScope (top 19)) f cdv A outer s H E).nox := ⟨_, rfl⟩
  try rw [<- gX']
  clear gX'
  cases nw with
  | int i =>
    rw [IsDt] at iv iu
    subst iv
    subst iu
    refine ⟨_, rfl, .inl ⟨_, _, _, false, rfl, .int i, ist_int_tuple, _, rfl, iteF ?_⟩⟩
    refine ⟨_, rfl, .inl ⟨_, _, _, false, rfl, .int i, ist_int_bool, _, rfl, iteF ?_⟩⟩
    refine ⟨_, rfl, .inl ⟨_, _, _, false, rfl, .int i, ist_int_str, _, rfl, .inl ⟨_, _, _, false, rfl, .int i, ist_int_str, .inl ⟨rfl, _, rfl, iteF ?_⟩⟩⟩⟩
    refine ⟨_, rfl, (by show 2 <= sizeLine; decide), fun tp htp => .inr ⟨_, tp, rfl, upd_same, .inl ⟨i, rfl⟩, true, rfl, iteT ?_⟩⟩
    refine ⟨_, rfl, _, rfl, .inl ⟨rfl, ?_⟩⟩
    rw [decide_eq_true rfl]
    exact fin _ (same_new htp _)
  | str z =>
    rw [IsDt] at iv iu
    subst iv
    subst iu
    refine ⟨_, rfl, .inl ⟨_, _, _, false, rfl, .str z, ist_str_tuple, _, rfl, iteF ?_⟩⟩
    refine ⟨_, rfl, .inl ⟨_, _, _, false, rfl, .str z, ist_str_bool, _, rfl, iteF ?_⟩⟩
    refine ⟨_, rfl, .inl ⟨_, _, _, true, rfl, .str z, ist_self _, _, rfl, .inl ⟨_, _, _, true, rfl, .str z, ist_self _, .inl ⟨rfl, _, rfl, iteF ?_⟩⟩⟩⟩
    refine ⟨_, rfl, (by show 2 <= sizeLine; decide), fun tp htp => .inr ⟨_, tp, rfl, upd_same, .inr ⟨z, rfl⟩, true, rfl, iteT ?_⟩⟩
    refine ⟨_, rfl, _, rfl, .inl ⟨rfl, ?_⟩⟩
    rw [decide_eq_true rfl]
    exact fin _ (same_new htp _)
  | @tup n ds hl hn =>
    rw [IsDt] at iv iu
    obtain ⟨a, xs, rfl, ha, ia⟩ := iv
    obtain ⟨b, ys, rfl, hb, ib⟩ := iu
    have lx := ia.length
    have ly := ib.length
    refine ⟨_, rfl, .inl ⟨_, _, _, true, rfl, .tup hb, ist_self _, _, rfl, iteT ?_⟩⟩
    refine ⟨_, rfl, .inl ⟨_, _, _, true, rfl, .tup ha, ist_self _, _, rfl, iteF ?_⟩⟩
    refine ⟨_, rfl, .inl ⟨a, xs, rfl, .inr (SqT.of ha), _, rfl, .inl ⟨b, ys, rfl, .inr (SqT.of hb), .inl ⟨rfl, _, rfl, ?_⟩⟩⟩⟩
    rw [lx, ly, decide_eq_true rfl]
    refine iteF ?_
    refine ⟨_, rfl, _, rfl, a, b, xs, ys, rfl, SqT.of ha, SqT.of hb, ?_⟩
    refine ⟨fun i m qs H' => Same H H' /\ m + i = ds.length /\ qs = (List.replicate i true).map V.bl, ⟨ds.length, .refl _, rfl, rfl⟩, ?_⟩
    rintro i m qs H' ⟨sH, hm, rfl⟩
    refine ⟨line1 (by rw [List.length_map, List.length_replicate]; lia), ?_⟩
    by_cases hi : i < ds.length
    · obtain ⟨v1, e1, d1⟩ := ia.get (i := i) (d := ds[i]) (List.getElem?_eq_getElem hi)
      obtain ⟨v2, e2, d2⟩ := ib.get (i := i) (d := ds[i]) (List.getElem?_eq_getElem hi)
      refine .inr ⟨⟨xs, ys, v1, v2, SqT.of (sH _ _ ha), SqT.of (sH _ _ hb), e1, e2⟩, fun z x H5 hy => ?_⟩
      obtain ⟨pt, rfl, hpt, w1, w2, h1, h2, rfl⟩ := hy
      have q1 := h1 _ (SqT.of (sH _ _ ha))
      rw [e1] at q1
      cases q1
      have q2 := h2 _ (SqT.of (sH _ _ hb))
      rw [e2] at q2
      cases q2
      have s5 := sH.trans (same_new hpt (.tup [v1, v2]))
      refine ⟨pt, _, rfl, SqT.of upd_same, rfl, _, _, rfl, _, _, rfl, rfl, ?_⟩
      refine tall ?_
      refine ⟨_, rfl, _, rfl, v1, v2, ds[i], rfl, IsDt.mono s5.tups d1, IsDt.mono s5.tups d2, hn _ (List.getElem_mem hi), fun H6 s6 => ?_⟩
      refine ⟨m - 1, by lia, s5.trans s6, by lia, ?_⟩
      rw [List.replicate_succ', List.map_append]; rfl
    · refine .inl ⟨⟨xs, ys, SqT.of (sH _ _ ha), SqT.of (sH _ _ hb), .inl (by lia)⟩, fun l hl' => ⟨l, _, rfl, SqL.of upd_same, ?_⟩⟩
      rw [show (List.replicate i true).all id = true from by simp]
      exact fin _ (sH.trans (same_new hl' _))
theorem same_all (T : Tx mg) (D__law_same : Df K mg "_law_same" (top 19) f fd ["found", "due"]) : ∀ n : Nat, FnOk P w K mg base CX0 (n + 2) f fd ["found", "due"] (spSame n)
  | 0 => ok_same (k := 1) (by decide) T D__law_same ⟨fun _ _ _ _ h => h.elim, fun _ _ _ _ _ _ _ _ _ _ _ _ _ h => h.elim⟩
  | n + 1 => ok_same (k := n + 2) (by lia) T D__law_same (same_all T D__law_same n)
end
end K14
end
section
namespace K14
open PySem L2 Kn
noncomputable def nmD (ks : List Str) : List (Key × V) := ks.map fun x => (.inr x, .bl true)
noncomputable def FoD (d1 d2 : Addr) : List (Key × V) := [(.inr (Str.ofString "var"), .ref d1), (.inr (Str.ofString "table"), .ref d2)]
noncomputable def But (d1 d2 : Addr) (H H' : Hp) : Prop := ∀ c o, c ≠ d1 -> c ≠ d2 -> H c = some o -> H' c = some o
theorem But.refl {d1 d2 : Addr} (H : Hp) : But d1 d2 H H := fun _ _ _ _ h => h
theorem But.trans {d1 d2 : Addr} {H H1 H2 : Hp} (a : But d1 d2 H H1) (b : But d1 d2 H1 H2) : But d1 d2 H H2 := fun c o n1 n2 h => b c o n1 n2 (a c o n1 n2 h)
theorem But.same {d1 d2 : Addr} {H H1 : Hp} (a : Same H H1) : But d1 d2 H H1 := fun c o _ _ h => a c o h
theorem But.tups {d1 d2 : Addr} {H H1 : Hp} {k1 k2 : List (Key × V)} (a : But d1 d2 H H1) (h1 : H d1 = some (.dK k1)) (h2 : H d2 = some (.dK k2)) : Tups H H1 := fun c xs h => a c _ (fun z => by rw [z, h1] at h; cases h) (fun z => by rw [z, h2] at h; cases h) h
theorem But.l {d1 d2 : Addr} {H : Hp} {o : HO} : But d1 d2 H (upd H d1 o) := fun c o n1 _ h => by rw [upd_ne n1]; exact h
theorem But.r {d1 d2 : Addr} {H : Hp} {o : HO} : But d1 d2 H (upd H d2 o) := fun c o _ n2 h => by rw [upd_ne n2]; exact h
theorem nm_val {ks : List Str} {x : Str} : (valV (nmD ks) (Sum.inr x : Key)).isSome = true ↔ x ∈ ks := by
  rw [<- valV_any, List.any_eq_true]
  constructor
  · rintro ⟨kv, hk, e⟩
    obtain ⟨y, hy, rfl⟩ := List.mem_map.mp hk
    have e := of_decide_eq_true e
    injection e with e
    rw [<- e]; exact hy
  · intro h
    exact ⟨_, List.mem_map.mpr ⟨x, h, rfl⟩, decide_eq_true rfl⟩
theorem nm_put {ks : List Str} (x : Str) (nd : ks.Nodup) : ∃ l, putK (nmD ks) (Sum.inr x : Key) (.bl true) = nmD l /\ l.Nodup /\ (∀ y, y ∈ l ↔ y ∈ ks \/ y = x) /\ l.length <= ks.length + 1 := by
  by_cases h : x ∈ ks
  · refine ⟨ks, ?_, nd, fun y => ⟨.inl, fun z => z.elim id fun e => by rw [e]; exact h⟩, Nat.le_succ _⟩
    unfold putK
    rw [valV_any, if_pos (nm_val.mpr h)]
    unfold nmD
    rw [List.map_map]
    refine List.map_congr_left fun y _ => ?_
    show (if _ then _ else _) = _
    split <;> rfl
  · refine ⟨ks ++ [x], ?_, ?_, fun y => by rw [List.mem_append, List.mem_singleton], by simp⟩
    · rw [putK_new]
      · unfold nmD; rw [List.map_append]; rfl
      · cases e : valV (nmD ks) (Sum.inr x : Key) with
        | none => rfl
        | some u => exact absurd (nm_val.mp (by rw [e]; rfl)) h
    · rw [List.nodup_append]
      refine ⟨nd, by simp, fun a ha b hb => ?_⟩
      rw [List.mem_singleton.mp hb]
      rintro rfl
      exact h ha
theorem gF1 {H : Hp} {fo d1 d2 : Addr} (h : H fo = some (.dK (FoD d1 d2))) : DGet H fo (.str "var") (some (.ref d1)) := by
  have := DGet.k (k := Sum.inr (Str.ofString "var")) h
  rw [show valV (FoD d1 d2) (Sum.inr (Str.ofString "var")) = some (.ref d1) from valV_pos rfl] at this
  exact this
theorem gF2 {H : Hp} {fo d1 d2 : Addr} (h : H fo = some (.dK (FoD d1 d2))) : DGet H fo (.str "table") (some (.ref d2)) := by
  have := DGet.k (k := Sum.inr (Str.ofString "table")) h
  rw [show valV (FoD d1 d2) (Sum.inr (Str.ofString "table")) = some (.ref d2) from (valV_neg (fun z => by injection z with z; revert z; decide +kernel)).trans (valV_pos rfl)] at this
  exact this
theorem nmD_len (l : List Str) : (nmD l).length = l.length := List.length_map _
theorem take_sum {t : Tr} {i : Nat} {k : Tr} (h : (kids t)[i]? = some k) : (((kids t).take (i + 1)).map nq).sum = (((kids t).take i).map nq).sum + nq k := by
  rw [List.take_add_one, h, List.map_append, List.sum_append]
  show _ + ([k].map nq).sum = _
  simp
theorem take_le (t : Tr) (i : Nat) : (((kids t).take i).map nq).sum <= ((kids t).map nq).sum := by
  conv => rhs; rw [<- List.take_append_drop i (kids t)]
  rw [List.map_append, List.sum_append]
  lia
theorem take_lt {t : Tr} {i : Nat} {k : Tr} (h : (kids t)[i]? = some k) : 1 + (((kids t).take i).map nq).sum + nq k <= nq t := by
  have := take_le t (i + 1)
  rw [take_sum h] at this
  rw [nq_kids t]
  lia
section
variable {P : Program} {w : World} {K : PySem.W.Frag} {mg : Str -> Option Value} {base : Heap} {f f_below : Addr} {fd fd_below : FuncData}
noncomputable def spNms (n : Nat) : Sp := fun vs H Q _ => ∃ (v : V) (t : Tr) (b fo d1 d2 : Addr) (bs k1 k2 : List Str), vs = [v, .ref b, .ref fo] /\ IsDt H (tdat t) v /\ TH n t /\ H b = some (.lst (bs.map V.str)) /\ H fo = some (.dK (FoD d1 d2)) /\ H d1 = some (.dK (nmD k1)) /\ H d2 = some (.dK (nmD k2)) /\ d1 ≠ d2 /\ k1.Nodup /\ k2.Nodup /\ bs.length + nq t <= 1000 /\ k1.length + nq t <= 1000 /\ k2.length + nq t <= 1000 /\
  ∀ (H' : Hp) (l1 l2 : List Str), But d1 d2 H H' -> H' d1 = some (.dK (nmD l1)) -> H' d2 = some (.dK (nmD l2)) -> l1.Nodup -> l2.Nodup -> (∀ x, x ∈ l1 ↔ x ∈ k1 \/ Fv x bs t) -> (∀ x, x ∈ l2 ↔ x ∈ k2 \/ Tb x t) -> l1.length <= k1.length + nq t -> l2.length <= k2.length + nq t -> Q .non H'
noncomputable def preN : Nat -> Sp
  | 0 => fun _ _ _ _ => False
  | n + 1 => spNms n
theorem sc__law_names : FnScope ["question", "bound", "found", "k", "part"] ["question", "bound", "found"] (defScope (top 21)) := ⟨rfl, rfl, rfl, by decide +kernel, rfl, by decide +kernel, by decide +kernel⟩
theorem ok_names {k n : Nat} (hk : 1 <= k) (T : Tx mg) (D__law_names : Df K mg "_law_names" (top 21) f fd ["question", "bound", "found"]) (G__law_names : FnOk P w K mg base CX0 k f fd ["question", "bound", "found"] (preN n))
    (D__law_below : Df K mg "_law_below" (top 20) f_below fd_below ["question"]) (G__law_below : FnOk P w K mg base CX0 1 f_below fd_below ["question"] spUnder) : FnOk P w K mg base CX0 (k + 1) f fd ["question", "bound", "found"] (spNms n) := by
  refine D__law_names.fn.okH sc__law_names (fun vs H Q E h => ?_) (fun cdv A outer s H vs Q E hr h => ?_)
  · obtain ⟨v, t, b, fo, d1, d2, bs, k1, k2, rfl, _⟩ := h; rfl
  obtain ⟨v, t, b, fo, d1, d2, bs, k1, k2, rfl, iv, th, hb, hf, h1, h2, n12, nd1, nd2, lb, lk1, lk2, fin⟩ := h
  have hu := u110 hr
  have hu0 := u0 hr
  have hu1 := hu_of hr
  refine ⟨_, (wss_cons (ws_if (wt_pw (ww_and (wt_cmpR (op_eqU hu) (we_ix (ix_U hu1) (wv 0) we_int (fun _ _ => rfl)) we_str (nomark _)) (ww_and1 (wt_cmpR (op_notInU hu) (we_ix (ix_U hu1) (wv 0) we_int (fun _ _ => rfl)) (wv 1) (by with_unfolding_all rfl))))) (wss_one (ws_asg we_bl (wg_sub (we_ix (ix_U hu1) (wv 2) we_str (fun _ _ => rfl)) (we_ix (ix_U hu1) (wv 0) we_int (fun _ _ => rfl)) (set_U hu1)))) wss_nil)
      (wss_cons (ws_if (wt_cmpR (op_eqU hu) (we_ix (ix_U hu1) (wv 0) we_int (fun _ _ => rfl)) we_str (nomark _)) (wss_one (ws_asg we_bl (wg_sub (we_ix (ix_U hu1) (wv 2) we_str (fun _ _ => rfl)) (we_ix (ix_U hu1) (wv 0) we_int (fun _ _ => rfl)) (set_U hu1)))) wss_nil)
      (wss_one (ws_for PassesOwn.never rfl (wi_enumT rfl T.z_enumerate (wa_cons (we_call G__law_below (hr.mono (by lia)) rfl D__law_below.mg D__law_below.kp D__law_below.b .nil pass0 (wa_cons (wv 0) wa_nil)) wa_nil)) (wg_tup rfl (wgs_cons (wg_name (i := 3) sc__law_names.nd rfl (Or.inl rfl)) (wgs_cons (wg_name (i := 4) sc__law_names.nd rfl (Or.inl rfl)) wgs_nil))) (wss_one (ws_if (wt_pw (ww_and (wt_cmpR (op_eqU hu) (wv 3) we_int (nomark _)) (ww_and1 (wt_cmpR (op_inU hu) (we_ix (ix_U hu1) (wv 0) we_int (fun _ _ => rfl)) (we_tup (wa_consts rfl)) (by with_unfolding_all rfl))))) (wss_one (ws_expr (we_call G__law_names (hr.mono (by lia)) rfl D__law_names.mg D__law_names.kp D__law_names.b .nil pass0 (wa_cons (wv 4) (wa_cons (we_op op_plus (wv 1) (we_lst (wa_cons (we_ix (ix_U hu1) (wv 0) we_int (fun _ _ => rfl)) wa_nil))) (wa_cons (wv 2) wa_nil)))))) (wss_one (ws_expr (we_call G__law_names (hr.mono (by lia)) rfl D__law_names.mg D__law_names.kp D__law_names.b .nil pass0 (wa_cons (wv 4) (wa_cons (wv 1) (wa_cons (wv 2) wa_nil)))))))))))), ?_⟩
  obtain ⟨X', gX'⟩ : ∃ X', X' = (cxOf CX0 P w K mg base ["question", "bound", "found", "k", "part"] "_law_names" (defScope (top 21)) f cdv A outer s H E).nox := ⟨_, rfl⟩
  try rw [<- gX']
  clear gX'
  have nf1 : fo ≠ d1 := fun z => by
    rw [z, h1] at hf
    injection hf with hf; injection hf with hf
    cases k1 with
    | nil => cases hf
    | cons a k1 => have := congrArg (fun l => (l.headD (Sum.inl 0, .non)).2) hf; cases this
  have nf2 : fo ≠ d2 := fun z => by
    rw [z, h2] at hf
    injection hf with hf; injection hf with hf
    cases k2 with
    | nil => cases hf
    | cons a k1 => have := congrArg (fun l => (l.headD (Sum.inl 0, .non)).2) hf; cases this
  have nb1 : b ≠ d1 := fun z => by rw [z, h1] at hb; cases hb
  have nb2 : b ≠ d2 := fun z => by rw [z, h2] at hb; cases hb
  obtain ⟨a, xs, rfl, ha⟩ := t_at iv
  have na1 : a ≠ d1 := fun z => by rw [z, h1] at ha; cases ha
  have na2 : a ≠ d2 := fun z => by rw [z, h2] at ha; cases ha
  have qp := nq_pos t
  refine join_seq (fun σ' H' => ∃ l1 : List Str, σ' = [some (.ref a), some (.ref b), some (.ref fo), none, none] /\ But d1 d2 H H' /\ H' d1 = some (.dK (nmD l1)) /\ H' d2 = some (.dK (nmD k2)) /\ l1.Nodup /\ l1.length <= k1.length + 1 /\ ∀ x, x ∈ l1 ↔ x ∈ k1 \/ (t = varN x /\ x ∉ bs)) ?tl fun Kt tail => ?mn
  case mn =>
    have no : (∀ x, ¬ (t = varN x /\ x ∉ bs)) -> Kt [some (.ref a), some (.ref b), some (.ref fo), none, none] H := fun n => tail _ _ ⟨k1, rfl, .refl _, h1, h2, nd1, by lia, fun x => ⟨.inl, fun z => z.elim id fun z => absurd z (n x)⟩⟩
    refine ⟨_, rfl, ixt (SqT.of ha) at0 (.inl ⟨rfl, _, rfl, ?_⟩)⟩
    refine ite2 (fun e => ?_) (fun e => iteF (no fun x z => vs_ne e (by rw [z.1]; rfl)))
    obtain ⟨x, rfl⟩ := th_var th (vs_str e)
    obtain ⟨a', zz, ea, ha'⟩ := t_txt iv
    cases ea
    refine ⟨_, rfl, ixt (SqT.of ha') at1 ⟨_, rfl, .inl ⟨b, bs.map V.str, rfl, .inl (SqL.of hb), rfl, flat_strs bs, _, rfl, ?_⟩⟩⟩
    have vx : ∀ z, Tr.node (Str.ofString "var") [.txt x] [] = varN z -> x = z := fun z q => by
      unfold varN at q
      injection q with _ q
      injection q with q
      injection q with q
    refine ite2 (fun e2 => ?_) (fun e2 => ?_)
    · have nb : x ∉ bs := fun z => by
        have := (inV_str x bs).mpr z
        rw [this] at e2
        revert e2; decide
      refine ⟨_, rfl, .inr (.inr (.inr ⟨fo, _, rfl, gF1 hf, _, rfl, ixt (SqT.of ha') at1 (.inr ⟨d1, _, rfl, DPut.k (k := Sum.inr x) h1 (line1 (by rw [nmD_len]; lia)), ?_⟩)⟩))⟩
      obtain ⟨l, el, ndl, ml, ll⟩ := nm_put x nd1
      rw [el]
      refine tail _ _ ⟨l, rfl, .l, upd_same, by rw [upd_ne (Ne.symm n12)]; exact h2, ndl, ll, fun z => (ml z).trans (or_congr Iff.rfl ⟨fun q => by rw [q]; exact ⟨rfl, nb⟩, fun q => (vx z q.1).symm⟩)⟩
    · refine no fun z q => e2 ?_
      have := vx z q.1
      subst this
      have : inV (.str x) (bs.map V.str) = false := by
        rw [Bool.eq_false_iff]
        exact fun z => q.2 ((inV_str x bs).mp z)
      rw [this]; rfl
  case tl =>
    rintro σ' H1 ⟨l1, rfl, B1, h11, h12, nl1, ll1, ml1⟩
    have ha1 := B1 _ _ na1 na2 ha
    have hb1 := B1 _ _ nb1 nb2 hb
    have hf1 := B1 _ _ nf1 nf2 hf
    have iv1 := IsDt.mono (B1.tups h1 h2) iv
    refine join_seq (fun σ' H' => ∃ l2 : List Str, σ' = [some (.ref a), some (.ref b), some (.ref fo), none, none] /\ But d1 d2 H H' /\ H' d1 = some (.dK (nmD l1)) /\ H' d2 = some (.dK (nmD l2)) /\ l2.Nodup /\ l2.length <= k2.length + 1 /\ ∀ x, x ∈ l2 ↔ x ∈ k2 \/ t = tabN x) ?tl2 fun Kt tail => ?mn2
    case mn2 =>
      refine ⟨_, rfl, ixt (SqT.of ha1) at0 (.inl ⟨rfl, _, rfl, ?_⟩)⟩
      refine ite2 (fun e => ?_) (fun e => tail _ _ ⟨k2, rfl, B1, h11, h12, nd2, by lia, fun x => ⟨.inl, fun z => z.elim id fun z => absurd (by rw [z]; rfl) (vs_ne e)⟩⟩)
      obtain ⟨x, rfl⟩ := th_table th (vs_str e)
      obtain ⟨a', zz, ea, ha'⟩ := t_txt iv1
      cases ea
      have vx : ∀ z, Tr.node (Str.ofString "table") [.txt x] [] = tabN z -> x = z := fun z q => by
        unfold tabN at q
        injection q with _ q
        injection q with q
        injection q with q
      refine ⟨_, rfl, .inr (.inr (.inr ⟨fo, _, rfl, gF2 hf1, _, rfl, ixt (SqT.of ha') at1 (.inr ⟨d2, _, rfl, DPut.k (k := Sum.inr x) h12 (line1 (by rw [nmD_len]; lia)), ?_⟩)⟩))⟩
      obtain ⟨l, el, ndl, ml, ll⟩ := nm_put x nd2
      rw [el]
      refine tail _ _ ⟨l, rfl, B1.trans .r, by rw [upd_ne n12]; exact h11, upd_same, ndl, ll, fun z => (ml z).trans (or_congr Iff.rfl ⟨fun q => by rw [q]; rfl, fun q => (vx z q).symm⟩)⟩
    case tl2 =>
      rintro σ' H2 ⟨l2, rfl, B2, h21, h22, nl2, ll2, ml2⟩
      have ha2 := B2 _ _ na1 na2 ha
      have iv2 := IsDt.mono (B2.tups h1 h2) iv
      refine ⟨_, rfl, _, t, n, rfl, iv2, th, fun ku kus H3 s3 hku iku => ⟨ku, _, rfl, SqT.of hku, ?_⟩⟩
      have lk : kus.length = (kids t).length := by rw [iku.length, List.length_map]
      have B3 : But d1 d2 H H3 := B2.trans (.same s3)
      refine ⟨fun i m σ H6 => ∃ (m1 m2 : List Str) (o3 o4 : Option V), m + i = (kids t).length /\ σ = [some (.ref a), some (.ref b), some (.ref fo), o3, o4] /\ But d1 d2 H3 H6 /\ H6 d1 = some (.dK (nmD m1)) /\ H6 d2 = some (.dK (nmD m2)) /\ m1.Nodup /\ m2.Nodup /\ (∀ x, x ∈ m1 ↔ x ∈ l1 \/ ∃ (j : Nat) (k : Tr), j < i /\ (kids t)[j]? = some k /\ Fv x (bs ++ bnd t j) k) /\ (∀ x, x ∈ m2 ↔ x ∈ l2 \/ ∃ (j : Nat) (k : Tr), j < i /\ (kids t)[j]? = some k /\ Tb x k) /\ m1.length <= k1.length + 1 + (((kids t).take i).map nq).sum /\ m2.length <= k2.length + 1 + (((kids t).take i).map nq).sum,
        ⟨(kids t).length, l1, l2, none, none, rfl, rfl, .refl _, s3 _ _ h21, s3 _ _ h22, nl1, nl2, fun x => ⟨.inl, fun z => z.elim id fun ⟨j, _, h, _⟩ => absurd h (Nat.not_lt_zero _)⟩, fun x => ⟨.inl, fun z => z.elim id fun ⟨j, _, h, _⟩ => absurd h (Nat.not_lt_zero _)⟩, by simpa using ll1, by simpa using ll2⟩, ?_⟩
      rintro i m σ H6 ⟨m1, m2, o3, o4, hm, rfl, B6, h61, h62, nm1, nm2, mm1, mm2, lm1, lm2⟩
      have h31 := s3 _ _ h21
      have h32 := s3 _ _ h22
      have nk1 : ku ≠ d1 := fun z => by rw [z, h31] at hku; cases hku
      have nk2 : ku ≠ d2 := fun z => by rw [z, h32] at hku; cases hku
      have hk6 := B6 _ _ nk1 nk2 hku
      by_cases hi : i < (kids t).length
      · have hki : kus[i]? = some kus[i] := List.getElem?_eq_getElem (by lia)
        have ekd : (kids t)[i]? = some (kids t)[i] := List.getElem?_eq_getElem hi
        obtain ⟨kd, ekd'⟩ : ∃ kd, kd = (kids t)[i] := ⟨_, rfl⟩
        rw [<- ekd'] at ekd
        have tl' := take_lt ekd
        refine .inr (for_hide ⟨_, _, SqT.of hk6, hki⟩ (fun σ' H7 => ∃ (m1' m2' : List Str) (o3 o4 : Option V), σ' = [some (.ref a), some (.ref b), some (.ref fo), o3, o4] /\ But d1 d2 H3 H7 /\ H7 d1 = some (.dK (nmD m1')) /\ H7 d2 = some (.dK (nmD m2')) /\ m1'.Nodup /\ m2'.Nodup /\ (∀ x, x ∈ m1' ↔ x ∈ m1 \/ Fv x (bs ++ bnd t i) kd) /\ (∀ x, x ∈ m2' ↔ x ∈ m2 \/ Tb x kd) /\ m1'.length <= m1.length + nq kd /\ m2'.length <= m2.length + nq kd) (fun σ' H7 hW => ?_) fun E2 toN2 _ => ?_)
        · obtain ⟨m1', m2', o3, o4, rfl, B7, h71, h72, n71, n72, q1, q2, l71, l72⟩ := hW
          have ts := take_sum ekd
          refine ⟨m - 1, by lia, m1', m2', o3, o4, by lia, rfl, B7, h71, h72, n71, n72, fun x => ?_, fun x => ?_, by lia, by lia⟩
          · rw [q1, mm1]
            constructor
            · rintro ((h | ⟨j, k, hj, h⟩) | h)
              · exact .inl h
              · exact .inr ⟨j, k, by lia, h⟩
              · exact .inr ⟨i, kd, by lia, ekd, h⟩
            · rintro (h | ⟨j, k, hj, h, hF⟩)
              · exact .inl (.inl h)
              · rcases Nat.lt_or_ge j i with g | g
                · exact .inl (.inr ⟨j, k, g, h, hF⟩)
                · obtain rfl : j = i := by lia
                  rw [ekd] at h
                  cases h
                  exact .inr hF
          · rw [q2, mm2]
            constructor
            · rintro ((h | ⟨j, k, hj, h⟩) | h)
              · exact .inl h
              · exact .inr ⟨j, k, by lia, h⟩
              · exact .inr ⟨i, kd, by lia, ekd, h⟩
            · rintro (h | ⟨j, k, hj, h, hF⟩)
              · exact .inl (.inl h)
              · rcases Nat.lt_or_ge j i with g | g
                · exact .inl (.inr ⟨j, k, g, h, hF⟩)
                · obtain rfl : j = i := by lia
                  rw [ekd] at h
                  cases h
                  exact .inr hF
        intro x H7 hy
        obtain ⟨pt, rfl, hpt, x', hx', rfl⟩ := hy
        have e7 := hx' _ (SqT.of hk6)
        rw [hki] at e7
        cases e7
        obtain ⟨kd', e8, ikd⟩ := iku.get (i := i) (d := tdat kd) (by rw [List.getElem?_map, ekd]; rfl)
        rw [hki] at e8
        cases e8
        have s7 := same_new hpt (.tup [.int i, kus[i]])
        have hpt7 : (upd H6 pt (.tup [.int i, kus[i]])) pt = some (.tup [.int i, kus[i]]) := upd_same
        generalize upd H6 pt (.tup [.int i, kus[i]]) = H7 at s7 hpt7 ⊢
        have B7 : But d1 d2 H3 H7 := B6.trans (.same s7)
        have t37 : Tups H3 H7 := B7.tups h31 h32
        have B07 : But d1 d2 H H7 := B3.trans B7
        have ha7 := B07 _ _ na1 na2 ha
        have hb7 := B07 _ _ nb1 nb2 hb
        have hf7 := B07 _ _ nf1 nf2 hf
        have h71 := s7 _ _ h61
        have h72 := s7 _ _ h62
        have ik7 := IsDt.mono t37 ikd
        refine ⟨pt, _, rfl, SqT.of hpt7, rfl, _, _, rfl, _, _, rfl, rfl, ?_⟩
        obtain ⟨e, he, thk⟩ := th.sub kd (List.mem_of_getElem? ekd)
        cases n with
        | zero => lia
        | succ n =>
        have thk := thk.mono (show e <= n by lia)
        have bl := bnd_len t i
        have done : ∀ (bn : List Str) (b' : Addr) (H8 : Hp) (X0 : XK), bn = bnd t i -> But d1 d2 H7 H8 -> H8 d1 = some (.dK (nmD m1)) -> H8 d2 = some (.dK (nmD m2)) -> H8 b' = some (.lst ((bs ++ bn).map V.str)) -> spNms n [kus[i], .ref b', .ref fo] H8 (fun _ H9 => E2.nx (([some (.ref a), some (.ref b), some (.ref fo), o3, o4].set 3 (some (V.int (i : Int)))).set 4 (some kus[i])) H9) X0 := fun bn b' H8 X0 ebn B8 h81 h82 hb8 => by
          subst ebn
          have nfo := (B07.trans B8) _ _ nf1 nf2 hf
          exact ⟨_, kd, b', fo, d1, d2, bs ++ bnd t i, m1, m2, rfl, IsDt.mono (B8.tups h71 h72) ik7, thk, hb8, nfo, h81, h82, n12, nm1, nm2, by rw [List.length_append]; lia, by lia, by lia, fun H9 q1 q2 B9 h91 h92 nq1 nq2 mq1 mq2 lq1 lq2 => toN2 _ _ ⟨q1, q2, _, _, rfl, B7.trans (B8.trans B9), h91, h92, nq1, nq2, mq1, mq2, lq1, lq2⟩⟩
        have plain : bnd t i = [] -> ∀ H8, Same H7 H8 -> spNms n [kus[i], .ref b, .ref fo] H8 (fun _ H9 => E2.nx (([some (.ref a), some (.ref b), some (.ref fo), o3, o4].set 3 (some (V.int (i : Int)))).set 4 (some kus[i])) H9) E0 := fun z H8 s8 => done [] b H8 E0 z.symm (.same s8) (s8 _ _ h71) (s8 _ _ h72) (by rw [List.append_nil]; exact s8 _ _ hb7)
        refine ⟨_, rfl, .inl ⟨rfl, _, rfl, ?_⟩⟩
        refine ite2 (fun e1 => ?_) (fun e1 => iteF ?_)
        · have ei : i = 1 := by have := of_decide_eq_true e1; injection this with this; lia
          subst ei
          refine ⟨_, rfl, ixt (SqT.of ha7) at0 ?_⟩
          refine ⟨(by show 2 <= sizeLine; decide), fun q hq => .inl ⟨q, _, rfl, .inr (SqT.of upd_same), rfl, rfl, _, rfl, ?_⟩⟩
          have s8 := same_new hq (.tup [V.str (Str.ofString "for"), V.str (Str.ofString "let")])
          generalize upd H7 q (.tup [V.str (Str.ofString "for"), V.str (Str.ofString "let")]) = H8 at s8 ⊢
          refine ite2 (fun e2 => ?_) (fun e2 => ?_)
          · have em : wT t ∈ [Str.ofString "for", Str.ofString "let"] := (inV_str _ _).mp e2
            have em : wT t = Str.ofString "for" \/ wT t = Str.ofString "let" := by simpa using em
            obtain ⟨w', z, q1, q2, et, hw'⟩ := th_bind th em
            have iv8 := IsDt.mono (((B3.trans B7).tups h1 h2).trans s8.tups) iv
            have eb := bnd_node w' z q1 q2 hw'
            rw [<- et] at eb
            rw [et] at iv8
            obtain ⟨a', zz, ea, ha'⟩ := t_txt iv8
            cases ea
            refine ⟨_, rfl, _, rfl, _, rfl, ixt (SqT.of ha') at1 ⟨(by show 1 <= sizeLine; decide), fun l hl => ?_⟩⟩
            have s9 := s8.trans (same_new hl (.lst [.str z]))
            have hl9 : (upd H8 l (.lst [.str z])) l = some (.lst [.str z]) := upd_same
            generalize upd H8 l (.lst [.str z]) = H9 at s9 hl9 ⊢
            refine .inr (.inr (.inl ⟨b, l, _, _, rfl, rfl, s9 _ _ hb7, hl9, Nat.le_of_lt (line1 (by rw [List.length_map]; show bs.length + 1 <= _; lia)), fun p hp => ?_⟩))
            refine ⟨_, rfl, ?_⟩
            have s10 := s9.trans (same_new hp (.lst (bs.map V.str ++ [.str z])))
            exact done [z] p _ E0 eb.symm (.same s10) (s10 _ _ h71) (s10 _ _ h72) (by rw [upd_same, List.map_append]; rfl)
          · refine ⟨_, rfl, _, rfl, _, rfl, ?_⟩
            refine plain (bnd_no fun z => e2 ?_) H8 s8
            exact (inV_str _ [Str.ofString "for", Str.ofString "let"]).mpr (by simpa using z.1)
        · refine ⟨_, rfl, _, rfl, _, rfl, ?_⟩
          exact plain (bnd_no fun z => e1 (by rw [z.2]; rfl)) H7 (.refl _)
      · refine .inl ⟨⟨_, SqT.of hk6, by lia⟩, ?_⟩
        have ei : i = (kids t).length := by lia
        subst ei
        rw [List.take_length] at lm1 lm2
        have qk := nq_kids t
        refine fin H6 m1 m2 (B3.trans B6) h61 h62 nm1 nm2 (fun x => ?_) (fun x => ?_) (by lia) (by lia)
        · rw [mm1, ml1, Fv.iff, or_assoc]
          refine or_congr Iff.rfl (or_congr Iff.rfl ⟨fun ⟨j, k, _, h1, h2⟩ => ⟨j, k, h1, h2⟩, fun ⟨j, k, h1, h2⟩ => ⟨j, k, (List.getElem?_eq_some_iff.mp h1).1, h1, h2⟩⟩)
        · rw [mm2, ml2, Tb.iff, or_assoc]
          refine or_congr Iff.rfl (or_congr Iff.rfl ⟨fun ⟨j, k, _, h1, h2⟩ => ⟨j, k, h1, h2⟩, fun ⟨j, k, h1, h2⟩ => ⟨j, k, (List.getElem?_eq_some_iff.mp h1).1, h1, h2⟩⟩)
theorem names_all (T : Tx mg) (D__law_names : Df K mg "_law_names" (top 21) f fd ["question", "bound", "found"]) (D__law_below : Df K mg "_law_below" (top 20) f_below fd_below ["question"]) (G__law_below : FnOk P w K mg base CX0 1 f_below fd_below ["question"] spUnder) :
    ∀ n : Nat, FnOk P w K mg base CX0 (n + 2) f fd ["question", "bound", "found"] (spNms n)
  | 0 => ok_names (k := 1) (by decide) T D__law_names ⟨fun _ _ _ _ h => h.elim, fun _ _ _ _ _ _ _ _ _ _ _ _ _ h => h.elim⟩ D__law_below G__law_below
  | n + 1 => ok_names (k := n + 2) (by lia) T D__law_names (names_all T D__law_names D__law_below G__law_below n) D__law_below G__law_below
end
end K14
end
section
namespace K14
open PySem L2 Kn
open PyProof.Rows (sortedS risingS)
theorem ris_pw : ∀ (l : List Str) (p : Str), risingS p l = true -> (p :: l).Pairwise fun a b => ¬ b.cps.toList < a.cps.toList
  | [], p, _ => List.pairwise_singleton _ _
  | x :: r, p, h => by
    unfold risingS at h
    rw [Bool.and_eq_true, PyProof.Rows.ltCps_eq] at h
    have ih := ris_pw r x h.2
    have px : ¬ x.cps.toList < p.cps.toList := by simpa using h.1
    refine List.pairwise_cons.mpr ⟨fun y hy => ?_, ih⟩
    rcases List.mem_cons.mp hy with rfl | hy
    · exact px
    · exact (List.le_trans (α := Nat) px ((List.pairwise_cons.mp ih).1 y hy) : p.cps.toList <= y.cps.toList)
theorem sorted_eq {l m : List Str} (h1 : sortedS l = true) (h2 : sortedS m = true) (h : l.Perm m) : l = m := by
  have k1 : l.Pairwise fun a b => ¬ b.cps.toList < a.cps.toList := by cases l with | nil => exact .nil | cons x r => exact ris_pw _ _ h1
  have k2 : m.Pairwise fun a b => ¬ b.cps.toList < a.cps.toList := by cases m with | nil => exact .nil | cons x r => exact ris_pw _ _ h2
  refine h.eq_of_pairwise (fun a b _ _ x y => ?_) k1 k2
  have e : a.cps.toList = b.cps.toList := List.le_antisymm (α := Nat) x y
  obtain ⟨a⟩ := a
  obtain ⟨b⟩ := b
  simp only [Str.mk.injEq]
  exact Array.toList_inj.mp e
theorem for_rangeH {lo : Int} {n : Nat} {g : TG} {tb : TS} {D : Ends} {σ : St} {H : Hp} (Pv : Nat -> St -> Hp -> Prop) (h0 : Pv 0 σ H)
    (hs : ∀ (E : Ends) i σ H, i < n -> Pv i σ H -> (∀ σ H, Pv (i + 1) σ H -> E.nx σ H) -> g (.int (lo + i)) σ H fun σ2 H2 => tb E σ2 H2) (hd : ∀ σ H, Pv n σ H -> D.nx σ H) :
    ∃ W : Nat -> Nat -> St -> Hp -> Prop, (∃ m, W 0 m σ H) /\ ∀ i m σ H, W i m σ H ->
      ((Itr lo n).stop i H /\ D.nx σ H) \/ ((Itr lo n).go i H /\ ∃ N : St -> Hp -> Prop, (∀ σ' H', N σ' H' -> ∃ m', m' < m /\ W (i + 1) m' σ' H') /\ ∀ x H', (Itr lo n).yld i H x H' -> g x σ H' fun σ2 H2 => tb { D with nx := N, ct := N, bk := D.nx } σ2 H2) :=
  for_range Pv h0 (fun i σ H hi q => hs _ i σ H hi q fun _ _ h => h) hd
theorem dep_strs (l : List Str) : depL (l.map Dt.str) <= depMax := by
  induction l with
  | nil => decide
  | cons x l ih => rw [List.map_cons, depL, Dt.dep]; lia
section
variable {P : Program} {w : World} {K : PySem.W.Frag} {mg : Str -> Option Value} {base : Heap} {f f_below f_names f_same f_under f_told f_free f_tables : Addr} {fd fd_below fd_names fd_same fd_under fd_told fd_free fd_tables : FuncData}
theorem sc__law_told : FnScope ["found", "due"] ["found", "due"] (defScope (top 22)) := ⟨rfl, rfl, rfl, by decide +kernel, rfl, by decide +kernel, by decide +kernel⟩
noncomputable def spTold : Sp := fun vs H Q _ => ∃ (p q : Addr) (xs : List Str), vs = [.ref p, .ref q] /\ H p = some (.lst (xs.map V.str)) /\ H q = some (.lst (xs.map V.str)) /\ xs.length <= 1000 /\ ∀ H', (∀ c o, c ≠ p -> H c = some o -> H' c = some o) -> Q (.bl true) H'
theorem ok_told (T : Tx mg) (D : Df K mg "_law_told" (top 22) f fd ["found", "due"]) : FnOk P w K mg base CX0 1 f fd ["found", "due"] spTold := by
  refine D.fn.okH sc__law_told (fun vs H Q E h => ?_) (fun cdv A outer s H vs Q E hr h => ?_)
  · obtain ⟨p, q, xs, rfl, _⟩ := h; rfl
  obtain ⟨p, q, xs, rfl, hp, hq, hl, fin⟩ := h
  have hu := u110 hr
  have hu0 := u0 hr
  have hu1 := hu_of hr
  refine ⟨_, (wss_cons (ws_if (wt_pw (ww_or (wt_not (wt_val (we_callB call_isA rfl T.z_isinstance bt_isinstance (wa_cons (wv 0) (wa_cons (we_bltn rfl T.z_list bt_list (relv_ty _)) wa_nil))))) (ww_or (wt_cmpR (op_neUL hu) (wv 0) (wv 1) (nomark _)) (ww_or1 (wt_cmpR (op_neUL hu) (we_lc (Nt := ["name"]) (fr := []) (LcOk.of (sc := defScope (top 22)) (N := ["found", "due"]) rfl rfl (by decide +kernel)) rfl (wi_U (wv 0)) (fun z => wg_name (i := 0) (by show (["name"] : List Str).Nodup; decide +kernel) rfl (Or.inl rfl) (.inr rfl)) (fun z => tgt_name (by decide)) (fun z => wif_one (wt_not (wt_val (we_callB call_isA rfl T.z_isinstance bt_isinstance (wa_cons (wv 0) (wa_cons (we_bltn rfl T.z_str bt_str (relv_ty _)) wa_nil)))))) (fun z => (wv 0))) (we_lst wa_nil) (nomark _)))))) (wss_one (ws_ret we_bl)) wss_nil)
      (wss_cons (ws_expr (we_bm PySem.F.plainAttrs_list PySem.F.slot_list_append PySem.F.type_list_append mt_append (wv 0) (wa_cons we_str wa_nil)))
      (wss_one (ws_ret we_bl)))), ?_⟩
  obtain ⟨X', gX'⟩ : ∃ X', X' = (cxOf CX0 P w K mg base ["found", "due"] "_law_told" (defScope (top 22)) f cdv A outer s H E).nox := ⟨_, rfl⟩
  try rw [<- gX']
  clear gX'
  refine ⟨_, rfl, .inl ⟨_, _, _, true, rfl, .lst hp, ist_self _, _, rfl, iteF ?_⟩⟩
  refine ⟨_, rfl, _, rfl, .inr (.inr (.inr ⟨p, q, _, _, _, rfl, rfl, hp, hq, strs_isDts xs, strs_isDts xs, dep_strs xs, _, rfl, iteF ?_⟩))⟩
  refine .inl ⟨_, rfl, p, rfl, ⟨_, SqL.of hp⟩, ?_⟩
  refine ⟨fun i m zs H' => H' = H /\ m + i = xs.length /\ zs = [], ⟨xs.length, rfl, rfl, rfl⟩, ?_⟩
  rintro i m zs H' ⟨rfl, hm, rfl⟩
  refine ⟨(by show 0 < sizeLine; decide), ?_⟩
  by_cases hi : i < xs.length
  · have hyi : (xs.map V.str)[i]? = some (.str xs[i]) := by rw [List.getElem?_map, List.getElem?_eq_getElem hi]; rfl
    refine .inr ⟨⟨_, _, SqL.of hp, hyi⟩, fun z x H5 hy => ?_⟩
    obtain ⟨rfl, hx5⟩ := hy
    obtain rfl : V.str xs[i] = x := by have := hx5 _ (SqL.of hp); rw [hyi] at this; injection this
    refine ⟨_, rfl, .inl ⟨_, _, _, true, rfl, .str _, ist_self _, _, rfl, iteF ?_⟩⟩
    exact ⟨m - 1, by lia, rfl, by lia, rfl⟩
  · refine .inl ⟨⟨_, SqL.of hp, by rw [List.length_map]; lia⟩, fun l hl' => ⟨(by show 0 <= sizeLine; decide), fun l2 hl2 => ?_⟩⟩
    have s2 := (same_new hl' (.lst [])).trans (same_new hl2 (.lst []))
    refine .inr (.inr (.inl ⟨l, l2, [], rfl, rfl, same_new hl2 _ _ _ upd_same, upd_same, _, rfl, iteF ?_⟩))
    generalize upd (upd H' l (.lst [])) l2 (.lst []) = H2 at s2 ⊢
    refine ⟨_, rfl, .inl ⟨rfl, _, SqL.of (s2 _ _ hp)⟩, p, _, _, rfl, rfl, s2 _ _ hp, line1 (by rw [List.length_map]; lia), ?_⟩
    exact fin _ fun c o n h => by rw [upd_ne n]; exact s2 _ _ h
theorem sc__law_right : FnScope ["question", "found", "turn"] ["question"] (defScope (top 23)) := ⟨rfl, rfl, rfl, by decide +kernel, rfl, by decide +kernel, by decide +kernel⟩
noncomputable def spRight : Sp := fun vs H Q _ => ∃ (v : V) (t : Tr), vs = [v] /\ IsDt H (tdat t) v /\ TH 24 t /\ nq t <= 200 /\ ∀ H', Same H H' -> Q (.bl true) H'
theorem ok_right (T : Tx mg) (D : Df K mg "_law_right" (top 23) f fd ["question"])
    (D_under : Df K mg "under" (top 2) f_under fd_under ["question"]) (G_under : FnOk P w K mg base CX0 1 f_under fd_under ["question"] spUnder)
    (D__law_below : Df K mg "_law_below" (top 20) f_below fd_below ["question"]) (G__law_below : FnOk P w K mg base CX0 1 f_below fd_below ["question"] spUnder)
    (D__law_names : Df K mg "_law_names" (top 21) f_names fd_names ["question", "bound", "found"]) (G__law_names : FnOk P w K mg base CX0 26 f_names fd_names ["question", "bound", "found"] (spNms 24))
    (D__law_same : Df K mg "_law_same" (top 19) f_same fd_same ["found", "due"]) (G__law_same : FnOk P w K mg base CX0 90 f_same fd_same ["found", "due"] (spSame 88))
    (D__law_told : Df K mg "_law_told" (top 22) f_told fd_told ["found", "due"]) (G__law_told : FnOk P w K mg base CX0 1 f_told fd_told ["found", "due"] spTold)
    (D_free : Df K mg "free" (top 5) f_free fd_free ["question"]) (G_free : FnOk P w K mg base CX0 2 f_free fd_free ["question"] spFree)
    (D_tables : Df K mg "tables" (top 4) f_tables fd_tables ["question"]) (G_tables : FnOk P w K mg base CX0 3 f_tables fd_tables ["question"] spTables) : FnOk P w K mg base CX0 91 f fd ["question"] spRight := by
  refine D.fn.okH (k := 90) sc__law_right (fun vs H Q E h => ?_) (fun cdv A outer s H vs Q E hr h => ?_)
  · obtain ⟨v, t, rfl, _⟩ := h; rfl
  obtain ⟨v, t, rfl, iv, th, n2, fin⟩ := h
  have hu := u110 hr
  have hu0 := u0 hr
  have hu1 := hu_of hr
  refine ⟨_, (wss_cons (ws_set (i := 1) sc__law_right.nd rfl (Or.inl rfl) (we_disp (wps_cons we_str we_dnewK (wps_cons we_str we_dnewK wps_nil)) rfl rfl (by simp) (by decide)))
      (wss_cons (ws_expr (we_call G__law_names (hr.mono (by lia)) rfl D__law_names.mg D__law_names.kp D__law_names.b .nil pass0 (wa_cons (wv 0) (wa_cons (we_lst wa_nil) (wa_cons (wv 1) wa_nil)))))
      (wss_cons (ws_if (wt_not (wt_val (we_call G__law_same (hr.mono (by lia)) rfl D__law_same.mg D__law_same.kp D__law_same.b .nil pass0 (wa_cons (we_call G_under (hr.mono (by lia)) rfl D_under.mg D_under.kp D_under.b .nil pass0 (wa_cons (wv 0) wa_nil)) (wa_cons (we_call G__law_below (hr.mono (by lia)) rfl D__law_below.mg D__law_below.kp D__law_below.b .nil pass0 (wa_cons (wv 0) wa_nil)) wa_nil))))) (wss_one (ws_ret we_bl)) wss_nil)
      (wss_cons (ws_for PassesOwn.never rfl (wi_range1 rfl T.z_range (wa_cons we_int wa_nil)) (wg_name (i := 2) sc__law_right.nd rfl (Or.inl rfl)) (wss_cons (ws_if (wt_not (wt_val (we_call G__law_told (hr.mono (by lia)) rfl D__law_told.mg D__law_told.kp D__law_told.b .nil pass0 (wa_cons (we_call G_free (hr.mono (by lia)) rfl D_free.mg D_free.kp D_free.b .nil pass0 (wa_cons (wv 0) wa_nil)) (wa_cons (we_callB (call_sortDL rfl) rfl T.z_sorted bt_sorted (wa_cons (we_ix (ix_U hu1) (wv 1) we_str (fun _ _ => rfl)) wa_nil)) wa_nil))))) (wss_one (ws_ret we_bl)) wss_nil)
      (wss_one (ws_if (wt_not (wt_val (we_call G__law_told (hr.mono (by lia)) rfl D__law_told.mg D__law_told.kp D__law_told.b .nil pass0 (wa_cons (we_call G_tables (hr.mono (by lia)) rfl D_tables.mg D_tables.kp D_tables.b .nil pass0 (wa_cons (wv 0) wa_nil)) (wa_cons (we_callB (call_sortDL rfl) rfl T.z_sorted bt_sorted (wa_cons (we_ix (ix_U hu1) (wv 1) we_str (fun _ _ => rfl)) wa_nil)) wa_nil))))) (wss_one (ws_ret we_bl)) wss_nil))))
      (wss_one (ws_ret we_bl)))))), ?_⟩
  obtain ⟨X', gX'⟩ : ∃ X', X' = (cxOf CX0 P w K mg base ["question", "found", "turn"] "_law_right" (defScope (top 23)) f cdv A outer s H E).nox := ⟨_, rfl⟩
  try rw [<- gX']
  clear gX'
  intro fo hfo d1 hd1 d2 hd2
  have sA := (same_new hfo (.dK [])).trans ((same_new hd1 (.dK [])).trans (same_new hd2 (.dK [])))
  have hfA : (upd (upd (upd H fo (.dK [])) d1 (.dK [])) d2 (.dK [])) fo = some (.dK []) := same_new hd2 _ _ _ (same_new hd1 _ _ _ upd_same)
  have h1A : (upd (upd (upd H fo (.dK [])) d1 (.dK [])) d2 (.dK [])) d1 = some (.dK []) := same_new hd2 _ _ _ upd_same
  have h2A : (upd (upd (upd H fo (.dK [])) d1 (.dK [])) d2 (.dK [])) d2 = some (.dK []) := upd_same
  have n12 : d1 ≠ d2 := fun z => by rw [<- z, upd_same] at hd2; cases hd2
  have nf1 : fo ≠ d1 := fun z => by rw [<- z, upd_same] at hd1; cases hd1
  have nf2 : fo ≠ d2 := fun z => by rw [<- z, upd_ne nf1, upd_same] at hd2; cases hd2
  have z1 : H d1 = none := same_back (same_new hfo _) hd1
  have z2 : H d2 = none := same_back (same_new hfo _) (same_back (same_new hd1 _) hd2)
  generalize upd (upd (upd H fo (.dK [])) d1 (.dK [])) d2 (.dK []) = HA at sA hfA h1A h2A ⊢
  refine ⟨hfA, FoD d1 d2, rfl, (by show 2 <= 15; decide), ?_⟩
  rw [show mergeK [] (FoD d1 d2) = FoD d1 d2 from by rfl]
  have sB : Same H (upd HA fo (.dK (FoD d1 d2))) := fun c o e => by rw [upd_ne (ne_of_none e hfo)]; exact sA c o e
  have hfB : (upd HA fo (.dK (FoD d1 d2))) fo = some (.dK (FoD d1 d2)) := upd_same
  have h1B : (upd HA fo (.dK (FoD d1 d2))) d1 = some (.dK (nmD [])) := by rw [upd_ne (Ne.symm nf1)]; exact h1A
  have h2B : (upd HA fo (.dK (FoD d1 d2))) d2 = some (.dK (nmD [])) := by rw [upd_ne (Ne.symm nf2)]; exact h2A
  generalize upd HA fo (.dK (FoD d1 d2)) = HB at sB hfB h1B h2B ⊢
  refine ⟨_, rfl, (by show 0 <= sizeLine; decide), fun b hb => ⟨_, rfl, ?_⟩⟩
  have sC := same_new hb (.lst [])
  have hbC : (upd HB b (.lst [])) b = some (.lst []) := upd_same
  generalize upd HB b (.lst []) = HC at sC hbC ⊢
  have sBC := sB.trans sC
  refine ⟨v, t, b, fo, d1, d2, [], [], [], rfl, IsDt.mono sBC.tups iv, th, hbC, sC _ _ hfB, sC _ _ h1B, sC _ _ h2B, n12, .nil, .nil, by simp; lia, by simp; lia, by simp; lia, fun HD l1 l2 BD h1D h2D nl1 nl2 ml1 ml2 ll1 ll2 => ?_⟩
  have sD : Same H HD := fun c o e => BD c o (ne_of_none e z1) (ne_of_none e z2) (sBC c o e)
  have hfD := BD _ _ nf1 nf2 (sC _ _ hfB)
  have ml1' : ∀ x, x ∈ l1 ↔ Fv x [] t := fun x => by simpa using ml1 x
  have ml2' : ∀ x, x ∈ l2 ↔ Tb x t := fun x => by simpa using ml2 x
  have ivD := IsDt.mono sD.tups iv
  refine ⟨_, rfl, v, t, 24, rfl, ivD, th, fun a us HE sE ha ia => ⟨_, rfl, v, t, 24, rfl, IsDt.mono sE.tups ivD, th, fun a2 us2 HF sF ha2 ia2 => ?_⟩⟩
  have kd : Nd 88 (.tup ((kids t).map tdat)) := .tup _ (by rw [List.length_map]; have := th.len; lia) fun d hd => by
    obtain ⟨q, hq, rfl⟩ := List.mem_map.mp hd
    obtain ⟨e, he, hq'⟩ := th.sub q hq
    exact (nd_th hq').mono (by lia)
  refine ⟨.ref a, .ref a2, _, rfl, isDt_tup (sF _ _ ha) (IsDts.mono sF.tups ia), isDt_tup ha2 ia2, kd, fun HG sG => ⟨_, rfl, iteF ?_⟩⟩
  have sDG := sE.trans (sF.trans sG)
  have kD : ∀ (l : List Str) (kv : Key × V), kv ∈ nmD l -> ∃ s, kv.1 = Sum.inr s := fun l kv hk => by
    obtain ⟨x, _, rfl⟩ := List.mem_map.mp hk
    exact ⟨x, rfl⟩
  have eqS : ∀ (R : Str -> Prop) (l ys zs : List Str), l.Nodup -> (∀ x, x ∈ l ↔ R x) -> ys.Nodup -> sortedS ys = true -> (∀ x, x ∈ ys ↔ R x) -> (zs.map (Sum.inr : Str -> Key)).Perm ((nmD l).map (·.1)) -> sortedS zs = true -> zs = ys := fun R l ys zs nl ml ny sy my pz sz => by
    have pl : zs.Perm l := by
      unfold nmD at pz
      rw [List.map_map] at pz
      have pz : (zs.map (Sum.inr : Str -> Key)).Perm (l.map (Sum.inr : Str -> Key)) := pz
      have nz : zs.Nodup := by
        have : (l.map (Sum.inr : Str -> Key)).Nodup := List.Pairwise.map (Sum.inr : Str -> Key) (fun a b h e => h (by injection e)) nl
        exact List.Pairwise.of_map (Sum.inr : Str -> Key) (fun a b h e => h (by rw [e])) (pz.nodup_iff.mpr this)
      refine (List.perm_ext_iff_of_nodup nz nl).mpr fun x => ⟨fun hx => ?_, fun hx => ?_⟩
      · obtain ⟨y, hy, e⟩ := List.mem_map.mp (pz.mem_iff.mp (List.mem_map.mpr ⟨x, hx, rfl⟩))
        injection e with e
        rw [<- e]; exact hy
      · obtain ⟨y, hy, e⟩ := List.mem_map.mp (pz.mem_iff.mpr (List.mem_map.mpr ⟨x, hx, rfl⟩))
        injection e with e
        rw [<- e]; exact hy
    exact sorted_eq sz sy (pl.trans ((List.perm_ext_iff_of_nodup nl ny).mpr fun x => (ml x).trans (my x).symm))
  have lt1 : l1.length <= 1000 := by simp at ll1; lia
  have lt2 : l2.length <= 1000 := by simp at ll2; lia
  refine ⟨_, rfl, (by decide), (by decide), ?_⟩
  refine for_rangeH (n := 2) (fun j σ H' => ∃ o2 : Option V, σ = [some v, some (.ref fo), o2] /\ Same HD H') ⟨none, rfl, sDG⟩ (fun E2 j σ H' hj hW toN => ?_) (fun σ H' hW => ?_)
  · obtain ⟨o2, rfl, sH⟩ := hW
    refine join_seq (fun σ' H' => ∃ o2 : Option V, σ' = [some v, some (.ref fo), o2] /\ Same HD H') ?tl fun Kt tail => ?mn
    case mn =>
      refine ⟨_, rfl, v, t, rfl, IsDt.mono sH.tups ivD, th.mono (by decide), by lia, fun q ys H1 s1 hq0 hq ny sy my ly => ?_⟩
      have s1' := sH.trans s1
      refine ⟨_, rfl, .inr (.inr (.inr ⟨fo, _, rfl, gF1 (s1' _ _ hfD), d1, _, rfl, s1' _ _ h1D, kD l1, by rw [nmD_len]; lia, fun p zs hp pz sz => ?_⟩))⟩
      obtain rfl := eqS _ l1 ys zs nl1 ml1' ny sy my pz sz
      have s2 := same_new hp (.lst (zs.map V.str))
      refine ⟨q, p, zs, rfl, s2 _ _ hq, upd_same, ly, fun H3 k3 => ⟨_, rfl, iteF ?_⟩⟩
      exact tail _ _ ⟨_, rfl, fun c o e => k3 c o (ne_of_none (sH _ _ e) hq0) (s2 _ _ (s1' _ _ e))⟩
    case tl =>
      rintro σ' H1 ⟨o2, rfl, sH⟩
      refine ⟨_, rfl, v, t, rfl, IsDt.mono sH.tups ivD, th.mono (by decide), by lia, fun q ys H1 s1 hq0 hq ny sy my ly => ?_⟩
      have s1' := sH.trans s1
      refine ⟨_, rfl, .inr (.inr (.inr ⟨fo, _, rfl, gF2 (s1' _ _ hfD), d2, _, rfl, s1' _ _ h2D, kD l2, by rw [nmD_len]; lia, fun p zs hp pz sz => ?_⟩))⟩
      obtain rfl := eqS _ l2 ys zs nl2 ml2' ny sy my pz sz
      have s2 := same_new hp (.lst (zs.map V.str))
      refine ⟨q, p, zs, rfl, s2 _ _ hq, upd_same, ly, fun H3 k3 => ⟨_, rfl, iteF ?_⟩⟩
      exact toN _ _ ⟨_, rfl, fun c o e => k3 c o (ne_of_none (sH _ _ e) hq0) (s2 _ _ (s1' _ _ e))⟩
  · obtain ⟨o2, rfl, sH⟩ := hW
    exact fin _ (sD.trans sH)
end
end K14
end
section
namespace K14
open PySem L2 Kn
noncomputable def ME (σ : St) (H : Hp) (te : TE) (d : Dt) : Prop := ∀ H1, Same H H1 -> ∀ Q : VK, (∀ v H', Same H1 H' -> IsDt H' d v -> Q v H') -> te σ H1 Q
noncomputable def MA (σ : St) (H : Hp) (ta : TA) (ds : List Dt) : Prop := ∀ H1, Same H H1 -> ∀ R : List V -> Hp -> Prop, (∀ xs H', Same H1 H' -> IsDts H' ds xs -> R xs H') -> ta σ H1 R
noncomputable def ML (σ : St) (H : Hp) (te : TE) (ds : List Dt) : Prop := ∀ H1, Same H H1 -> ∀ Q : VK, (∀ l xs H', Same H1 H' -> H' l = some (.lst xs) -> IsDts H' ds xs -> Q (.ref l) H') -> te σ H1 Q
section
variable {σ : St} {H : Hp}
theorem me_str (s : Str) : ME σ H (tC (.str s)) (.str s) := fun H1 _ Q k => k _ _ (.refl _) (isDt_str _)
theorem me_int (i : Int) : ME σ H (tC (.int i)) (.int i) := fun H1 _ Q k => k _ _ (.refl _) (isDt_int _)
theorem me_var {i : Nat} {v : V} {d : Dt} (e : σ[i]? = some (some v)) (h : IsDt H d v) : ME σ H (tVar i) d := fun H1 s Q k => ⟨v, e, k _ _ (.refl _) (IsDt.mono s.tups h)⟩
theorem ma_nil : MA σ H tNil [] := fun H1 _ R k => k [] _ (.refl _) .nil
theorem ma_cons {te : TE} {ta : TA} {d : Dt} {ds : List Dt} (a : ME σ H te d) (b : MA σ H ta ds) : MA σ H (tCons te ta) (d :: ds) := fun H1 s R k =>
  a H1 s _ fun v H2 s2 h => b H2 (s.trans s2) _ fun xs H3 s3 hs => k _ _ (s2.trans s3) (.cons (IsDt.mono s3.tups h) hs)
theorem me_tup {ta : TA} {ds : List Dt} (l : Nat.ble ds.length 10 = true) (a : MA σ H ta ds) : ME σ H (tTup ta) (.tup ds) := fun H1 s Q k =>
  a H1 s _ fun xs H2 s2 hs => ⟨Nat.le_of_lt (line1 (by rw [hs.length]; have := Nat.le_of_ble_eq_true l; lia)), fun p hp => k _ _ (s2.trans (same_new hp _)) (isDt_new hp hs)⟩
theorem ml_lst {ta : TA} {ds : List Dt} (l : Nat.ble ds.length 10 = true) (a : MA σ H ta ds) : ML σ H (tLst ta) ds := fun H1 s Q k =>
  a H1 s _ fun xs H2 s2 hs => ⟨Nat.le_of_lt (line1 (by rw [hs.length]; have := Nat.le_of_ble_eq_true l; lia)), fun p hp => k _ _ _ (s2.trans (same_new hp _)) upd_same (IsDts.mono (same_new hp _).tups hs)⟩
theorem ml_cat {A B : R2} {C : R2} {i : Nat} {l : Addr} {xs : List V} {es ds : List Dt} {te : TE} (e : σ[i]? = some (some (.ref l))) (hl : H l = some (.lst xs)) (hs : IsDts H es xs) (n : Nat.ble (es.length + ds.length) 20 = true) (b : ML σ H te ds) :
    ML σ H (tOp (fun x y H Q => A x y H Q \/ (B x y H Q \/ (rCat x y H Q \/ C x y H Q))) (tVar i) te) (es ++ ds) := fun H1 s Q k =>
  ⟨_, e, b H1 s _ fun l2 ys H2 s2 h2 i2 => .inr (.inr (.inl ⟨l, l2, xs, ys, rfl, rfl, s2 _ _ (s _ _ hl), h2, Nat.le_of_lt (line1 (by rw [hs.length, i2.length]; have := Nat.le_of_ble_eq_true n; lia)), fun p hp => k _ _ _ (s2.trans (same_new hp _)) upd_same ((IsDts.mono (s.trans (s2.trans (same_new hp _))).tups hs).append (IsDts.mono (same_new hp _).tups i2))⟩))⟩
end
theorem asg_ml {te : TE} {i : Nat} {u : TS} {D : Ends} {σ : St} {H : Hp} {ds : List Dt} (m : ML σ H te ds) (k : ∀ l xs H', Same H H' -> H' l = some (.lst xs) -> IsDts H' ds xs -> u D (σ.set i (some (.ref l))) H') : tSeq (tAsg te (gName i)) u D σ H := m H (.refl _) _ k
theorem asg_ix {te tb : TE} {r : R2} {i : Nat} {D : Ends} {σ : St} {H : Hp} {ds : List Dt} (m : ML σ H te ds) (k : ∀ l xs H', Same H H' -> H' l = some (.lst xs) -> IsDts H' ds xs -> tb σ H' fun y H2 => r (.ref l) y H2 fun x H1 => D.nx (σ.set i (some x)) H1) : tAsg (tOp r te tb) (gName i) D σ H := m H (.refl _) _ k
theorem td_node (w : Str) (as : List At) (ps : List Tr) : tdat (.node w as ps) = .tup (.str w :: (as.map atD ++ ps.map tdat)) := by rw [tdat, tdatL_map]
theorem td_row (n : Str) (t : Tr) : tdat (.row [(n, t)]) = .tup [.str "row", .tup [.tup [.str n, tdat t]]] := by rw [tdat, tdatR, tdatR]
noncomputable def o1 (n : Str) (t o : Tr) : List Tr := [.node (Str.ofString "one") [] [t], .node (Str.ofString "for") [.txt n] [t, o], .node (Str.ofString "for") [.txt n] [o, t]]
noncomputable def o2 (n : Str) (t o : Tr) : List Tr := [.node (Str.ofString "let") [.txt n] [t, o], .node (Str.ofString "let") [.txt n] [o, t], .row [(n, t)]]
noncomputable def o3 (t o : Tr) : List Tr := [.node (Str.ofString "both") [] [t, o], .node (Str.ofString "both") [] [o, t], .node (Str.ofString "times") [.int 2] [t]]
noncomputable def o4 (n : Str) (t : Tr) : List Tr := [.node (Str.ofString "at") [.txt n] [t]]
theorem o_eq (n : Str) (t o : Tr) : (((o1 n t o ++ o2 n t o) ++ o3 t o) ++ o4 n t).map tdat = [.tup [.str (Str.ofString "one"), tdat t], .tup [.str (Str.ofString "for"), .str n, tdat t, tdat o], .tup [.str (Str.ofString "for"), .str n, tdat o, tdat t],
    .tup [.str (Str.ofString "let"), .str n, tdat t, tdat o], .tup [.str (Str.ofString "let"), .str n, tdat o, tdat t], .tup [.str (Str.ofString "row"), .tup [.tup [.str n, tdat t]]], .tup [.str (Str.ofString "both"), tdat t, tdat o], .tup [.str (Str.ofString "both"), tdat o, tdat t], .tup [.str (Str.ofString "times"), .int 2, tdat t], .tup [.str (Str.ofString "at"), .str n, tdat t]] := by
  simp only [o1, o2, o3, o4, List.map_append, List.map_cons, List.map_nil, td_node, td_row, atD, List.cons_append, List.nil_append]
theorem o_ok {d m : Nat} {n : Str} {t o : Tr} (ht : TH d t) (ho : TH d o) (h1 : nq o = 1) (h2 : nq t <= m) : ∀ q ∈ ((o1 n t o ++ o2 n t o) ++ o3 t o) ++ o4 n t, TH (d + 1) q /\ nq q <= m + 2 := by
  have two : ∀ (w : Str) (as : List At), nq (.node w as [t, o]) <= m + 2 /\ nq (.node w as [o, t]) <= m + 2 := fun w as => by
    have a := nq_le w as [t, o]
    have b := nq_le w as [o, t]
    simp only [List.map_cons, List.map_nil, List.sum_cons, List.sum_nil] at a b
    lia
  have one : ∀ (w : Str) (as : List At), nq (.node w as [t]) <= m + 2 := fun w as => by
    have a := nq_le w as [t]
    simp only [List.map_cons, List.map_nil, List.sum_cons, List.sum_nil] at a
    lia
  intro q hq
  simp only [o1, o2, o3, o4, List.mem_append, List.mem_cons, List.not_mem_nil, or_false] at hq
  rcases hq with (((rfl | rfl | rfl) | (rfl | rfl | rfl)) | (rfl | rfl | rfl)) | rfl
  · exact ⟨.plain (by decide +kernel) (by decide +kernel) (by simp) (one_mem (P := TH d) ht), one _ _⟩
  · exact ⟨.bind (.inl rfl) ht ho, (two _ _).1⟩
  · exact ⟨.bind (.inl rfl) ho ht, (two _ _).2⟩
  · exact ⟨.bind (.inr rfl) ht ho, (two _ _).1⟩
  · exact ⟨.bind (.inr rfl) ho ht, (two _ _).2⟩
  · refine ⟨.row (by simp) fun p hp => by rw [List.mem_singleton.mp hp]; exact ht, ?_⟩
    rw [nq_kids]
    show 1 + ([t].map nq).sum <= _
    simp; lia
  · exact ⟨.plain (by decide +kernel) (by decide +kernel) (by simp) (two_mem (P := TH d) ht ho), (two _ _).1⟩
  · exact ⟨.plain (by decide +kernel) (by decide +kernel) (by simp) (two_mem (P := TH d) ho ht), (two _ _).2⟩
  · exact ⟨.times ht, one _ _⟩
  · exact ⟨.at ht, one _ _⟩
section
variable {P : Program} {w : World} {K : PySem.W.Frag} {mg : Str -> Option Value} {base : Heap} {f f_draw f_name : Addr} {fd fd_draw fd_name : FuncData}
theorem sc__law_deep : FnScope ["hand", "question", "k", "name", "other", "some"] ["hand"] (defScope (top 24)) := ⟨rfl, rfl, rfl, by decide +kernel, rfl, by decide +kernel, by decide +kernel⟩
noncomputable def spDeep : Sp := fun vs H Q _ => ∃ (p c : Addr) (cs : List Int) (kn : Option Int), vs = [.ref p] /\ Hn H p c cs kn /\ ∀ (v : V) (t : Tr) (H' : Hp), Ex p H H' -> Hn H' p c cs kn -> IsDt H' (tdat t) v -> TH 20 t -> nq t <= 60 -> Q v H'
theorem ok_deep (T : Tx mg) (D : Df K mg "_law_deep" (top 24) f fd ["hand"])
    (D__law_draw : Df K mg "_law_draw" (top 9) f_draw fd_draw ["hand", "limit"]) (G__law_draw : FnOk P w K mg base CX0 1 f_draw fd_draw ["hand", "limit"] spDraw)
    (D__law_name : Df K mg "_law_name" (top 10) f_name fd_name ["hand"]) (G__law_name : FnOk P w K mg base CX0 2 f_name fd_name ["hand"] spName) : FnOk P w K mg base CX0 3 f fd ["hand"] spDeep := by
  refine D.fn.okH (k := 2) sc__law_deep (fun vs H Q E h => ?_) (fun cdv A outer s H vs Q E hr h => ?_)
  · obtain ⟨p, c, cs, kn, rfl, _⟩ := h; rfl
  obtain ⟨p, c, cs, kn, rfl, hh, fin⟩ := h
  have hu := u110 hr
  have hu0 := u0 hr
  have hu1 := hu_of hr
  refine ⟨_, (wss_cons (ws_set (i := 1) sc__law_deep.nd rfl (Or.inl rfl) (we_ix (ix_U hu1) (we_lst (wa_cons (we_tup (wa_cons we_str (wa_cons (we_call G__law_name (hr.mono (by lia)) rfl D__law_name.mg D__law_name.kp D__law_name.b .nil pass0 (wa_cons (wv 0) wa_nil)) wa_nil))) (wa_cons (we_tup (wa_cons we_str (wa_cons (we_call G__law_name (hr.mono (by lia)) rfl D__law_name.mg D__law_name.kp D__law_name.b .nil pass0 (wa_cons (wv 0) wa_nil)) wa_nil))) wa_nil))) (we_call G__law_draw (hr.mono (by lia)) rfl D__law_draw.mg D__law_draw.kp D__law_draw.b .nil pass0 (wa_cons (wv 0) (wa_cons we_int wa_nil))) (fun _ _ => rfl)))
      (wss_cons (ws_for PassesOwn.never rfl (wi_range1 rfl T.z_range (wa_cons (we_call G__law_draw (hr.mono (by lia)) rfl D__law_draw.mg D__law_draw.kp D__law_draw.b .nil pass0 (wa_cons (wv 0) (wa_cons we_int wa_nil))) wa_nil)) (wg_name (i := 2) sc__law_deep.nd rfl (Or.inl rfl)) (wss_cons (ws_set (i := 3) sc__law_deep.nd rfl (Or.inl rfl) (we_call G__law_name (hr.mono (by lia)) rfl D__law_name.mg D__law_name.kp D__law_name.b .nil pass0 (wa_cons (wv 0) wa_nil)))
      (wss_cons (ws_set (i := 4) sc__law_deep.nd rfl (Or.inl rfl) (we_tup (wa_cons we_str (wa_cons (we_call G__law_name (hr.mono (by lia)) rfl D__law_name.mg D__law_name.kp D__law_name.b .nil pass0 (wa_cons (wv 0) wa_nil)) wa_nil))))
      (wss_cons (ws_set (i := 5) sc__law_deep.nd rfl (Or.inl rfl) (we_lst (wa_cons (we_tup (wa_cons we_str (wa_cons (wv 1) wa_nil))) (wa_cons (we_tup (wa_cons we_str (wa_cons (wv 3) (wa_cons (wv 1) (wa_cons (wv 4) wa_nil))))) (wa_cons (we_tup (wa_cons we_str (wa_cons (wv 3) (wa_cons (wv 4) (wa_cons (wv 1) wa_nil))))) wa_nil)))))
      (wss_cons (ws_set (i := 5) sc__law_deep.nd rfl (Or.inl rfl) (we_op op_plus (wv 5) (we_lst (wa_cons (we_tup (wa_cons we_str (wa_cons (wv 3) (wa_cons (wv 1) (wa_cons (wv 4) wa_nil))))) (wa_cons (we_tup (wa_cons we_str (wa_cons (wv 3) (wa_cons (wv 4) (wa_cons (wv 1) wa_nil))))) (wa_cons (we_tup (wa_cons we_str (wa_cons (we_tup (wa_cons (we_tup (wa_cons (wv 3) (wa_cons (wv 1) wa_nil))) wa_nil)) wa_nil))) wa_nil))))))
      (wss_cons (ws_set (i := 5) sc__law_deep.nd rfl (Or.inl rfl) (we_op op_plus (wv 5) (we_lst (wa_cons (we_tup (wa_cons we_str (wa_cons (wv 1) (wa_cons (wv 4) wa_nil)))) (wa_cons (we_tup (wa_cons we_str (wa_cons (wv 4) (wa_cons (wv 1) wa_nil)))) (wa_cons (we_tup (wa_cons we_str (wa_cons we_int (wa_cons (wv 1) wa_nil)))) wa_nil))))))
      (wss_one (ws_set (i := 1) sc__law_deep.nd rfl (Or.inl rfl) (we_ix (ix_U hu1) (we_op op_plus (wv 5) (we_lst (wa_cons (we_tup (wa_cons we_str (wa_cons (wv 3) (wa_cons (wv 1) wa_nil)))) wa_nil))) (we_call G__law_draw (hr.mono (by lia)) rfl D__law_draw.mg D__law_draw.kp D__law_draw.b .nil pass0 (wa_cons (wv 0) (wa_cons we_int wa_nil))) (fun _ _ => rfl))))))))))
      (wss_one (ws_ret (wv 1))))), ?_⟩
  obtain ⟨X', gX'⟩ : ∃ X', X' = (cxOf CX0 P w K mg base ["hand", "question", "k", "name", "other", "some"] "_law_deep" (defScope (top 24)) f cdv A outer s H E).nox := ⟨_, rfl⟩
  try rw [<- gX']
  clear gX'
  refine ⟨_, rfl, p, c, cs, kn, rfl, hh, fun x1 H1 _ ex1 hn1 => ⟨(by show 2 <= sizeLine; decide), fun a1 ha1 => ?_⟩⟩
  have s2 := same_new ha1 (.tup [.str (Str.ofString "var"), .str x1])
  have i2 : IsDt (upd H1 a1 (.tup [.str (Str.ofString "var"), .str x1])) (tdat (varN x1)) (.ref a1) := by unfold varN; rw [td_node]; exact isDt_new ha1 (.cons (isDt_str _) (.one (isDt_str _)))
  generalize upd H1 a1 (.tup [.str (Str.ofString "var"), .str x1]) = H2 at s2 i2 ⊢
  refine ⟨_, rfl, p, c, cs, kn, rfl, hn1.keep s2, fun x3 H3 _ ex3 hn3 => ⟨(by show 2 <= sizeLine; decide), fun a3 ha3 => ?_⟩⟩
  have s4 := same_new ha3 (.tup [.str (Str.ofString "table"), .str x3])
  have i4 : IsDt (upd H3 a3 (.tup [.str (Str.ofString "table"), .str x3])) (tdat (tabN x3)) (.ref a3) := by unfold tabN; rw [td_node]; exact isDt_new ha3 (.cons (isDt_str _) (.one (isDt_str _)))
  generalize upd H3 a3 (.tup [.str (Str.ofString "table"), .str x3]) = H4 at s4 i4 ⊢
  have t24 := ((hn1.keep s2).tups ex3).trans s4.tups
  refine ⟨(by show 2 <= sizeLine; decide), fun l hl => ?_⟩
  have s5 := s4.trans (same_new hl (.lst [.ref a1, .ref a3]))
  have t45 := (same_new hl (.lst [.ref a1, .ref a3])).tups
  have hl5 : (upd H4 l (.lst [.ref a1, .ref a3])) l = some (.lst [.ref a1, .ref a3]) := upd_same
  have npl : l ≠ p := (hn3.keep s4).ne hl
  generalize upd H4 l (.lst [.ref a1, .ref a3]) = H5 at s5 t45 hl5 ⊢
  have hn5 := hn3.keep s5
  refine ⟨_, rfl, p, c, cs, kn, 2, rfl, hn5, by decide, by decide, fun x H6 x0 x1' ex6 hn6 => ?_⟩
  have t56 := hn5.tups ex6
  have ex : Ex p H H6 := ex1.trans (s2.ex.trans (ex3.trans (s5.ex.trans ex6)))
  obtain ⟨v0, t0, e0, it0, th0, q0⟩ : ∃ v0 t0, atI [V.ref a1, V.ref a3] x = some v0 /\ IsDt H6 (tdat t0) v0 /\ TH 0 t0 /\ nq t0 <= 1 := by
    have : x = 0 \/ x = 1 := by lia
    rcases this with rfl | rfl
    · exact ⟨_, _, at0, IsDt.mono (t24.trans (t45.trans t56)) i2, .atom (by simp), by rw [nq_kids, varN, kids_var]; simp⟩
    · exact ⟨_, _, at1, IsDt.mono (t45.trans t56) i4, .atom (by simp), by rw [nq_kids, tabN, kids_table]; simp⟩
  refine .inl ⟨l, _, x, v0, rfl, rfl, SqL.of (ex6 _ _ npl hl5), e0, ?_⟩
  clear i2 i4 s2 s4 s5 t24 t45 t56 hl5 hl ha1 ha3
  refine ⟨_, rfl, p, c, cs, kn, 19, rfl, hn6, by decide, by decide, fun y H7 y0 y1 ex7 hn7 => ⟨y, rfl, by lia, by lia, ?_⟩⟩
  refine for_rangeH (n := y.toNat) (fun j σ H' => ∃ (v : V) (t : Tr) (o2 o3 o4 o5 : Option V), σ = [some (.ref p), some v, o2, o3, o4, o5] /\ Ex p H H' /\ Hn H' p c cs kn /\ IsDt H' (tdat t) v /\ TH j t /\ nq t <= 1 + 2 * j) ⟨v0, t0, none, none, none, none, rfl, ex.trans ex7, hn7, IsDt.mono (hn6.tups ex7) it0, th0, by lia⟩ (fun E2 j σ H' hj hW toN => ?_) (fun σ H' hW => ?_)
  · obtain ⟨v, t, z2, z3, z4, z5, rfl, exH, hnH, itH, thH, nqH⟩ := hW
    refine ⟨_, rfl, p, c, cs, kn, rfl, hnH, fun nm H1 _ ex1 hn1 => ?_⟩
    refine ⟨_, rfl, p, c, cs, kn, rfl, hn1, fun on H2 _ ex2 hn2 => ⟨(by show 2 <= sizeLine; decide), fun a ha => ?_⟩⟩
    have s3 := same_new ha (.tup [.str (Str.ofString "var"), .str on])
    have io : IsDt (upd H2 a (.tup [.str (Str.ofString "var"), .str on])) (tdat (varN on)) (.ref a) := by unfold varN; rw [td_node]; exact isDt_new ha (.cons (isDt_str _) (.one (isDt_str _)))
    have it3 := IsDt.mono ((hnH.tups ex1).trans ((hn1.tups ex2).trans s3.tups)) itH
    have hn3 := hn2.keep s3
    have ex3 : Ex p H (upd H2 a (.tup [.str (Str.ofString "var"), .str on])) := exH.trans (ex1.trans (ex2.trans s3.ex))
    generalize upd H2 a (.tup [.str (Str.ofString "var"), .str on]) = H3 at s3 io it3 hn3 ex3 ⊢
    refine asg_ml (ml_lst rfl (ma_cons (me_tup rfl (ma_cons (me_str _) (ma_cons (me_var rfl it3) ma_nil)))
      (ma_cons (me_tup rfl (ma_cons (me_str _) (ma_cons (me_var rfl (isDt_str nm)) (ma_cons (me_var rfl it3) (ma_cons (me_var rfl io) ma_nil)))))
      (ma_cons (me_tup rfl (ma_cons (me_str _) (ma_cons (me_var rfl (isDt_str nm)) (ma_cons (me_var rfl io) (ma_cons (me_var rfl it3) ma_nil))))) ma_nil)))) fun l1 xs1 H4 s4 hl1 i1 => ?_
    have it4 := IsDt.mono s4.tups it3
    have io4 := IsDt.mono s4.tups io
    refine asg_ml (ml_cat rfl hl1 i1 rfl (ml_lst rfl (ma_cons (me_tup rfl (ma_cons (me_str _) (ma_cons (me_var rfl (isDt_str nm)) (ma_cons (me_var rfl it4) (ma_cons (me_var rfl io4) ma_nil)))))
      (ma_cons (me_tup rfl (ma_cons (me_str _) (ma_cons (me_var rfl (isDt_str nm)) (ma_cons (me_var rfl io4) (ma_cons (me_var rfl it4) ma_nil)))))
      (ma_cons (me_tup rfl (ma_cons (me_str _) (ma_cons (me_tup rfl (ma_cons (me_tup rfl (ma_cons (me_var rfl (isDt_str nm)) (ma_cons (me_var rfl it4) ma_nil))) ma_nil)) ma_nil))) ma_nil))))) fun l2 xs2 H5 s5 hl2 i2 => ?_
    have it5 := IsDt.mono s5.tups it4
    have io5 := IsDt.mono s5.tups io4
    refine asg_ml (ml_cat rfl hl2 i2 rfl (ml_lst rfl (ma_cons (me_tup rfl (ma_cons (me_str _) (ma_cons (me_var rfl it5) (ma_cons (me_var rfl io5) ma_nil))))
      (ma_cons (me_tup rfl (ma_cons (me_str _) (ma_cons (me_var rfl io5) (ma_cons (me_var rfl it5) ma_nil))))
      (ma_cons (me_tup rfl (ma_cons (me_str _) (ma_cons (me_int _) (ma_cons (me_var rfl it5) ma_nil)))) ma_nil))))) fun l3 xs3 H6 s6 hl3 i3 => ?_
    have it6 := IsDt.mono s6.tups it5
    refine asg_ix (ml_cat rfl hl3 i3 rfl (ml_lst rfl (ma_cons (me_tup rfl (ma_cons (me_str _) (ma_cons (me_var rfl (isDt_str nm)) (ma_cons (me_var rfl it6) ma_nil)))) ma_nil))) fun l4 xs4 H7 s7 hl4 i4 => ?_
    have s37 := s4.trans (s5.trans (s6.trans s7))
    have hn7 := hn3.keep s37
    have nlp : l4 ≠ p := fun z => by
      obtain ⟨_, _, _, kvs, h0, _⟩ := hn7
      have := h0.at_
      rw [<- z, hl4] at this
      cases this
    refine ⟨_, rfl, p, c, cs, kn, 10, rfl, hn7, by decide, by decide, fun x H8 x0 x1 ex8 hn8 => ?_⟩
    have i4' : IsDts H7 ((((o1 nm t (varN on) ++ o2 nm t (varN on)) ++ o3 t (varN on)) ++ o4 nm t).map tdat) xs4 := by rw [o_eq]; exact i4
    have ok := o_ok (n := nm) thH (show TH j (varN on) from .atom (by simp)) (by rw [nq_kids, varN, kids_var]; simp) nqH
    obtain ⟨L, eL⟩ : ∃ L, L = ((o1 nm t (varN on) ++ o2 nm t (varN on)) ++ o3 t (varN on)) ++ o4 nm t := ⟨_, rfl⟩
    have lL : L.length = 10 := by rw [eL]; rfl
    rw [<- eL] at i4' ok
    have hx : x.toNat < L.length := by lia
    obtain ⟨v', e1, d1⟩ := i4'.get (i := x.toNat) (d := tdat L[x.toNat]) (by rw [List.getElem?_map, List.getElem?_eq_getElem hx]; rfl)
    have e2 : atI xs4 x = some v' := by have := atI_nat e1; rwa [show ((x.toNat : Nat) : Int) = x by lia] at this
    obtain ⟨k1, k2⟩ := ok _ (List.getElem_mem hx)
    exact .inl ⟨l4, xs4, x, v', rfl, rfl, SqL.of (ex8 _ _ nlp hl4), e2, toN _ _ ⟨v', L[x.toNat], _, _, _, _, rfl, ex3.trans (s37.ex.trans ex8), hn8, IsDt.mono (hn7.tups ex8) d1, k1, by lia⟩⟩
  · obtain ⟨v, t, z2, z3, z4, z5, rfl, exH, hnH, itH, thH, nqH⟩ := hW
    exact ⟨_, rfl, fin v t H' exH hnH itH (thH.mono (by lia)) (by lia)⟩
end
end K14
end
section
namespace K14
open PySem L2 Kn
theorem wh_seq {c : TT} {b u : TS} {D : Ends} {σ : St} {H : Hp} (I : St -> Hp -> Prop) (tail : ∀ σ H, I σ H -> u D σ H) (main : ∀ Kt : St -> Hp -> Prop, (∀ σ H, I σ H -> Kt σ H) -> tWhile c b { nx := Kt, rt := D.rt, bk := D.bk, ct := D.ct } σ H) : tSeq (tWhile c b) u D σ H := main _ tail
theorem for_rangeR {lo : Int} {n : Nat} {g : TG} {tb : TS} {D : Ends} {σ : St} {H : Hp} (Pv : Nat -> St -> Hp -> Prop) (h0 : Pv 0 σ H)
    (hs : ∀ (E : Ends) i σ H, i < n -> Pv i σ H -> (∀ σ H, Pv (i + 1) σ H -> E.nx σ H) -> (∀ v H, D.rt v H -> E.rt v H) -> g (.int (lo + i)) σ H fun σ2 H2 => tb E σ2 H2) (hd : ∀ σ H, Pv n σ H -> D.nx σ H) :
    ∃ W : Nat -> Nat -> St -> Hp -> Prop, (∃ m, W 0 m σ H) /\ ∀ i m σ H, W i m σ H ->
      ((Itr lo n).stop i H /\ D.nx σ H) \/ ((Itr lo n).go i H /\ ∃ N : St -> Hp -> Prop, (∀ σ' H', N σ' H' -> ∃ m', m' < m /\ W (i + 1) m' σ' H') /\ ∀ x H', (Itr lo n).yld i H x H' -> g x σ H' fun σ2 H2 => tb { D with nx := N, ct := N, bk := D.nx } σ2 H2) :=
  for_range Pv h0 (fun i σ H hi q => hs _ i σ H hi q (fun _ _ h => h) fun _ _ h => h) hd
section
variable {P : Program} {w : World} {K : PySem.W.Frag} {mg : Str -> Option Value} {base : Heap} {f f_hand f_drawn f_deep f_right f_below : Addr} {fd fd_hand fd_drawn fd_deep fd_right fd_below : FuncData}
theorem sc_law : FnScope ["script", "hand", "turn", "waiting", "question"] ["script"] (defScope (top 25)) := ⟨rfl, rfl, rfl, by decide +kernel, rfl, by decide +kernel, by decide +kernel⟩
noncomputable def spLaw (K : PySem.W.Frag) : Sp := fun vs H Q _ => ∃ (a : Addr) (ns : List Int), vs = [.ref a] /\ SqL K H a (ns.map V.int) /\ ns.length <= 63 /\ ∀ H', Q (.bl true) H'
theorem ok_law (T : Tx mg) (D : Df K mg "law" (top 25) f fd ["script"])
    (D__law_hand : Df K mg "_law_hand" (top 8) f_hand fd_hand ["script"]) (G__law_hand : FnOk P w K mg base CX0 1 f_hand fd_hand ["script"] (spHand K))
    (D__law_drawn : Df K mg "_law_drawn" (top 18) f_drawn fd_drawn ["hand"]) (G__law_drawn : FnOk P w K mg base CX0 23 f_drawn fd_drawn ["hand"] spDrawn)
    (D__law_deep : Df K mg "_law_deep" (top 24) f_deep fd_deep ["hand"]) (G__law_deep : FnOk P w K mg base CX0 3 f_deep fd_deep ["hand"] spDeep)
    (D__law_right : Df K mg "_law_right" (top 23) f_right fd_right ["question"]) (G__law_right : FnOk P w K mg base CX0 91 f_right fd_right ["question"] spRight)
    (D__law_below : Df K mg "_law_below" (top 20) f_below fd_below ["question"]) (G__law_below : FnOk P w K mg base CX0 1 f_below fd_below ["question"] spUnder) : FnOk P w K mg base CX0 92 f fd ["script"] (spLaw K) := by
  refine D.fn.okH (k := 91) sc_law (fun vs H Q E h => ?_) (fun cdv A outer s H vs Q E hr h => ?_)
  · obtain ⟨a, ns, rfl, _⟩ := h; rfl
  obtain ⟨a, ns, rfl, hS, h63, fin⟩ := h
  have hu := u110 hr
  have hu0 := u0 hr
  have hu1 := hu_of hr
  refine ⟨_, (wss_cons (ws_set (i := 1) sc_law.nd rfl (Or.inl rfl) (we_call G__law_hand (hr.mono (by lia)) rfl D__law_hand.mg D__law_hand.kp D__law_hand.b .nil pass0 (wa_cons (wv 0) wa_nil)))
      (wss_cons (ws_for PassesOwn.never rfl (wi_range1 rfl T.z_range (wa_cons we_int wa_nil)) (wg_name (i := 2) sc_law.nd rfl (Or.inl rfl)) (wss_cons (ws_set (i := 3) sc_law.nd rfl (Or.inl rfl) (we_lst (wa_cons (we_call G__law_drawn (hr.mono (by lia)) rfl D__law_drawn.mg D__law_drawn.kp D__law_drawn.b .nil pass0 (wa_cons (wv 1) wa_nil)) (wa_cons (we_call G__law_deep (hr.mono (by lia)) rfl D__law_deep.mg D__law_deep.kp D__law_deep.b .nil pass0 (wa_cons (wv 1) wa_nil)) wa_nil))))
      (wss_cons (ws_while PassesOwn.never (wt_cmpR (op_neU hu) (wv 3) (we_lst wa_nil) (nomark _)) (wss_cons (ws_set (i := 4) sc_law.nd rfl (Or.inl rfl) (we_bm0 PySem.F.plainAttrs_list PySem.F.slot_list_pop PySem.F.type_list_pop mt_pop (wv 3)))
      (wss_cons (ws_if (wt_not (wt_val (we_call G__law_right (hr.mono (by lia)) rfl D__law_right.mg D__law_right.kp D__law_right.b .nil pass0 (wa_cons (wv 4) wa_nil)))) (wss_one (ws_ret we_bl)) wss_nil)
      (wss_one (ws_expr (we_bm PySem.F.plainAttrs_list PySem.F.slot_list_extend PySem.F.type_list_extend mt_extendU (wv 3) (wa_cons (we_callTy call_list_of rfl T.z_list bt_list (wa_cons (we_call G__law_below (hr.mono (by lia)) rfl D__law_below.mg D__law_below.kp D__law_below.b .nil pass0 (wa_cons (wv 4) wa_nil)) wa_nil)) wa_nil)))))))
      (wss_one (ws_if (wt_pw (ww_and (wt_cmpR op_ge (we_ix (ix_U hu1) (wv 1) we_str (fun _ _ => rfl)) (we_callB call_lenU rfl T.z_len bt_len (wa_cons (we_ix (ix_U hu1) (wv 1) we_str (fun _ _ => rfl)) wa_nil)) (nomark _)) (ww_and1 (wt_cmpR op_gt (wv 2) we_int (nomark _))))) (wss_one (ws_ret we_bl)) wss_nil)))))
      (wss_one (ws_ret we_bl)))), ?_⟩
  obtain ⟨X', gX'⟩ : ∃ X', X' = (cxOf CX0 P w K mg base ["script", "hand", "turn", "waiting", "question"] "law" (defScope (top 25)) f cdv A outer s H E).nox := ⟨_, rfl⟩
  try rw [<- gX']
  clear gX'
  refine ⟨_, rfl, a, ns, rfl, hS, h63, fun p c cs H1 s1 hp hn1 => ?_⟩
  refine ⟨8, rfl, by decide, by decide, for_rangeR (n := 8) (fun i σ H' => ∃ (o2 o3 o4 : Option V) (kn : Option Int), σ = [some (.ref a), some (.ref p), o2, o3, o4] /\ Hn H' p c cs kn) ⟨none, none, none, none, rfl, hn1⟩ ?turn ?done⟩
  case done => rintro σ H' ⟨o2, o3, o4, kn, rfl, _⟩; exact fin _
  case turn =>
    rintro E2 i σ H' hi ⟨o2, o3, o4, kn, rfl, hn⟩ toN toR
    refine ⟨_, rfl, p, c, cs, kn, rfl, hn, fun t1 v1 H2 k' qg1 nq1 it1 ex1 hn2 => ?_⟩
    refine ⟨_, rfl, p, c, cs, some k', rfl, hn2, fun v2 t2 H3 ex2 hn3 it2 th2 nq2 => ⟨(by show 2 <= sizeLine; decide), fun l hl => ?_⟩⟩
    have it13 := IsDt.mono (hn2.tups ex2) it1
    have th1 : TH 24 t1 := qg1.th.mono (by decide)
    have th2 : TH 24 t2 := th2.mono (by decide)
    have s4 := same_new hl (.lst [v1, v2])
    have hl4 : (upd H3 l (.lst [v1, v2])) l = some (.lst [v1, v2]) := upd_same
    generalize upd H3 l (.lst [v1, v2]) = H4 at s4 hl4 ⊢
    refine wh_seq (fun σ' H' => ∃ o4, σ' = [some (.ref a), some (.ref p), some (.int (0 + (i : Int))), some (.ref l), o4] /\ Same H3 H') (fun σ' H5 hI => ?_) fun Kt tail => ?_
    · obtain ⟨o4, rfl, s5⟩ := hI
      obtain ⟨n, r, tt, kvs, hd, hk⟩ := hn3.keep s5
      refine ⟨_, rfl, .inr (.inr (.inr ⟨p, _, rfl, gN hd, _, rfl, .inr (.inr (.inr ⟨p, _, rfl, gC hd, .inl ⟨c, _, rfl, .inl (SqL.of hd.lst), _, _, rfl, rfl, _, rfl, ?_⟩⟩))⟩))⟩
      refine ite2 (fun e2 => ?_) (fun e2 => ?_)
      · refine ⟨_, rfl, _, _, rfl, rfl, _, rfl, ?_⟩
        refine ite2 (fun e3 => ?_) (fun e3 => ?_)
        · exact toR _ _ (fin _)
        · exact toN _ _ ⟨_, _, _, _, rfl, _, _, _, _, hd, hk⟩
      · exact toN _ _ ⟨_, _, _, _, rfl, _, _, _, _, hd, hk⟩
    refine ⟨fun m σ H' => ∃ (ws : List Tr) (zs : List V) (o4 : Option V), σ = [some (.ref a), some (.ref p), some (.int (0 + (i : Int))), some (.ref l), o4] /\ Same H3 H' /\ H' l = some (.lst zs) /\ IsDts H' (ws.map tdat) zs /\ (∀ q ∈ ws, TH 24 q /\ nq q <= 200) /\ m = (ws.map nq).sum /\ (ws.map nq).sum <= 1000,
      ⟨_, [t1, t2], [v1, v2], o4, rfl, s4, hl4, .cons (IsDt.mono s4.tups it13) (.one (IsDt.mono s4.tups it2)), two_mem (P := fun q => TH 24 q /\ nq q <= 200) ⟨th1, by lia⟩ ⟨th2, by lia⟩, rfl, by simp; lia⟩, ?_⟩
    rintro m σ H5 ⟨ws, zs, o4, rfl, s5, hl5, iz, okw, rfl, ln⟩
    refine ⟨_, rfl, (by show 0 <= sizeLine; decide), fun e he => .inr (.inr ⟨l, e, zs, rfl, rfl, same_new he _ _ _ hl5, upd_same, _, rfl, ?_⟩)⟩
    have s6 := s5.trans (same_new he (.lst []))
    have hl6 := same_new he (.lst []) _ _ hl5
    have iz6 := IsDts.mono (same_new he (.lst [])).tups iz
    generalize upd H5 e (.lst []) = H6 at s6 hl6 iz6 ⊢
    have lzs : zs.length = ws.length := by rw [iz.length, List.length_map]
    have lws := len_nq ws
    rcases List.eq_nil_or_concat ws with rfl | ⟨rest, t, ews⟩
    · obtain rfl := isDts_nil' iz
      refine iteF ?_
      exact tail _ _ ⟨_, rfl, s6⟩
    · rw [List.concat_eq_append] at ews
      subst ews
      rw [List.map_append] at iz6
      obtain ⟨ys, y, rfl, iys, iy⟩ := isDts_snoc iz6
      refine iteP (by simp) ?_
      refine wh_hideD fun E3 toN3 _ => ?_
      obtain ⟨tht, nt⟩ := okw t (by simp)
      refine ⟨_, rfl, .inl ⟨rfl, _, SqL.of hl6⟩, l, ys ++ [y], y, rfl, rfl, hl6, by simp, ?_⟩
      rw [List.dropLast_concat]
      have s7 : Same H3 (upd H6 l (.lst ys)) := fun b o e => by rw [upd_ne (ne_of_none e hl)]; exact s6 b o e
      have t7 : Tups H6 (upd H6 l (.lst ys)) := Tups.lst hl6
      have hl7 : (upd H6 l (.lst ys)) l = some (.lst ys) := upd_same
      generalize upd H6 l (.lst ys) = H7 at s7 t7 hl7 ⊢
      have iy7 := IsDt.mono t7 iy
      have sm : ((rest ++ [t]).map nq).sum = (rest.map nq).sum + nq t := by rw [List.map_append, List.sum_append]; simp
      have kq := nq_kids t
      have kl := tht.len
      have lr := len_nq rest
      have lys : ys.length = rest.length := by rw [iys.length, List.length_map]
      refine ⟨_, rfl, y, t, rfl, iy7, tht, nt, fun H8 s8 => ⟨_, rfl, iteF ?_⟩⟩
      have hl8 := s8 _ _ hl7
      refine ⟨_, rfl, .inl ⟨rfl, _, SqL.of hl8⟩, _, rfl, y, t, 24, rfl, IsDt.mono s8.tups iy7, tht, fun ka ks H9 s9 hka ik => ⟨ka, ks, rfl, .inr (SqT.of hka), fun l2 hl2 => .inl ⟨l, l2, _, _, rfl, rfl, same_new hl2 _ _ _ (s9 _ _ hl8), upd_same, ?_, ?_⟩⟩⟩
      · have : ks.length <= 14 := by rw [ik.length, List.length_map]; exact kl
        exact Nat.le_of_lt (line1 (by lia))
      have sA := s8.trans (s9.trans (same_new hl2 (.lst ks)))
      have hlA := sA _ _ hl7
      have tA := (same_new hl2 (.lst ks)).tups
      generalize upd H9 l2 (.lst ks) = HA at sA hlA tA ⊢
      have tB : Tups HA (upd HA l (.lst (ys ++ ks))) := Tups.lst hlA
      refine toN3 _ _ ⟨((rest ++ kids t).map nq).sum, by rw [List.map_append, List.sum_append, sm]; lia, rest ++ kids t, ys ++ ks, _, rfl, fun b o e => by rw [upd_ne (ne_of_none e hl)]; exact sA _ _ (s7 b o e), upd_same, ?_, fun q hq => ?_, rfl, by rw [List.map_append, List.sum_append]; lia⟩
      · rw [List.map_append]
        exact (IsDts.mono (t7.trans (sA.tups.trans tB)) iys).append (IsDts.mono (tA.trans tB) ik)
      · rcases List.mem_append.mp hq with h | h
        · exact okw q (List.mem_append_left _ h)
        · obtain ⟨e, he, hq'⟩ := tht.sub q h
          have := nq_kid h
          exact ⟨hq'.mono (by lia), by lia⟩
end
end K14
end
section
namespace K14
open PySem L2 Kn
/-- a def that stands at the program's top -/
noncomputable def DefAt (K : PySem.W.Frag) (x : Str) (st : Stmt) : Prop := ∃ (f : Addr) (fd : FuncData), PySem.W.nsIn K mainGlobals x = some (some (.ref f)) /\ Fun K x x st f fd
theorem len_0 {us : List Value} (h : us.length = 0) : us = [] := List.length_eq_zero_iff.mp h
theorem len_1 {us : List Value} (h : us.length = 1) : ∃ a, us = [a] := List.length_eq_one_iff.mp h
theorem len_2 {us : List Value} (h : us.length = 2) : ∃ a b, us = [a, b] := by
  cases us with
  | nil => cases h
  | cons a t =>
    obtain ⟨b, rfl⟩ := len_1 (us := t) (by simpa using h)
    exact ⟨a, b, rfl⟩
theorem len_3 {us : List Value} (h : us.length = 3) : ∃ a b c, us = [a, b, c] := by
  cases us with
  | nil => cases h
  | cons a t =>
    obtain ⟨b, c, rfl⟩ := len_2 (us := t) (by simpa using h)
    exact ⟨a, b, c, rfl⟩
theorem len_4 {us : List Value} (h : us.length = 4) : ∃ a b c d, us = [a, b, c, d] := by
  cases us with
  | nil => cases h
  | cons a t =>
    obtain ⟨b, c, d, rfl⟩ := len_3 (us := t) (by simpa using h)
    exact ⟨a, b, c, d, rfl⟩
theorem defAt_mk {K : PySem.W.Frag} {x : Str} {st : Stmt} {f : Addr} {oc : Value} {od an : Option Addr} {osl : Array (Option Value)} {kV doc pm cdv ct : Value} (a : PySem.W.nsIn K mainGlobals x = some (some (.ref f)))
    (l : K.lookup f = some ⟨oc, od, .func (PySem.W.fnOf x x (defArgs st) (defBody st) (defScope st) .none kV doc pm an cdv ct), osl⟩) (c : PySem.W.codeIn K cdv x = true) (k : PySem.W.keepIn K (.ref f) = true) : DefAt K x st := ⟨f, _, a, fun_mk l c k⟩
noncomputable def HaveAt (K : PySem.W.Frag) : Prop := ∃ a : Addr, PySem.W.nsIn K mainGlobals "HAVE_MORE" = some (some (.ref a)) /\ ∀ H, SqT K H a (HM.map V.str)
theorem have_mk {K : PySem.W.Frag} {a : Addr} {od : Option Addr} {its : Array Value} {n : Nat} {osl : Array (Option Value)} (h : PySem.W.nsIn K mainGlobals "HAVE_MORE" = some (some (.ref a))) (l : K.lookup a = some ⟨.type "tuple", od, .seq its n, osl⟩) (z : its.size <= sizeLine) (v : Vals (HM.map V.str) its.toList) : HaveAt K :=
  ⟨a, h, fun H => .inr ⟨_, its, n, l, rfl, rfl, z, v⟩⟩
theorem all_mk {l : PySem.W.OpenLaw} {w : World} {K : PySem.W.Frag} {h : Heap} {mg : Str -> Option Value} {fa : Addr} (X : K.In h) (G : h.Ns mainGlobals mg) (hfa : mg "law" = some (.ref fa))
    (h_under : DefAt K "under" (top 2)) (h_knots : DefAt K "knots" (top 3)) (h_tables : DefAt K "tables" (top 4)) (h_free : DefAt K "free" (top 5)) (h_bound_in : DefAt K "bound_in" (top 6)) (h__law_hand : DefAt K "_law_hand" (top 8)) (h__law_draw : DefAt K "_law_draw" (top 9)) (h__law_name : DefAt K "_law_name" (top 10)) (h__law_number : DefAt K "_law_number" (top 11)) (h__law_fields : DefAt K "_law_fields" (top 12)) (h__law_many_fields : DefAt K "_law_many_fields" (top 13)) (h__law_kind : DefAt K "_law_kind" (top 14)) (h__law_any_claim : DefAt K "_law_any_claim" (top 15)) (h__law_any_leaf : DefAt K "_law_any_leaf" (top 16)) (h__law_any : DefAt K "_law_any" (top 17)) (h__law_drawn : DefAt K "_law_drawn" (top 18)) (h__law_same : DefAt K "_law_same" (top 19)) (h__law_below : DefAt K "_law_below" (top 20)) (h__law_names : DefAt K "_law_names" (top 21)) (h__law_told : DefAt K "_law_told" (top 22)) (h__law_right : DefAt K "_law_right" (top 23)) (h__law_deep : DefAt K "_law_deep" (top 24)) (h_law : DefAt K "law" (top 25))
    (hH : HaveAt K)
    (z1 : PySem.W.nsIn K mainGlobals "len" = some none) (z2 : PySem.W.nsIn K mainGlobals "int" = some none) (z3 : PySem.W.nsIn K mainGlobals "tuple" = some none) (z4 : PySem.W.nsIn K mainGlobals "range" = some none) (z5 : PySem.W.nsIn K mainGlobals "isinstance" = some none) (z6 : PySem.W.nsIn K mainGlobals "sorted" = some none) (z7 : PySem.W.nsIn K mainGlobals "set" = some none) (z8 : PySem.W.nsIn K mainGlobals "str" = some none) (z9 : PySem.W.nsIn K mainGlobals "list" = some none) (z10 : PySem.W.nsIn K mainGlobals "max" = some none) (z11 : PySem.W.nsIn K mainGlobals "bool" = some none) (z12 : PySem.W.nsIn K mainGlobals "all" = some none) (z13 : PySem.W.nsIn K mainGlobals "zip" = some none) (z14 : PySem.W.nsIn K mainGlobals "enumerate" = some none) :
    ∃ fd : FuncData, (∀ (s : Shared) (v : Value), BindsTo s fd ⟨[v], []⟩ [("script", v)]) /\ ∀ base : Heap, K.In base -> base.Ns mainGlobals mg -> FnOk l.prog w K mg base CX0 92 fa fd ["script"] (spLaw K) := by
  have T : Tx mg := ⟨PySem.W.mg_none_of X G z1, PySem.W.mg_none_of X G z2, PySem.W.mg_none_of X G z3, PySem.W.mg_none_of X G z4, PySem.W.mg_none_of X G z5, PySem.W.mg_none_of X G z6, PySem.W.mg_none_of X G z7, PySem.W.mg_none_of X G z8, PySem.W.mg_none_of X G z9, PySem.W.mg_none_of X G z10, PySem.W.mg_none_of X G z11, PySem.W.mg_none_of X G z12, PySem.W.mg_none_of X G z13, PySem.W.mg_none_of X G z14⟩
  obtain ⟨f_under, fd_under, a_under, F_under⟩ := h_under
  have D_under : Df K mg "under" (top 2) f_under fd_under ["question"] := ⟨F_under, F_under.binds (ps := ["question"]) fun _ _ _ _ _ _ us hl => by obtain ⟨u0, rfl⟩ := len_1 hl; rfl, PySem.W.mg_of X G a_under⟩
  obtain ⟨f_knots, fd_knots, a_knots, F_knots⟩ := h_knots
  have D_knots : Df K mg "knots" (top 3) f_knots fd_knots ["question"] := ⟨F_knots, F_knots.binds (ps := ["question"]) fun _ _ _ _ _ _ us hl => by obtain ⟨u0, rfl⟩ := len_1 hl; rfl, PySem.W.mg_of X G a_knots⟩
  obtain ⟨f_tables, fd_tables, a_tables, F_tables⟩ := h_tables
  have D_tables : Df K mg "tables" (top 4) f_tables fd_tables ["question"] := ⟨F_tables, F_tables.binds (ps := ["question"]) fun _ _ _ _ _ _ us hl => by obtain ⟨u0, rfl⟩ := len_1 hl; rfl, PySem.W.mg_of X G a_tables⟩
  obtain ⟨f_free, fd_free, a_free, F_free⟩ := h_free
  have D_free : Df K mg "free" (top 5) f_free fd_free ["question"] := ⟨F_free, F_free.binds (ps := ["question"]) fun _ _ _ _ _ _ us hl => by obtain ⟨u0, rfl⟩ := len_1 hl; rfl, PySem.W.mg_of X G a_free⟩
  obtain ⟨f_bound_in, fd_bound_in, a_bound_in, F_bound_in⟩ := h_bound_in
  have D_bound_in : Df K mg "bound_in" (top 6) f_bound_in fd_bound_in ["question", "place"] := ⟨F_bound_in, F_bound_in.binds (ps := ["question", "place"]) fun _ _ _ _ _ _ us hl => by obtain ⟨u0, u1, rfl⟩ := len_2 hl; rfl, PySem.W.mg_of X G a_bound_in⟩
  obtain ⟨f__law_hand, fd__law_hand, a__law_hand, F__law_hand⟩ := h__law_hand
  have D__law_hand : Df K mg "_law_hand" (top 8) f__law_hand fd__law_hand ["script"] := ⟨F__law_hand, F__law_hand.binds (ps := ["script"]) fun _ _ _ _ _ _ us hl => by obtain ⟨u0, rfl⟩ := len_1 hl; rfl, PySem.W.mg_of X G a__law_hand⟩
  obtain ⟨f__law_draw, fd__law_draw, a__law_draw, F__law_draw⟩ := h__law_draw
  have D__law_draw : Df K mg "_law_draw" (top 9) f__law_draw fd__law_draw ["hand", "limit"] := ⟨F__law_draw, F__law_draw.binds (ps := ["hand", "limit"]) fun _ _ _ _ _ _ us hl => by obtain ⟨u0, u1, rfl⟩ := len_2 hl; rfl, PySem.W.mg_of X G a__law_draw⟩
  obtain ⟨f__law_name, fd__law_name, a__law_name, F__law_name⟩ := h__law_name
  have D__law_name : Df K mg "_law_name" (top 10) f__law_name fd__law_name ["hand"] := ⟨F__law_name, F__law_name.binds (ps := ["hand"]) fun _ _ _ _ _ _ us hl => by obtain ⟨u0, rfl⟩ := len_1 hl; rfl, PySem.W.mg_of X G a__law_name⟩
  obtain ⟨f__law_number, fd__law_number, a__law_number, F__law_number⟩ := h__law_number
  have D__law_number : Df K mg "_law_number" (top 11) f__law_number fd__law_number ["hand"] := ⟨F__law_number, F__law_number.binds (ps := ["hand"]) fun _ _ _ _ _ _ us hl => by obtain ⟨u0, rfl⟩ := len_1 hl; rfl, PySem.W.mg_of X G a__law_number⟩
  obtain ⟨f__law_fields, fd__law_fields, a__law_fields, F__law_fields⟩ := h__law_fields
  have D__law_fields : Df K mg "_law_fields" (top 12) f__law_fields fd__law_fields ["hand"] := ⟨F__law_fields, F__law_fields.binds (ps := ["hand"]) fun _ _ _ _ _ _ us hl => by obtain ⟨u0, rfl⟩ := len_1 hl; rfl, PySem.W.mg_of X G a__law_fields⟩
  obtain ⟨f__law_many_fields, fd__law_many_fields, a__law_many_fields, F__law_many_fields⟩ := h__law_many_fields
  have D__law_many_fields : Df K mg "_law_many_fields" (top 13) f__law_many_fields fd__law_many_fields ["hand"] := ⟨F__law_many_fields, F__law_many_fields.binds (ps := ["hand"]) fun _ _ _ _ _ _ us hl => by obtain ⟨u0, rfl⟩ := len_1 hl; rfl, PySem.W.mg_of X G a__law_many_fields⟩
  obtain ⟨f__law_kind, fd__law_kind, a__law_kind, F__law_kind⟩ := h__law_kind
  have D__law_kind : Df K mg "_law_kind" (top 14) f__law_kind fd__law_kind ["hand", "deep"] := ⟨F__law_kind, F__law_kind.binds (ps := ["hand", "deep"]) fun _ _ _ _ _ _ us hl => by obtain ⟨u0, u1, rfl⟩ := len_2 hl; rfl, PySem.W.mg_of X G a__law_kind⟩
  obtain ⟨f__law_any_claim, fd__law_any_claim, a__law_any_claim, F__law_any_claim⟩ := h__law_any_claim
  have D__law_any_claim : Df K mg "_law_any_claim" (top 15) f__law_any_claim fd__law_any_claim ["hand", "deep"] := ⟨F__law_any_claim, F__law_any_claim.binds (ps := ["hand", "deep"]) fun _ _ _ _ _ _ us hl => by obtain ⟨u0, u1, rfl⟩ := len_2 hl; rfl, PySem.W.mg_of X G a__law_any_claim⟩
  obtain ⟨f__law_any_leaf, fd__law_any_leaf, a__law_any_leaf, F__law_any_leaf⟩ := h__law_any_leaf
  have D__law_any_leaf : Df K mg "_law_any_leaf" (top 16) f__law_any_leaf fd__law_any_leaf ["hand", "word"] := ⟨F__law_any_leaf, F__law_any_leaf.binds (ps := ["hand", "word"]) fun _ _ _ _ _ _ us hl => by obtain ⟨u0, u1, rfl⟩ := len_2 hl; rfl, PySem.W.mg_of X G a__law_any_leaf⟩
  obtain ⟨f__law_any, fd__law_any, a__law_any, F__law_any⟩ := h__law_any
  have D__law_any : Df K mg "_law_any" (top 17) f__law_any fd__law_any ["hand", "deep"] := ⟨F__law_any, F__law_any.binds (ps := ["hand", "deep"]) fun _ _ _ _ _ _ us hl => by obtain ⟨u0, u1, rfl⟩ := len_2 hl; rfl, PySem.W.mg_of X G a__law_any⟩
  obtain ⟨f__law_drawn, fd__law_drawn, a__law_drawn, F__law_drawn⟩ := h__law_drawn
  have D__law_drawn : Df K mg "_law_drawn" (top 18) f__law_drawn fd__law_drawn ["hand"] := ⟨F__law_drawn, F__law_drawn.binds (ps := ["hand"]) fun _ _ _ _ _ _ us hl => by obtain ⟨u0, rfl⟩ := len_1 hl; rfl, PySem.W.mg_of X G a__law_drawn⟩
  obtain ⟨f__law_same, fd__law_same, a__law_same, F__law_same⟩ := h__law_same
  have D__law_same : Df K mg "_law_same" (top 19) f__law_same fd__law_same ["found", "due"] := ⟨F__law_same, F__law_same.binds (ps := ["found", "due"]) fun _ _ _ _ _ _ us hl => by obtain ⟨u0, u1, rfl⟩ := len_2 hl; rfl, PySem.W.mg_of X G a__law_same⟩
  obtain ⟨f__law_below, fd__law_below, a__law_below, F__law_below⟩ := h__law_below
  have D__law_below : Df K mg "_law_below" (top 20) f__law_below fd__law_below ["question"] := ⟨F__law_below, F__law_below.binds (ps := ["question"]) fun _ _ _ _ _ _ us hl => by obtain ⟨u0, rfl⟩ := len_1 hl; rfl, PySem.W.mg_of X G a__law_below⟩
  obtain ⟨f__law_names, fd__law_names, a__law_names, F__law_names⟩ := h__law_names
  have D__law_names : Df K mg "_law_names" (top 21) f__law_names fd__law_names ["question", "bound", "found"] := ⟨F__law_names, F__law_names.binds (ps := ["question", "bound", "found"]) fun _ _ _ _ _ _ us hl => by obtain ⟨u0, u1, u2, rfl⟩ := len_3 hl; rfl, PySem.W.mg_of X G a__law_names⟩
  obtain ⟨f__law_told, fd__law_told, a__law_told, F__law_told⟩ := h__law_told
  have D__law_told : Df K mg "_law_told" (top 22) f__law_told fd__law_told ["found", "due"] := ⟨F__law_told, F__law_told.binds (ps := ["found", "due"]) fun _ _ _ _ _ _ us hl => by obtain ⟨u0, u1, rfl⟩ := len_2 hl; rfl, PySem.W.mg_of X G a__law_told⟩
  obtain ⟨f__law_right, fd__law_right, a__law_right, F__law_right⟩ := h__law_right
  have D__law_right : Df K mg "_law_right" (top 23) f__law_right fd__law_right ["question"] := ⟨F__law_right, F__law_right.binds (ps := ["question"]) fun _ _ _ _ _ _ us hl => by obtain ⟨u0, rfl⟩ := len_1 hl; rfl, PySem.W.mg_of X G a__law_right⟩
  obtain ⟨f__law_deep, fd__law_deep, a__law_deep, F__law_deep⟩ := h__law_deep
  have D__law_deep : Df K mg "_law_deep" (top 24) f__law_deep fd__law_deep ["hand"] := ⟨F__law_deep, F__law_deep.binds (ps := ["hand"]) fun _ _ _ _ _ _ us hl => by obtain ⟨u0, rfl⟩ := len_1 hl; rfl, PySem.W.mg_of X G a__law_deep⟩
  obtain ⟨aH, a_HM, hHM⟩ := hH
  obtain ⟨f_law, fd_law, a_law, F_law⟩ := h_law
  have e := hfa.symm.trans (PySem.W.mg_of X G a_law)
  cases e
  have D_law : Df K mg "law" (top 25) fa fd_law ["script"] := ⟨F_law, F_law.binds (ps := ["script"]) fun _ _ _ _ _ _ us hl => match us, hl with | [_], _ => rfl, hfa⟩
  refine ⟨fd_law, ?_, fun base _ _ => ?_⟩
  · obtain ⟨oc, od, kV, doc, pm, an, cdv, ct, osl, rfl, lk, hcd⟩ := F_law.ex
    exact fun s v => .of_eq rfl
  have g_hand := ok_hand (P := l.prog) (w := w) (base := base) T D__law_hand
  have g_draw := ok_draw (P := l.prog) (w := w) (base := base) T D__law_draw
  have g_name := ok_name T D__law_name D__law_draw g_draw
  have g_num := ok_number T D__law_number D__law_draw g_draw
  have g_flds := ok_fields T D__law_fields D__law_draw g_draw D__law_name g_name
  have g_many := ok_many T D__law_many_fields D__law_draw g_draw
  have g_kind := kind_all T D__law_kind D__law_draw g_draw D__law_fields g_flds D__law_many_fields g_many 2
  have g_leaf := ok_leaf T D__law_any_leaf D__law_number g_num D__law_kind g_kind D__law_name g_name
  have g_any := any_all T D__law_any D__law_any_claim D__law_draw g_draw D__law_any_leaf g_leaf D__law_number g_num D__law_name g_name D__law_fields g_flds D__law_many_fields g_many
  have g_drawn := ok_drawn T D__law_drawn D__law_draw g_draw D__law_any (fnOk_lt fun e he => (g_any e).1.mono (by lia))
  have g_deep := ok_deep T D__law_deep D__law_draw g_draw D__law_name g_name
  have g_under := ok_under (P := l.prog) (w := w) (base := base) T (PySem.W.mg_of X G a_HM) hHM D_under
  have g_below := ok_below (P := l.prog) (w := w) (base := base) T D__law_below
  have g_knots := ok_knots T D_knots D_under g_under
  have g_tables := ok_tables T D_tables D_knots g_knots
  have g_bound := ok_bound (P := l.prog) (w := w) (base := base) T D_bound_in
  have g_free := ok_free T D_free D_under g_under D_bound_in g_bound
  have g_names := names_all T D__law_names D__law_below g_below 24
  have g_same := same_all (P := l.prog) (w := w) (base := base) T D__law_same 88
  have g_told := ok_told (P := l.prog) (w := w) (base := base) T D__law_told
  have g_right := ok_right T D__law_right D_under g_under D__law_below g_below D__law_names g_names D__law_same g_same D__law_told g_told D_free g_free D_tables g_tables
  exact ok_law T D_law D__law_hand g_hand D__law_drawn g_drawn D__law_deep g_deep D__law_right g_right D__law_below g_below
theorem walk {l : PySem.W.OpenLaw} {q : Program} {loose : List Str} {XP : (Str -> Option Value) -> Heap -> Prop} {YP : World -> Heap -> Prop} {d : DefRec} {K : Params -> PySem.W.Frag} (hn : l.most = some 63) (hdf : d.params.defaults = [])
    (hY : ∀ (w : World) (h : Heap), YP w h -> (K w.params).In h)
    (F : ∀ (w : World) (mg : Str -> Option Value) (fa : Addr) (h : Heap), (K w.params).In h -> h.Ns mainGlobals mg -> mg d.name = some (.ref fa) ->
      ∃ fd : FuncData, (∀ (s : Shared) (u : Value), BindsTo s fd ⟨[u], []⟩ [("script", u)]) /\ ∀ base : Heap, (K w.params).In base -> base.Ns mainGlobals mg -> FnOk l.prog w (K w.params) mg base CX0 92 fa fd ["script"] (spLaw (K w.params))) :
    PySem.W.WalkO q loose XP YP l.row.toRowW d [] (fun f vs => PySem.call f vs) :=
  L2.walk_of (n := 63) (k := 92) (x := "script") (CX := fun _ => CX0) (sp := fun w => spLaw (K w.params)) hn (by decide) hdf ⟨rfl, by decide, by decide⟩ hY F (fun _ _ a ns hl _ hS => ⟨a, ns, rfl, hS, hl, fun _ => rfl⟩) fun _ _ _ _ _ z => z
end K14
open PySem PySem.W PyProof.Rows
set_option maxRecDepth 100000 in
set_option maxHeartbeats 0 in
theorem PySem.Challenge.cw_keptnest_k14_under_free_tables_holds : PySem.Challenge.rw_keptnest_k14_under_free_tables.Holds := by
  w_on; o_law; k_head; (case hw => w_witness2)
  k_fill
  refine K14.walk (l := PySem.Challenge.rw_keptnest_k14_under_free_tables) rfl rfl (fun w h Y => PySem.W.kIn_of Y) ?F
  case F =>
    intro w mg fa h KX G hmg
    refine' K14.all_mk KX G hmg ?h_under ?h_knots ?h_tables ?h_free ?h_bound_in ?h__law_hand ?h__law_draw ?h__law_name ?h__law_number ?h__law_fields ?h__law_many_fields ?h__law_kind ?h__law_any_claim ?h__law_any_leaf ?h__law_any ?h__law_drawn ?h__law_same ?h__law_below ?h__law_names ?h__law_told ?h__law_right ?h__law_deep ?h_law ?hH ?z1 ?z2 ?z3 ?z4 ?z5 ?z6 ?z7 ?z8 ?z9 ?z10 ?z11 ?z12 ?z13 ?z14
    case h_under => refine' K14.defAt_mk ?a ?l ?c ?k; (case a => k_is); (case l => k_is); (case c => k_is); (case k => k_is)
    case h_knots => refine' K14.defAt_mk ?a ?l ?c ?k; (case a => k_is); (case l => k_is); (case c => k_is); (case k => k_is)
    case h_tables => refine' K14.defAt_mk ?a ?l ?c ?k; (case a => k_is); (case l => k_is); (case c => k_is); (case k => k_is)
    case h_free => refine' K14.defAt_mk ?a ?l ?c ?k; (case a => k_is); (case l => k_is); (case c => k_is); (case k => k_is)
    case h_bound_in => refine' K14.defAt_mk ?a ?l ?c ?k; (case a => k_is); (case l => k_is); (case c => k_is); (case k => k_is)
    case h__law_hand => refine' K14.defAt_mk ?a ?l ?c ?k; (case a => k_is); (case l => k_is); (case c => k_is); (case k => k_is)
    case h__law_draw => refine' K14.defAt_mk ?a ?l ?c ?k; (case a => k_is); (case l => k_is); (case c => k_is); (case k => k_is)
    case h__law_name => refine' K14.defAt_mk ?a ?l ?c ?k; (case a => k_is); (case l => k_is); (case c => k_is); (case k => k_is)
    case h__law_number => refine' K14.defAt_mk ?a ?l ?c ?k; (case a => k_is); (case l => k_is); (case c => k_is); (case k => k_is)
    case h__law_fields => refine' K14.defAt_mk ?a ?l ?c ?k; (case a => k_is); (case l => k_is); (case c => k_is); (case k => k_is)
    case h__law_many_fields => refine' K14.defAt_mk ?a ?l ?c ?k; (case a => k_is); (case l => k_is); (case c => k_is); (case k => k_is)
    case h__law_kind => refine' K14.defAt_mk ?a ?l ?c ?k; (case a => k_is); (case l => k_is); (case c => k_is); (case k => k_is)
    case h__law_any_claim => refine' K14.defAt_mk ?a ?l ?c ?k; (case a => k_is); (case l => k_is); (case c => k_is); (case k => k_is)
    case h__law_any_leaf => refine' K14.defAt_mk ?a ?l ?c ?k; (case a => k_is); (case l => k_is); (case c => k_is); (case k => k_is)
    case h__law_any => refine' K14.defAt_mk ?a ?l ?c ?k; (case a => k_is); (case l => k_is); (case c => k_is); (case k => k_is)
    case h__law_drawn => refine' K14.defAt_mk ?a ?l ?c ?k; (case a => k_is); (case l => k_is); (case c => k_is); (case k => k_is)
    case h__law_same => refine' K14.defAt_mk ?a ?l ?c ?k; (case a => k_is); (case l => k_is); (case c => k_is); (case k => k_is)
    case h__law_below => refine' K14.defAt_mk ?a ?l ?c ?k; (case a => k_is); (case l => k_is); (case c => k_is); (case k => k_is)
    case h__law_names => refine' K14.defAt_mk ?a ?l ?c ?k; (case a => k_is); (case l => k_is); (case c => k_is); (case k => k_is)
    case h__law_told => refine' K14.defAt_mk ?a ?l ?c ?k; (case a => k_is); (case l => k_is); (case c => k_is); (case k => k_is)
    case h__law_right => refine' K14.defAt_mk ?a ?l ?c ?k; (case a => k_is); (case l => k_is); (case c => k_is); (case k => k_is)
    case h__law_deep => refine' K14.defAt_mk ?a ?l ?c ?k; (case a => k_is); (case l => k_is); (case c => k_is); (case k => k_is)
    case h_law => refine' K14.defAt_mk ?a ?l ?c ?k; (case a => k_is); (case l => k_is); (case c => k_is); (case k => k_is)
    case hH =>
      refine' K14.have_mk ?a ?l ?z ?v
      (case a => k_is); (case l => k_is)
      case z => show 9 <= sizeLine; decide
      case v => exact .cons ⟨_, rfl⟩ (.cons ⟨_, rfl⟩ (.cons ⟨_, rfl⟩ (.cons ⟨_, rfl⟩ (.cons ⟨_, rfl⟩ (.cons ⟨_, rfl⟩ (.cons ⟨_, rfl⟩ (.cons ⟨_, rfl⟩ (.cons ⟨_, rfl⟩ .nil))))))))
    (case z1 => k_is); (case z2 => k_is); (case z3 => k_is); (case z4 => k_is); (case z5 => k_is); (case z6 => k_is); (case z7 => k_is); (case z8 => k_is); (case z9 => k_is); (case z10 => k_is); (case z11 => k_is); (case z12 => k_is); (case z13 => k_is); (case z14 => k_is)
#print axioms PySem.Challenge.cw_keptnest_k14_under_free_tables_holds
end
