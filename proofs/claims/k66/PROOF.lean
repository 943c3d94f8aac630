import PyProof.Rows.All
import Wide.All
import OpenK.AllK
import Wide.FinOn
import Lean
import PyProof.EqAt
import PyProof.EqKinds
import PyProof.TupleCall
import PyProof.DictWalks
import PyProof.DictKeyH
import PySem.Str
import PyProof.NeKinds
import KE.KRevSl
import KE.KDictSum
import PyProof.Rows.SortStr
import PyProof.IsiPairs
import PyProof.IsiHeapPairs
import PyProof.ZipIter
import KE.KSortAsk
import KE.KSortTup
import PyProof.EnumFor
import PyProof.EnumMake
import PyProof.StrWalks
import PyProof.Rows.EnumRows
import PyProof.Rows.FStr
import PyProof.Rows.SetFrom
import PyProof.CallStr
import PyProof.FitsBits
import KE.KUnpack
import KE.KTupSum
import KE.KDictOf
import PyProof.AttrMissHeap
import KE.KItemsList
import KE.KPairComp
import PyProof.Draws
import PyProof.ListRange
import PySem.Challenge.RW_keptnest_k66_fits
set_option Elab.async false
set_option linter.all false
set_option maxRecDepth 100000
set_option maxHeartbeats 4000000
section
-- CHANGE: your row's module here, as the last of these rows
namespace L2
open PySem PySem.Spec PyProof.Rows
noncomputable abbrev Key := Sum Int Str
noncomputable def keyIs : Key -> Value -> Bool
  | .inl k, v => Value.isInt k v
  | .inr x, v => Value.isStrOf x v
noncomputable def keyH (w : World) : Key -> Int
  | .inl k => hashInt k
  | .inr x => hashStr w x
theorem keyIs_shape : ∀ {k : Key} {v : Value}, keyIs k v = true -> (∃ i t, k = Sum.inl i /\ v = Value.int i t) \/ (∃ x t, k = Sum.inr x /\ v = Value.str x t)
  | .inl i, v, h => by
    obtain ⟨t, e⟩ := Value.isInt_shape (k := i) (v := v) h
    exact .inl ⟨i, t, rfl, e⟩
  | .inr x, v, h => by
    obtain ⟨t, e⟩ := Value.isStrOf_shape (x := x) (v := v) h
    exact .inr ⟨x, t, rfl, e⟩
theorem keyIs_int (i : Int) (t : Tok) : keyIs (.inl i) (.int i t) = true := by simp [keyIs, Value.isInt]
theorem keyIs_str (x : Str) (t : Tok) : keyIs (.inr x) (.str x t) = true := by simp [keyIs, Value.isStrOf]
theorem key_ll (a b : Int) : decide ((Sum.inl a : Key) = Sum.inl b) = (a == b) := by
  by_cases e : a = b
  · subst e; simp
  · have h : ¬ (Sum.inl a : Key) = Sum.inl b := fun q => e (Sum.inl.inj q)
    rw [decide_eq_false h]
    exact (beq_eq_false_iff_ne.mpr e).symm
theorem key_rr (a b : Str) : decide ((Sum.inr a : Key) = Sum.inr b) = decide (a = b) := by
  by_cases e : a = b
  · subst e; simp
  · have h : ¬ (Sum.inr a : Key) = Sum.inr b := fun q => e (Sum.inr.inj q)
    rw [decide_eq_false h, decide_eq_false e]
theorem key_lr (a : Int) (b : Str) : decide ((Sum.inl a : Key) = Sum.inr b) = false := decide_eq_false (fun q => nomatch q)
theorem key_rl (a : Str) (b : Int) : decide ((Sum.inr a : Key) = Sum.inl b) = false := decide_eq_false (fun q => nomatch q)
noncomputable def mixKind (prog : Program) (w : World) : PySem.KeyKind prog w Key where
  is := keyIs
  hash := keyH w
  inj := fun v a b ha hb => by
    rcases keyIs_shape ha with ⟨i, t, rfl, rfl⟩ | ⟨x, t, rfl, rfl⟩
    · rcases keyIs_shape hb with ⟨j, u, rfl, e⟩ | ⟨y, u, rfl, e⟩
      · injection e with e1 _; rw [e1]
      · exact nomatch e
    · rcases keyIs_shape hb with ⟨j, u, rfl, e⟩ | ⟨y, u, rfl, e⟩
      · exact nomatch e
      · injection e with e1 _; rw [e1]
  byValue := fun k v h => by
    rcases keyIs_shape h with ⟨i, t, rfl, rfl⟩ | ⟨x, t, rfl, rfl⟩ <;> rfl
  pyHash := fun hv h => by
    rcases keyIs_shape hv with ⟨i, t, rfl, rfl⟩ | ⟨x, t, rfl, rfl⟩
    · exact wpAny_pyHash_int h
    · exact wpAny_pyHash_str h
  eqBool := fun hu hv h => by
    rcases keyIs_shape hu with ⟨i, t, rfl, rfl⟩ | ⟨x, t, rfl, rfl⟩
    · rcases keyIs_shape hv with ⟨j, u, rfl, rfl⟩ | ⟨y, u, rfl, rfl⟩
      · rw [key_ll] at h; exact wpAny_eqBool_int h
      · rw [key_lr] at h; exact SeqAt.EqAt.int_str i t y u _ _ _ _ h
    · rcases keyIs_shape hv with ⟨j, u, rfl, rfl⟩ | ⟨y, u, rfl, rfl⟩
      · rw [key_rl] at h; exact SeqAt.EqAt.str_int x t j u _ _ _ _ h
      · rw [key_rr] at h; exact wpAny_eqBool_str h
  «strs» := fun k x t v h => by
    rcases keyIs_shape h with ⟨i, u, rfl, e⟩ | ⟨y, u, rfl, e⟩
    · exact nomatch e
    · injection e with e1 _
      subst e1
      cases v <;> rfl
theorem mixKind_int (prog : Program) (w : World) (i : Int) (t : Tok) : (mixKind prog w).is (.inl i) (.int i t) = true := keyIs_int i t
theorem mixKind_str (prog : Program) (w : World) (x : Str) (t : Tok) : (mixKind prog w).is (.inr x) (.str x t) = true := keyIs_str x t
end L2
namespace L2
open PySem PySem.Spec PyProof.Rows
inductive V where
  | non | bl (b : Bool) | int (i : Int) | str (x : Str) | byt (b : Array UInt8) | flt (b : UInt64) | ref (a : Addr) | ty (n : String)
  deriving DecidableEq
noncomputable def RelV : V -> Value -> Prop
  | .non, u => u = Value.none
  | .bl b, u => u = Value.bool b
  | .int i, u => ∃ t, u = Value.int i t
  | .str x, u => ∃ t, u = Value.str x t
  | .byt b, u => ∃ t, u = Value.bytes b t
  | .flt b, u => ∃ t, u = Value.float b t
  | .ref a, u => u = Value.ref a
  | .ty n, u => u = Value.type n
noncomputable abbrev Vals : List V -> List Value -> Prop := Paired RelV
theorem Vals.length {xs : List V} {us : List Value} (r : Vals xs us) : xs.length = us.length := Paired.length r
theorem Vals.get : ∀ {xs : List V} {us : List Value} {i : Nat} {x : V}, Vals xs us -> xs[i]? = some x -> ∃ u, us[i]? = some u /\ RelV x u
  | _, _, _, _, .nil, e => by simp at e
  | _, _, 0, _, .cons r _, e => by simp at e; subst e; exact ⟨_, rfl, r⟩
  | _, _, i + 1, x, .cons _ t, e => by
    obtain ⟨u, h1, h2⟩ := Vals.get (i := i) (x := x) t (by simpa using e)
    exact ⟨u, by simpa using h1, h2⟩
theorem Vals.set {x : V} {u : Value} (r : RelV x u) : ∀ {xs : List V} {us : List Value} (i : Nat), Vals xs us -> Vals (xs.set i x) (us.set i u)
  | _, _, _, .nil => .nil
  | _, _, 0, .cons _ t => .cons r t
  | _, _, i + 1, .cons q t => .cons q (Vals.set r i t)
theorem Vals.append {xs ys : List V} {us ws : List Value} (h : Vals xs us) (s : Vals ys ws) : Vals (xs ++ ys) (us ++ ws) := by
  induction h with
  | nil => exact s
  | cons r t ih => exact .cons r ih
theorem Vals.take : ∀ {xs : List V} {us : List Value} (n : Nat), Vals xs us -> Vals (xs.take n) (us.take n)
  | _, _, 0, _ => .nil
  | _, _, _ + 1, .nil => .nil
  | _, _, n + 1, .cons r t => .cons r (Vals.take n t)
theorem Vals.drop : ∀ {xs : List V} {us : List Value} (n : Nat), Vals xs us -> Vals (xs.drop n) (us.drop n)
  | _, _, 0, r => r
  | _, _, _ + 1, .nil => .nil
  | _, _, n + 1, .cons _ t => Vals.drop n t
noncomputable def RelO : Option V -> Option Value -> Prop
  | some v, some u => RelV v u
  | none, none => True
  | _, _ => False
noncomputable def KV {κ : Type} : List (κ × V) -> List (κ × Value) -> Prop := Paired fun (p : κ × V) (q : κ × Value) => p.1 = q.1 /\ RelV p.2 q.2
noncomputable def kV : Key -> V
  | .inl i => .int i
  | .inr x => .str x
inductive HO where
    | lst (xs : List V)
    | tup (xs : List V)
    | dK (kvs : List (Key × V)) | dT (kvs : List (List Key × V))
    | set (S : Int -> Bool) (n : Nat)
    | ins (C dx : Addr) (fs : List (Str × V))
    | own (x : Addr)
    | xd (fs : List (Str × V))
    | met (f x : Addr)
    | rng (lo hi : Int)
    | frz (o : Obj) (u : HO)
    | tbl (ps : Array Value)
    | ext (φ : Heap -> Prop)
noncomputable abbrev Hp := Addr -> Option HO
noncomputable def upd (H : Hp) (a : Addr) (o : HO) : Hp := fun b => if b = a then some o else H b
theorem upd_same {H : Hp} {a : Addr} {o : HO} : upd H a o a = some o := by unfold upd; rw [if_pos rfl]
theorem upd_ne {H : Hp} {a b : Addr} {o : HO} (h : b ≠ a) : upd H a o b = H b := by unfold upd; rw [if_neg h]
theorem ne_of {H : Hp} {a b : Addr} {o u : HO} (h : H a = some o) (h' : H b = some u) (d : o ≠ u) : a ≠ b := by
  intro e; subst e; rw [h] at h'; exact d (Option.some.inj h')
theorem ne_of_none {H : Hp} {a b : Addr} {o : HO} (h : H a = some o) (h' : H b = none) : a ≠ b := by
  intro e; subst e; rw [h] at h'; cases h'
noncomputable def TupD (h : Heap) (a : Addr) (n : Nat) : Prop := n <= sizeLine /\ ∀ o, h.get? a = some o -> o.dict = none
theorem tupD_new {h : Heap} {its : Array Value} {k n : Nat} (z : n <= sizeLine) : TupD (h.push { cls := .type "tuple", data := .seq its k }) h.objs.size n :=
  ⟨z, fun o q => by rw [Heap.get?_push_size _ rfl] at q; cases q; rfl⟩
theorem tupD_at {h : Heap} {a : Addr} {o : Obj} {n : Nat} (z : n <= sizeLine) (e : h.get? a = some o) (d : o.dict = none) : TupD h a n :=
  ⟨z, fun o' q => by rw [e] at q; cases q; exact d⟩
section
variable (P : Program) (w : World)
noncomputable def ObjOk (H : Hp) (h : Heap) (a : Addr) : HO -> Prop
  | .lst xs => xs.length <= sizeLine /\ ∃ (its : List Value) (n : Nat), Vals xs its /\ h.get? a = some { cls := .type "list", data := .seq its.toArray n }
  | .tup xs => TupD h a xs.length /\ ∃ its : List Value, Vals xs its /\ IsTup h a its.toArray
  | .dK kvs => kvs.length <= sizeLine /\ (a == sysModules) = false /\ ∃ vs, KV kvs vs /\ h.DictOf (mixKind P w) a vs
  | .dT kvs => kvs.length <= sizeLine /\ (a == sysModules) = false /\ ∃ xs : List (List Key × Addr × Value),
      Paired (fun (p : List Key × V) (q : List Key × Addr × Value) => p.1 = q.1 /\ H q.2.1 = some (.tup (p.1.map kV)) /\ RelV p.2 q.2.2) kvs xs /\
      ∃ o es ep, h.get? a = some o /\ o.ExactDict /\ o.data = .dict es ep /\ es.toList = xs.map (entryOfKey (tupleKind (mixKind P w))) /\ (xs.map (·.1)).Nodup
  | .set S n => h.SetOf (intKind P w) a S n
  | .ins C dx fs => H dx = some (.own a) /\ fs.length <= 1000 /\ dx ≠ a /\ h.get? a = some (PySem.W.instObj C dx) /\
      ∃ mA, h.Ns1 dx mA /\ (∀ f, RelO (fs.lookup f) (mA f)) /\ PySem.Within mA (fs.map (·.1))
  | .own _ => ∃ o, h.get? a = some o
  | .xd fs => ∃ mA, h.Ns1 a mA /\ ∀ f, RelO (fs.lookup f) (mA f)
  | .rng lo hi => ∃ t u v, h.get? a = some { cls := .type "range", data := .fields #[.int lo t, .int hi u, .int 1 v] }
  | .frz o u => h.get? a = some o /\ ObjOk H h a u
  | .tbl ps => h.get? a = some { cls := .none, data := .fields ps }
  | .met f x => h.get? a = some (PySem.W.methodObj (.ref f) (.ref x))
  | .ext φ => φ h /\ (∃ o, h.get? a = some o) /\ ∀ h1 h2 : Heap, φ h1 -> (∀ o, h1.get? a = some o -> h2.get? a = some o) -> φ h2
noncomputable def HOk (H : Hp) (h : Heap) : Prop := ∀ a o, H a = some o -> ObjOk P w H h a o
end
section
variable {P : Program} {w : World} {H H' : Hp} {h h' : Heap} {a : Addr} {o : HO}
theorem ObjOk.lt (x : ObjOk P w H h a o) : a < h.objs.size := by
  cases o with
  | lst xs => obtain ⟨_, _, _, _, e⟩ := x; exact Heap.lt_size e
  | tup xs => obtain ⟨_, _, _, p⟩ := x; exact p.lt
  | dK kvs => obtain ⟨_, _, _, _, o, _, _, e, _⟩ := x; exact Heap.lt_size e
  | dT kvs => obtain ⟨_, _, _, _, o, _, _, e, _⟩ := x; exact Heap.lt_size e
  | set S n => obtain ⟨o, _, _, _, e, _⟩ := x; exact Heap.lt_size e
  | ins C dx fs => obtain ⟨_, _, _, e, _⟩ := x; exact Heap.lt_size e
  | own y => obtain ⟨_, e⟩ := x; exact Heap.lt_size e
  | xd fs => obtain ⟨_, ⟨_, _, _, e, _⟩, _⟩ := x; exact Heap.lt_size e
  | rng lo hi => obtain ⟨_, _, _, e⟩ := x; exact Heap.lt_size e
  | frz ob u => obtain ⟨e, _⟩ := x; exact Heap.lt_size e
  | tbl ps => exact Heap.lt_size (show h.get? a = some _ from x)
  | met f y => exact Heap.lt_size (show h.get? a = some _ from x)
  | ext φ => obtain ⟨_, ⟨_, e⟩, _⟩ := x; exact Heap.lt_size e
theorem Paired.mapP {α β : Type} {F G : α -> β -> Prop} : ∀ {l₁ : List α} {l₂ : List β}, Paired F l₁ l₂ -> (∀ a b, F a b -> G a b) -> Paired G l₁ l₂
  | _, _, .nil, _ => .nil
  | _, _, .cons r t, f => .cons (f _ _ r) (Paired.mapP t f)
theorem ObjOk.stay (x : ObjOk P w H h a o) (k : ∀ b u, (b = a \/ H b = some (.own a)) -> h.get? b = some u -> h'.get? b = some u)
    (ho : ∀ b, H b = some (.own a) -> H' b = some (.own a)) (ht : ∀ b xs, H b = some (.tup xs) -> H' b = some (.tup xs)) : ObjOk P w H' h' a o := by
  induction o with
  | lst xs => obtain ⟨z, its, n, r, e⟩ := x; exact ⟨z, its, n, r, k _ _ (.inl rfl) e⟩
  | tup xs => obtain ⟨z, its, r, ob, e, c⟩ := x; exact ⟨tupD_at z.1 (k _ _ (.inl rfl) e) (z.2 _ e), its, r, ob, k _ _ (.inl rfl) e, c⟩
  | dK kvs => obtain ⟨z, y, vs, r, ob, es, ep, e, c⟩ := x; exact ⟨z, y, vs, r, ob, es, ep, k _ _ (.inl rfl) e, c⟩
  | dT kvs =>
    obtain ⟨z, y, xs, r, ob, es, ep, e, c⟩ := x
    exact ⟨z, y, xs, Paired.mapP r fun p q z => ⟨z.1, ht _ _ z.2.1, z.2.2⟩, ob, es, ep, k _ _ (.inl rfl) e, c⟩
  | set S n => obtain ⟨ob, es, ep, t, e, c⟩ := x; exact ⟨ob, es, ep, t, k _ _ (.inl rfl) e, c⟩
  | ins C dx fs =>
    obtain ⟨d, z, ne, e, mA, ⟨od, es, ep, e2, c⟩, r⟩ := x
    exact ⟨ho _ d, z, ne, k _ _ (.inl rfl) e, mA, ⟨od, es, ep, k _ _ (.inr d) e2, c⟩, r⟩
  | own y => obtain ⟨ob, e⟩ := x; exact ⟨ob, k _ _ (.inl rfl) e⟩
  | xd fs => obtain ⟨mA, ⟨od, es, ep, e, c⟩, r⟩ := x; exact ⟨mA, ⟨od, es, ep, k _ _ (.inl rfl) e, c⟩, r⟩
  | rng lo hi => obtain ⟨t, u, v, e⟩ := x; exact ⟨t, u, v, k _ _ (.inl rfl) e⟩
  | frz ob u ih => obtain ⟨e, q⟩ := x; exact ⟨k _ _ (.inl rfl) e, ih q⟩
  | tbl ps =>
    have e : h.get? a = some { cls := .none, data := .fields ps } := x
    show h'.get? a = some { cls := .none, data := .fields ps }
    exact k a _ (.inl rfl) e
  | met f y =>
    have e : h.get? a = some (PySem.W.methodObj (.ref f) (.ref y)) := x
    show h'.get? a = some (PySem.W.methodObj (.ref f) (.ref y))
    exact k a _ (.inl rfl) e
  | ext φ => obtain ⟨p, ⟨o, e⟩, st⟩ := x; exact ⟨st _ _ p fun o q => k _ _ (.inl rfl) q, ⟨o, k _ _ (.inl rfl) e⟩, st⟩
theorem HOk.lt (x : HOk P w H h) (e : H a = some o) : a < h.objs.size := (x a o e).lt
theorem HOk.fresh (x : HOk P w H h) (e : h.objs.size <= a) : H a = none := by
  cases q : H a with
  | none => rfl
  | some u => exact absurd (Nat.lt_of_lt_of_le (x.lt q) e) (Nat.lt_irrefl _)
theorem HOk.kept (x : HOk P w H h) (k : ∀ b u, h.get? b = some u -> h'.get? b = some u) : HOk P w H h' := fun a o e =>
  (x a o e).stay (fun b u _ q => k b u q) (fun _ q => q) fun _ _ q => q
theorem HOk.laid (x : HOk P w H h) (k : ∀ b u, h.get? b = some u -> h'.get? b = some u) (hp : h.objs.size <= a) (new : ObjOk P w (upd H a o) h' a o) : HOk P w (upd H a o) h' := fun b u e => by
  have hn := x.fresh hp
  by_cases hb : b = a
  · subst hb; rw [upd_same] at e; cases e; exact new
  · rw [upd_ne hb] at e
    exact (x b u e).stay (fun c v _ q => k c v q) (fun c q => by rw [upd_ne (ne_of_none q hn)]; exact q) fun c xs q => by rw [upd_ne (ne_of_none q hn)]; exact q
end
noncomputable def Rd (H : Hp) (a : Addr) (u : HO) : Prop := H a = some u \/ ∃ o, H a = some (.frz o u)
theorem Rd.ok {P : Program} {w : World} {H : Hp} {h : Heap} {a : Addr} {u : HO} (r : Rd H a u) (x : HOk P w H h) : ObjOk P w H h a u := by
  rcases r with r | ⟨o, r⟩
  · exact x a u r
  · obtain ⟨_, q⟩ := x a _ r
    exact q
noncomputable def Mut : Option HO -> Prop
  | some (.lst _) => True
  | some (.dK _) => True
  | some (.dT _) => True
  | some (.set _ _) => True
  | some (.ins _ _ _) => True
  | some (.ext _) => True
  | _ => False
section
variable {P : Program} {w : World} {H : Hp} {h h' : Heap} {x e : Addr} {o' : HO}
theorem HOk.write (ok : HOk P w H h) (mu : Mut (H x)) (he : e = x \/ H e = some (.own x)) (k : ∀ b u, b ≠ e -> h.get? b = some u -> h'.get? b = some u) (heo : ∃ u, h'.get? e = some u)
    (new : ObjOk P w (upd H x o') h' x o') : HOk P w (upd H x o') h' := fun b u q => by
  have nown : ∀ c y, H c = some (.own y) -> c ≠ x := fun c y r z => by subst z; rw [r] at mu; exact mu
  have ntup : ∀ c xs, H c = some (.tup xs) -> c ≠ x := fun c xs r z => by subst z; rw [r] at mu; exact mu
  by_cases hb : b = x
  · subst hb; rw [upd_same] at q; cases q; exact new
  · rw [upd_ne hb] at q
    by_cases hbe : b = e
    · have q' : H b = some (.own x) := by
        rcases he with z | z
        · exact absurd (hbe.trans z) hb
        · rw [hbe]; exact z
      rw [q] at q'; cases q'
      obtain ⟨v, hv⟩ := heo
      exact ⟨v, by rw [hbe]; exact hv⟩
    · refine (ok b u q).stay (fun c v hc r => k c v ?_ r) (fun c r => by rw [upd_ne (nown c b r)]; exact r) fun c xs r => by rw [upd_ne (ntup c xs r)]; exact r
      rcases hc with rfl | hc
      · exact hbe
      · rintro rfl
        rcases he with z | z
        · exact nown c b hc z
        · rw [hc] at z; cases z; exact hb rfl
end
structure Un (fs ex : List Addr) (H H' : Hp) (h h' : Heap) : Prop where
  keep : ∀ b o, h.get? b = some o -> H b = none -> b ∉ fs -> b ∉ ex -> h'.get? b = some o
  slot : ∀ b o, h.get? b = some o -> H b = none -> b ∈ fs -> b ∉ ex -> ∃ sl, h'.get? b = some { o with slots := sl }
  free : ∀ b o, h.get? b = some o -> H b = none -> b ∉ ex -> H' b = none
  there : ∀ b o, h.get? b = some o -> b ∉ ex -> ∃ o', h'.get? b = some o'
  tups : ∀ b xs, H b = some (.tup xs) -> H' b = some (.tup xs)
  frzs : ∀ b o u, H b = some (.frz o u) -> H' b = some (.frz o u)
  tbls : ∀ b ps, H b = some (.tbl ps) -> ∃ more, H' b = some (.tbl (ps ++ more))
section
variable {fs fs' ex ex' : List Addr} {H H1 H2 : Hp} {h h1 h2 h' : Heap} {a x e : Addr} {o : HO}
theorem Un.any (u : Un fs ex H H1 h h1) {b : Addr} {ob : Obj} (q : h.get? b = some ob) (n : H b = none) (hx : b ∉ ex) : ∃ sl, h1.get? b = some { ob with slots := sl } := by
  by_cases hb : b ∈ fs
  · exact u.slot b ob q n hb hx
  · exact ⟨ob.slots, u.keep b ob q n hb hx⟩
theorem Un.kept (k : ∀ b u, h.get? b = some u -> h'.get? b = some u) : Un fs ex H H h h' :=
  ⟨fun b ob q _ _ _ => k b ob q, fun b ob q _ _ _ => ⟨ob.slots, k b ob q⟩, fun _ _ _ n _ => n, fun b ob q _ => ⟨ob, k b ob q⟩, fun _ _ q => q, fun _ _ _ q => q, fun _ ps q => ⟨#[], by rw [q]; simp⟩⟩
theorem Un.refl : Un fs ex H H h h := Un.kept fun _ _ q => q
theorem Un.laid (k : ∀ b u, h.get? b = some u -> h'.get? b = some u) (hp : h.objs.size <= a) (hn : H a = none) : Un fs ex H (upd H a o) h h' where
  keep := fun b u q _ _ _ => k b u q
  slot := fun b u q _ _ _ => ⟨u.slots, k b u q⟩
  free := fun b u q n _ => by rw [upd_ne (Nat.ne_of_lt (Nat.lt_of_lt_of_le (Heap.lt_size q) hp))]; exact n
  there := fun b u q _ => ⟨u, k b u q⟩
  tups := fun b xs q => by rw [upd_ne (ne_of_none q hn)]; exact q
  frzs := fun b u xs q => by rw [upd_ne (ne_of_none q hn)]; exact q
  tbls := fun b ps q => ⟨#[], by rw [upd_ne (ne_of_none q hn), q]; simp⟩
theorem Un.write (mu : Mut (H x)) (he : e = x \/ H e = some (.own x)) (k : ∀ b u, b ≠ e -> h.get? b = some u -> h'.get? b = some u) (heo : ∃ u, h'.get? e = some u) : Un fs ex H (upd H x o) h h' := by
  have hx : ∀ b, H b = none -> b ≠ x := fun b n z => by subst z; rw [n] at mu; exact mu
  have hb : ∀ b, H b = none -> b ≠ e := fun b n z => by
    subst z
    rcases he with r | r
    · exact hx b n r
    · rw [n] at r; cases r
  have hm : ∀ b u, H b = some u -> ¬ Mut (some u) -> b ≠ x := fun b u q nm z => by subst z; rw [q] at mu; exact nm mu
  refine ⟨fun b u q n _ _ => k b u (hb b n) q, fun b u q n _ _ => ⟨u.slots, k b u (hb b n) q⟩, fun b u q n _ => by rw [upd_ne (hx b n)]; exact n, fun b u q _ => ?_,
    fun b xs q => by rw [upd_ne (hm b _ q fun z => z)]; exact q, fun b u xs q => by rw [upd_ne (hm b _ q fun z => z)]; exact q, fun b ps q => ⟨#[], by rw [upd_ne (hm b _ q fun z => z), q]; simp⟩⟩
  by_cases hbe : b = e
  · subst hbe; exact heo
  · exact ⟨u, k b u hbe q⟩
end
noncomputable def trk (h : Heap) (H : Hp) : List Addr := (List.range h.objs.size).filter fun a => (H a).isSome
noncomputable def hidT (h : Heap) (H : Hp) : Heap := PySem.W.hideAll h (trk h H)
theorem hidT_size (h : Heap) (H : Hp) : (hidT h H).objs.size = h.objs.size := PySem.W.hideAll_size _ _
theorem hidT_get {h : Heap} {H : Hp} {b : Addr} {o : Obj} (e : h.get? b = some o) (n : H b = none) : (hidT h H).get? b = some o :=
  PySem.W.hideAll_get _ e fun hm => by
    have q : (H b).isSome = true := (List.mem_filter.mp hm).2
    rw [n] at q; simp at q
theorem of_hidT {h : Heap} {H : Hp} {b : Addr} {o : Obj} (e : (hidT h H).get? b = some o) : h.get? b = some o /\ H b = none := by
  have e' : h.get? b = some o := PySem.W.of_hideAll (trk h H) e
  refine ⟨e', ?_⟩
  cases q : H b with
  | none => rfl
  | some x =>
    have hm : b ∈ trk h H := List.mem_filter.mpr ⟨List.mem_range.mpr (Heap.lt_size e'), by simp [q]⟩
    have z : (hidT h H).get? b = none := PySem.W.hideAll_none (trk h H) hm
    rw [z] at e; cases e
noncomputable def allNews (g h : Heap) (L : Addr) : List (Addr × Obj) := (List.range h.objs.size).filterMap fun a => if a = L \/ (g.get? a).isSome = true then none else (h.get? a).map fun o => (a, o)
noncomputable def rest (g h : Heap) (L d : Addr) : List (Addr × Obj) := (allNews g h L).filter fun p => decide (p.1 ≠ d)
end L2
namespace L2
open PySem PySem.Spec PyProof.Rows
structure Mod (K : PySem.W.Frag) (mg : Str -> Option Value) (base : Heap) : Prop where
  kin : K.In base
  glob : base.Ns mainGlobals mg
  blt : ∃ mb, base.Ns builtinsNs mb /\ ∀ x : Str, x ≠ "__name__" -> mb x = bootBuiltins x
  nolimit : base.NoLimit
structure Cx where
  prog : Program
  w : World
  K : PySem.W.Frag
  mg : Str -> Option Value
  base : Heap
  A : Around
  N : List Str
  s₀ : Shared
  H₀ : Hp
  env : Env
  outer : List Env
  stack : List Env
  ex : List Addr
  fn : Str -> Bool
  calm : Bool
  pn : List (Addr × Obj)
  xe : Value -> Shared -> Prop
noncomputable def frs (l : List Env) : List Addr := l.filterMap (·.frame)
noncomputable abbrev Cx.fs (X : Cx) : List Addr := frs X.outer
noncomputable def Vis (sc : Scope) (x : Str) : Prop := sc.names.lookup x = some .local \/ sc.names.lookup x = some .cell \/ sc.names.lookup x = some .free
noncomputable def Loc (sc : Scope) (x : Str) : Prop := sc.names.lookup x = some .local \/ sc.names.lookup x = some .cell
noncomputable def Look (env : Env) (h : Heap) (m : Str -> Option Value) (x : Str) (u : Value) : Prop :=
  (env.kindOf x = some .local /\ m x = some u) \/ ((env.kindOf x = some .cell \/ env.kindOf x = some .free) /\ ∃ c, env.cells.lookup x = some c /\ h.IsCell c (some u))
structure Cx.Ok (X : Cx) : Prop where
  mod : Mod X.K X.mg X.base
  kind : X.env.scope.kind = .function
  glob : X.env.globals = mainGlobals
  blt : X.env.builtins = builtinsNs
  above : X.s₀.heap.objs.size <= X.env.locals
  inj : ∀ x y c, X.env.cells.lookup x = some c -> X.env.cells.lookup y = some c -> x = y
  has : ∀ x, (X.env.kindOf x = some .cell \/ X.env.kindOf x = some .free) -> ∃ c, X.env.cells.lookup x = some c
  cab : ∀ x c, X.fn x = true -> X.env.cells.lookup x = some c -> X.s₀.heap.objs.size <= c
  hd : X.calm = true -> X.A.handled = none
  frames : X.A.frames = some X.stack
  stk : X.stack = X.outer \/ (X.stack = X.env :: X.outer /\ X.env.frame = some X.env.locals)
  exf : ∀ b ∈ X.ex, b ≠ X.env.locals /\ ∀ x c, X.env.cells.lookup x = some c -> c ≠ b
  bs : ∀ b o, X.base.get? b = some o -> X.s₀.heap.get? b = some o /\ X.H₀ b = none
  bsz : X.base.objs.size <= X.s₀.heap.objs.size
  noex : ∀ b o, X.base.get? b = some o -> b ∉ X.ex
  exfs : ∀ b ∈ X.ex, b ∉ X.fs
  funs : X.s₀.heap.FunFrames X.base X.outer
  frf : ∀ b ∈ X.fs, X.H₀ b = none
structure Inv (X : Cx) (pins : List (Addr × Obj)) (σ : List (Option V)) (H : Hp) (s : Shared) : Prop where
  ok : X.Ok
  os : s.os = X.s₀.os
  bare : AllBare s.gens
  base : Un X.fs X.ex X.H₀ H X.s₀.heap s.heap
  loc : ∃ m, s.heap.Ns X.env.locals m /\ ∀ (i : Nat) (x : Str) (v : V), X.N[i]? = some x -> σ[i]? = some (some v) -> Vis X.env.scope x -> ∃ u, RelV v u /\ Look X.env s.heap m x u
  cell : ∀ x c, X.env.cells.lookup x = some c -> ∃ v, s.heap.IsCell c v
  free : H X.env.locals = none
  freeC : ∀ x c, X.env.cells.lookup x = some c -> H c = none
  pin : ∀ p ∈ X.pn ++ pins, s.heap.get? p.1 = some p.2 /\ H p.1 = none /\ p.1 ≠ X.env.locals /\ p.1 ∉ X.fs /\ ∀ v, p.2.data ≠ .cell v
  hok : HOk X.prog X.w H s.heap
  len : σ.length = X.N.length
section
variable {X : Cx} {pins : List (Addr × Obj)} {σ : List (Option V)} {H H' : Hp} {s : Shared} {h' : Heap}
theorem Cx.Ok.nofr (ok : X.Ok) {b : Addr} {o : Obj} (e : X.base.get? b = some o) : b ∉ X.fs := fun hb => by
  have := (ok.funs.mem hb).1
  rw [e] at this; cases this
theorem Inv.bs (I : Inv X pins σ H s) : ∀ b o, X.base.get? b = some o -> s.heap.get? b = some o /\ H b = none := fun b o e =>
  ⟨I.base.keep b o (I.ok.bs b o e).1 (I.ok.bs b o e).2 (I.ok.nofr e) (I.ok.noex b o e), I.base.free b o (I.ok.bs b o e).1 (I.ok.bs b o e).2 (I.ok.noex b o e)⟩
theorem Inv.bk (I : Inv X pins σ H s) : ∀ b o, X.base.get? b = some o -> s.heap.get? b = some o := fun b o e => (I.bs b o e).1
theorem Inv.mod (I : Inv X pins σ H s) : Mod X.K X.mg X.base := I.ok.mod
theorem Inv.kIn (I : Inv X pins σ H s) : X.K.In s.heap := I.ok.mod.kin.keeps I.bk
theorem Inv.lt (I : Inv X pins σ H s) : X.env.locals < s.heap.objs.size := let ⟨_, hn, _⟩ := I.loc; hn.lt
theorem Inv.sz (I : Inv X pins σ H s) : X.s₀.heap.objs.size <= s.heap.objs.size := Nat.le_trans I.ok.above (Nat.le_of_lt I.lt)
theorem Inv.nofs (I : Inv X pins σ H s) {a : Addr} (h : s.heap.objs.size <= a) : a ∉ X.fs := fun hb => by
  obtain ⟨_, o, ho, _⟩ := I.ok.funs.mem hb
  exact absurd (Nat.lt_of_lt_of_le (Heap.lt_size ho) (Nat.le_trans I.sz h)) (Nat.lt_irrefl _)
theorem Inv.cne (I : Inv X pins σ H s) : ∀ x c, X.env.cells.lookup x = some c -> c ≠ X.env.locals := fun x c e z => by
  obtain ⟨v, o, ho, hd⟩ := I.cell x c e
  obtain ⟨m, ⟨o', es, ep, ho', hd', _⟩, _⟩ := I.loc
  rw [z, ho'] at ho; cases ho; rw [hd'] at hd; cases hd
theorem Inv.funs (I : Inv X pins σ H s) : s.heap.FunFrames X.base X.outer := by
  have all : ∀ (l : List Env), (∀ b ∈ frs l, b ∈ X.fs) -> X.s₀.heap.FunFrames X.base l -> s.heap.FunFrames X.base l := by
    intro l
    induction l with
    | nil => intro _ _; trivial
    | cons env r ih =>
      intro hs hl
      obtain ⟨hk, ⟨L, o, hf, hn, ho, hd⟩, hr⟩ := hl
      have hL : L ∈ X.fs := hs L (by unfold frs; rw [List.filterMap_cons, hf]; exact List.mem_cons_self)
      obtain ⟨sl, e⟩ := I.base.slot L o ho (I.ok.frf L hL) hL fun z => I.ok.exfs L z hL
      exact ⟨hk, ⟨L, _, hf, hn, e, hd⟩, ih (fun b hb => hs b (by unfold frs; rw [List.filterMap_cons, hf]; exact List.mem_cons_of_mem _ hb)) hr⟩
  exact all X.outer (fun _ hb => hb) I.ok.funs
theorem Inv.stack (I : Inv X pins σ H s) : s.heap.FunFrames X.base X.stack := by
  rcases I.ok.stk with e | ⟨e, hf⟩
  · rw [e]; exact I.funs
  · rw [e]
    obtain ⟨m, hn, _⟩ := I.loc
    refine .cons (by rw [I.ok.kind]; decide) hf hn ?_ I.funs
    exact Heap.get?_none_of_le (Nat.le_trans I.ok.bsz I.ok.above)
theorem Inv.stkSub (I : Inv X pins σ H s) : ∀ b ∈ frs X.stack, b ∈ X.env.locals :: X.fs := fun b hb => by
  rcases I.ok.stk with e | ⟨e, hf⟩
  · rw [e] at hb; exact List.mem_cons_of_mem _ hb
  · rw [e] at hb
    unfold frs at hb
    rw [List.filterMap_cons, hf] at hb
    exact hb
theorem Inv.stkFree (I : Inv X pins σ H s) : ∀ b ∈ frs X.stack, H b = none := fun b hb => by
  rcases List.mem_cons.mp (I.stkSub b hb) with e | hb
  · rw [e]; exact I.free
  · obtain ⟨_, o, ho, _⟩ := I.ok.funs.mem hb
    exact I.base.free b o ho (I.ok.frf b hb) fun z => I.ok.exfs b z hb
theorem Inv.step {g' : Array GenState} {t' : Nat} {d' : Drawn} {ch : List Addr} (I : Inv X pins σ H s)
    (hch : ∀ b ∈ ch, (b ∈ X.ex \/ X.s₀.heap.objs.size <= b) /\ b ≠ X.env.locals /\ (∀ x c, X.env.cells.lookup x = some c -> c ≠ b) /\ ∀ p ∈ X.pn ++ pins, p.1 ≠ b)
    (keep : ∀ b o, b ≠ X.env.locals -> b ∉ X.fs -> b ∉ ch -> s.heap.get? b = some o -> H b = none -> h'.get? b = some o)
    (slot : ∀ b o, b ≠ X.env.locals -> b ∈ X.fs -> b ∉ ch -> s.heap.get? b = some o -> H b = none -> ∃ sl, h'.get? b = some { o with slots := sl }) (free : ∀ b o, b ∉ ch -> s.heap.get? b = some o -> H b = none -> H' b = none)
    (there : ∀ b o, b ∉ ch -> s.heap.get? b = some o -> ∃ o', h'.get? b = some o')
    (tups : ∀ b xs, H b = some (.tup xs) -> H' b = some (.tup xs)) (frzs : ∀ b o u, H b = some (.frz o u) -> H' b = some (.frz o u)) (tbls : ∀ b ps, H b = some (.tbl ps) -> ∃ more, H' b = some (.tbl (ps ++ more)))
    (ns : ∀ m, s.heap.Ns X.env.locals m -> h'.Ns X.env.locals m) (hok : HOk X.prog X.w H' h') (hg : AllBare g') :
    Inv X pins σ H' { s with heap := h', gens := g', drawn := d', toks := t' } := by
  have neL : ∀ b o, X.s₀.heap.get? b = some o -> b ≠ X.env.locals := fun b o e => Nat.ne_of_lt (Nat.lt_of_lt_of_le (Heap.lt_size e) I.ok.above)
  have neC : ∀ b o, X.s₀.heap.get? b = some o -> b ∉ X.ex -> b ∉ ch := fun b o e hx hb => by
    rcases (hch b hb).1 with z | z
    · exact hx z
    · exact absurd (Nat.lt_of_lt_of_le (Heap.lt_size e) z) (Nat.lt_irrefl _)
  have cellK : ∀ x c, X.env.cells.lookup x = some c -> ∀ v, s.heap.IsCell c v -> h'.IsCell c v := fun x c e v ⟨o, ho, hd⟩ => by
    have nch : c ∉ ch := fun z => (hch c z).2.2.1 x c e rfl
    by_cases hc : c ∈ X.fs
    · obtain ⟨sl, q⟩ := slot c o (I.cne x c e) hc nch ho (I.freeC x c e)
      exact ⟨_, q, hd⟩
    · exact ⟨o, keep c o (I.cne x c e) hc nch ho (I.freeC x c e), hd⟩
  refine ⟨I.ok, I.os, hg, ⟨fun b o e n hb hx => ?_, fun b o e n hb hx => ?_, fun b o e n hx => ?_, fun b o e hx => ?_, fun b xs e => tups b xs (I.base.tups b xs e), fun b o xs e => frzs b o xs (I.base.frzs b o xs e), fun b ps e => ?_⟩, ?_, fun x c e => ?_, ?_, fun x c e => ?_, fun p hp => ?_, hok, I.len⟩
  · exact keep b o (neL b o e) hb (neC b o e hx) (I.base.keep b o e n hb hx) (I.base.free b o e n hx)
  · obtain ⟨sl, e1⟩ := I.base.slot b o e n hb hx
    obtain ⟨sl', e2⟩ := slot b _ (neL b o e) hb (neC b o e hx) e1 (I.base.free b o e n hx)
    exact ⟨sl', e2⟩
  · obtain ⟨o', e1⟩ := I.base.there b o e hx
    exact free b o' (neC b o e hx) e1 (I.base.free b o e n hx)
  · obtain ⟨o', e1⟩ := I.base.there b o e hx
    exact there b o' (neC b o e hx) e1
  · obtain ⟨m1, e1⟩ := I.base.tbls b ps e
    obtain ⟨m2, e2⟩ := tbls b _ e1
    exact ⟨m1 ++ m2, by rw [e2, Array.append_assoc]⟩
  · obtain ⟨m, hn, hl⟩ := I.loc
    refine ⟨m, ns m hn, fun i x v e1 e2 e3 => ?_⟩
    obtain ⟨u, r, l⟩ := hl i x v e1 e2 e3
    refine ⟨u, r, ?_⟩
    rcases l with l | ⟨k, c, e, z⟩
    · exact .inl l
    · exact .inr ⟨k, c, e, cellK x c e _ z⟩
  · obtain ⟨v, z⟩ := I.cell x c e
    exact ⟨v, cellK x c e v z⟩
  · obtain ⟨m, ⟨o, _, _, ho, _⟩, _⟩ := I.loc
    exact free _ o (fun z => (hch _ z).2.1 rfl) ho I.free
  · obtain ⟨v, o, ho, hd⟩ := I.cell x c e
    exact free c o (fun z => (hch c z).2.2.1 x c e rfl) ho (I.freeC x c e)
  · obtain ⟨e, n, ne, nf, d⟩ := I.pin p hp
    have nch : p.1 ∉ ch := fun z => (hch p.1 z).2.2.2 p hp rfl
    exact ⟨keep p.1 p.2 ne nf nch e n, free p.1 p.2 nch e n, ne, nf, d⟩
theorem Inv.un {t' : Nat} (I : Inv X pins σ H s) (u : Un X.fs [] H H' s.heap h') (hok : HOk X.prog X.w H' h') : Inv X pins σ H' { s with heap := h', toks := t' } := by
  obtain ⟨m, ⟨o, es, ep, ho, r⟩, _⟩ := id I.loc
  obtain ⟨sl, hL⟩ := u.any ho I.free (by simp)
  exact I.step (g' := s.gens) (d' := s.drawn) (ch := []) (fun _ z => nomatch z) (fun b o _ hb _ e n => u.keep b o e n hb (by simp)) (fun b o _ hb _ e n => u.slot b o e n hb (by simp)) (fun b o _ e n => u.free b o e n (by simp)) (fun b o _ e => u.there b o e (by simp)) u.tups u.frzs u.tbls (fun m' hm => by
    obtain ⟨o', es', ep', ho', r'⟩ := hm
    rw [ho] at ho'; cases ho'
    exact ⟨_, es', ep', hL, r'⟩) hok I.bare
theorem Inv.call {g' : Array GenState} {t' : Nat} {d' : Drawn} {ch : List Addr} (I : Inv X pins σ H s) (u : Un (frs X.stack) ch H H' s.heap h') (hok : HOk X.prog X.w H' h') (hg : AllBare g')
    (hch : ∀ b ∈ ch, (b ∈ X.ex \/ X.s₀.heap.objs.size <= b) /\ b ≠ X.env.locals /\ (∀ x c, X.env.cells.lookup x = some c -> c ≠ b) /\ ∀ p ∈ X.pn ++ pins, p.1 ≠ b) :
    Inv X pins σ H' { s with heap := h', gens := g', drawn := d', toks := t' } := by
  obtain ⟨m, ⟨o, es, ep, ho, r⟩, _⟩ := id I.loc
  obtain ⟨sl, hL⟩ := u.any ho I.free fun z => (hch _ z).2.1 rfl
  exact I.step (ch := ch) hch (fun b o hL hb hc e n => u.keep b o e n (fun z => (List.mem_cons.mp (I.stkSub b z)).elim hL hb) hc) (fun b o _ _ hc e n => u.any e n hc) (fun b o hc e n => u.free b o e n hc) (fun b o hc e => u.there b o e hc) u.tups u.frzs u.tbls (fun m' hm => by
    obtain ⟨o', es', ep', ho', r'⟩ := hm
    rw [ho] at ho'; cases ho'
    exact ⟨_, es', ep', hL, r'⟩) hok hg
theorem Inv.turned {t' : Nat} {it : Addr} (I : Inv X pins σ H s) (k : ∀ b o, b ≠ it -> s.heap.get? b = some o -> h'.get? b = some o) (hn : H it = none) (hL : it ≠ X.env.locals)
    (h1 : it ∈ X.ex \/ X.s₀.heap.objs.size <= it) (h2 : ∀ x c, X.env.cells.lookup x = some c -> c ≠ it) (h3 : ∀ p ∈ X.pn ++ pins, p.1 ≠ it) : Inv X pins σ H { s with heap := h', toks := t' } := by
  have nit : ∀ b u, H b = some u -> b ≠ it := fun b u e z => by rw [z, hn] at e; cases e
  refine I.step (g' := s.gens) (d' := s.drawn) (ch := [it]) (fun b hb => ?_) (fun b o _ _ hc e _ => k b o (fun z => hc (by simp [z])) e) (fun b o _ _ hc e _ => ⟨o.slots, k b o (fun z => hc (by simp [z])) e⟩) (fun _ _ _ _ n => n)
    (fun b o hc e => ⟨o, k b o (fun z => hc (by simp [z])) e⟩) (fun _ _ e => e) (fun _ _ _ e => e) (fun b ps e => ⟨#[], by rw [e]; simp⟩) (fun m hm => ?_) (fun b u e => ?_) I.bare
  · have e : b = it := by simpa using hb
    subst e
    exact ⟨h1, hL, h2, h3⟩
  · obtain ⟨o, es, ep, ho, r⟩ := hm
    exact ⟨o, es, ep, k _ o (Ne.symm hL) ho, r⟩
  · refine (I.hok b u e).stay (fun c v hc q => k c v ?_ q) (fun _ q => q) fun _ _ q => q
    rcases hc with z | z
    · rw [z]; exact nit b u e
    · exact nit c _ z
theorem Inv.tok (I : Inv X pins σ H s) (t : Nat) : Inv X pins σ H { s with toks := t } := I.un (h' := s.heap) (t' := t) Un.refl I.hok
theorem Inv.kept {t' : Nat} (I : Inv X pins σ H s) (k : ∀ b u, s.heap.get? b = some u -> h'.get? b = some u) : Inv X pins σ H { s with heap := h', toks := t' } := I.un (Un.kept k) (I.hok.kept k)
theorem Inv.laid {a : Addr} {o : HO} {t' : Nat} (I : Inv X pins σ H s) (k : ∀ b u, s.heap.get? b = some u -> h'.get? b = some u) (hp : s.heap.objs.size <= a) (new : ObjOk X.prog X.w (upd H a o) h' a o) :
    Inv X pins σ (upd H a o) { s with heap := h', toks := t' } := I.un (Un.laid k hp (I.hok.fresh hp)) (I.hok.laid k hp new)
theorem Inv.write {x e : Addr} {o : HO} {t' : Nat} (I : Inv X pins σ H s) (mu : Mut (H x)) (he : e = x \/ H e = some (.own x)) (k : ∀ b u, b ≠ e -> s.heap.get? b = some u -> h'.get? b = some u) (heo : ∃ u, h'.get? e = some u)
    (new : ObjOk X.prog X.w (upd H x o) h' x o) : Inv X pins σ (upd H x o) { s with heap := h', toks := t' } := I.un (Un.write mu he k heo) (I.hok.write mu he k heo new)
theorem Inv.weak {σ' : List (Option V)} (I : Inv X pins σ H s) (hl : σ'.length = σ.length) (w : ∀ (i : Nat) v, σ'[i]? = some (some v) -> σ[i]? = some (some v)) : Inv X pins σ' H s :=
  ⟨I.ok, I.os, I.bare, I.base, let ⟨m, hn, hl'⟩ := I.loc; ⟨m, hn, fun i x v e1 e2 e3 => hl' i x v e1 (w i v e2) e3⟩, I.cell, I.free, I.freeC, I.pin, I.hok, hl.trans I.len⟩
theorem Inv.pins_of {pins' : List (Addr × Obj)} (I : Inv X pins σ H s) (h : ∀ p ∈ pins', s.heap.get? p.1 = some p.2 /\ H p.1 = none /\ p.1 ≠ X.env.locals /\ p.1 ∉ X.fs /\ ∀ v, p.2.data ≠ .cell v) : Inv X pins' σ H s :=
  ⟨I.ok, I.os, I.bare, I.base, I.loc, I.cell, I.free, I.freeC, fun p hp => (List.mem_append.mp hp).elim (fun z => I.pin p (List.mem_append_left _ z)) (h p), I.hok, I.len⟩
theorem nodup_ix {N : List Str} (hN : N.Nodup) {i j : Nat} {x : Str} (a : N[i]? = some x) (b : N[j]? = some x) : i = j := by
  obtain ⟨h1, e1⟩ := List.getElem?_eq_some_iff.mp a
  obtain ⟨h2, e2⟩ := List.getElem?_eq_some_iff.mp b
  exact (List.getElem_inj hN).mp (e1.trans e2.symm)
theorem store_ok2 {M : Model} {A : Around} {E : Value -> Shared -> Prop} {i : Nat} {x : Str} {v : V} {u : Value} {Q : Unit -> Shared -> Prop} (I : Inv X pins σ H s) (hN : X.N.Nodup) (hi : X.N[i]? = some x) (hx : Loc X.env.scope x) (r : RelV v u)
    (h : ∀ s', Inv X pins (σ.set i (some v)) H s' -> (∃ a, Heap.SameBut a s.heap s'.heap /\ (a = X.env.locals \/ X.env.cells.lookup x = some a)) -> Q () s') (hf : X.fn x = true \/ X.env.scope.names.lookup x = some .local := by first | exact .inl rfl | exact .inr rfl | assumption) : wpAny M A (storeName X.env x u) Q E s := by
  obtain ⟨m, hn, hl⟩ := id I.loc
  have hcls : (X.env.scope.kind == .class || (X.env.scope.kind == .module && X.env.locals != X.env.globals)) = false := by rw [I.ok.kind]; rfl
  have hiσ : i < σ.length := by rw [I.len]; exact (List.getElem?_eq_some_iff.mp hi).1
  have cne := I.cne
  have tracked : ∀ {a : Addr} {h' : Heap}, (∃ o, s.heap.get? a = some o /\ H a = none) -> Heap.SameBut a s.heap h' -> HOk X.prog X.w H h' := fun {a h'} ha hs b ob e => by
    obtain ⟨_, _, hfree⟩ := ha
    refine (I.hok b ob e).stay (fun c w' hc q => (hs.2 c ?_).trans q) (fun _ q => q) fun _ _ q => q
    rintro rfl
    rcases hc with rfl | hc
    · rw [hfree] at e; cases e
    · rw [hfree] at hc; cases hc
  rcases hx with hk | hk
  · refine wpAny_storeName_local hk hn (fun h' hn' hs => ?_) hcls
    obtain ⟨oL, _, _, hoL, _⟩ := id hn
    refine h _ ⟨I.ok, I.os, I.bare, ⟨fun b o e n hb hx => ?_, fun b o e n hb hx => ?_, I.base.free, fun b o e hx => ?_, I.base.tups, I.base.frzs, I.base.tbls⟩, ⟨_, hn', fun j y v' e1 e2 e3 => ?_⟩, fun y c e => ?_, I.free, I.freeC, fun p hp => ?_, tracked ⟨oL, hoL, I.free⟩ hs, by simpa using I.len⟩ ⟨_, hs, .inl rfl⟩
    · exact (hs.2 b (Nat.ne_of_lt (Nat.lt_of_lt_of_le (Heap.lt_size e) I.ok.above))).trans (I.base.keep b o e n hb hx)
    · obtain ⟨sl, e1⟩ := I.base.slot b o e n hb hx
      exact ⟨sl, (hs.2 b (Nat.ne_of_lt (Nat.lt_of_lt_of_le (Heap.lt_size e) I.ok.above))).trans e1⟩
    · obtain ⟨o', e1⟩ := I.base.there b o e hx
      exact ⟨o', (hs.2 b (Nat.ne_of_lt (Nat.lt_of_lt_of_le (Heap.lt_size e) I.ok.above))).trans e1⟩
    · by_cases hj : j = i
      · subst hj
        rw [hi] at e1; cases e1
        rw [List.getElem?_set_self hiσ] at e2
        cases e2
        exact ⟨u, r, .inl ⟨hk, by simp⟩⟩
      · rw [List.getElem?_set_ne (Ne.symm hj)] at e2
        obtain ⟨u', r', q⟩ := hl j y v' e1 e2 e3
        refine ⟨u', r', ?_⟩
        rcases q with ⟨k, e⟩ | ⟨k, c, e, z⟩
        · refine .inl ⟨k, ?_⟩
          have : y ≠ x := fun e => hj (nodup_ix hN e1 (e ▸ hi))
          simp [this, e]
        · exact .inr ⟨k, c, e, z.sameBut hs (cne y c e)⟩
    · obtain ⟨w', z⟩ := I.cell y c e
      exact ⟨w', z.sameBut hs (cne y c e)⟩
    · obtain ⟨e, n, ne, nf, d⟩ := I.pin p hp
      exact ⟨(hs.2 p.1 ne).trans e, n, ne, nf, d⟩
  · have hfn : X.fn x = true := by
      rcases hf with z | z
      · exact z
      · rw [z] at hk; cases hk
    obtain ⟨c, hc⟩ := I.ok.has x (.inl hk)
    obtain ⟨w', z⟩ := I.cell x c hc
    refine wpAny_storeName_cell I.ok.kind hk hc z (fun h' hc' hs => ?_)
    obtain ⟨oc, hoc, hocd⟩ := id z
    refine h { s with heap := h' } ⟨I.ok, I.os, I.bare, ⟨fun b o e n hb hx => ?_, fun b o e n hb hx => ?_, I.base.free, fun b o e hx => ?_, I.base.tups, I.base.frzs, I.base.tbls⟩, ⟨m, hn.sameBut hs (Ne.symm (cne x c hc)), fun j y v' e1 e2 e3 => ?_⟩, fun y c' e => ?_, I.free, I.freeC, fun p hp => ?_, tracked ⟨oc, hoc, I.freeC x c hc⟩ hs, by simpa using I.len⟩ ⟨c, hs, .inr hc⟩
    · exact (hs.2 b (Nat.ne_of_lt (Nat.lt_of_lt_of_le (Heap.lt_size e) (I.ok.cab x c hfn hc)))).trans (I.base.keep b o e n hb hx)
    · obtain ⟨sl, e1⟩ := I.base.slot b o e n hb hx
      exact ⟨sl, (hs.2 b (Nat.ne_of_lt (Nat.lt_of_lt_of_le (Heap.lt_size e) (I.ok.cab x c hfn hc)))).trans e1⟩
    · obtain ⟨o', e1⟩ := I.base.there b o e hx
      exact ⟨o', (hs.2 b (Nat.ne_of_lt (Nat.lt_of_lt_of_le (Heap.lt_size e) (I.ok.cab x c hfn hc)))).trans e1⟩
    · by_cases hj : j = i
      · subst hj
        rw [hi] at e1; cases e1
        rw [List.getElem?_set_self hiσ] at e2
        cases e2
        exact ⟨u, r, .inr ⟨.inl hk, c, hc, hc'⟩⟩
      · rw [List.getElem?_set_ne (Ne.symm hj)] at e2
        obtain ⟨u', r', q⟩ := hl j y v' e1 e2 e3
        refine ⟨u', r', ?_⟩
        rcases q with q | ⟨k, c', e, z'⟩
        · exact .inl q
        · refine .inr ⟨k, c', e, z'.sameBut hs ?_⟩
          rintro rfl
          exact hj (nodup_ix hN e1 (I.ok.inj _ _ _ e hc ▸ hi))
    · by_cases hcc : c' = c
      · subst hcc; exact ⟨_, hc'⟩
      · obtain ⟨w2, z2⟩ := I.cell y c' e
        exact ⟨w2, z2.sameBut hs hcc⟩
    · obtain ⟨e, n, ne, nf, d⟩ := I.pin p hp
      refine ⟨(hs.2 p.1 ?_).trans e, n, ne, nf, d⟩
      intro q
      rw [q, hoc] at e
      have q' : oc = p.2 := Option.some.inj e
      exact d w' (by rw [<- q']; exact hocd)
theorem store_ok {M : Model} {A : Around} {E : Value -> Shared -> Prop} {i : Nat} {x : Str} {v : V} {u : Value} {Q : Unit -> Shared -> Prop} (I : Inv X pins σ H s) (hN : X.N.Nodup) (hi : X.N[i]? = some x) (hx : Loc X.env.scope x) (r : RelV v u)
    (h : ∀ s', Inv X pins (σ.set i (some v)) H s' -> Q () s') (hf : X.fn x = true \/ X.env.scope.names.lookup x = some .local := by first | exact .inl rfl | exact .inr rfl | assumption) : wpAny M A (storeName X.env x u) Q E s :=
  store_ok2 I hN hi hx r (fun s' I' _ => h s' I') hf
theorem Inv.call' {s' : Shared} {ch : List Addr} (I : Inv X pins σ H s) (ho : s'.os = s.os) (u : Un (frs X.stack) ch H H' s.heap s'.heap) (hok : HOk X.prog X.w H' s'.heap) (hg : AllBare s'.gens)
    (hch : ∀ b ∈ ch, (b ∈ X.ex \/ X.s₀.heap.objs.size <= b) /\ b ≠ X.env.locals /\ (∀ x c, X.env.cells.lookup x = some c -> c ≠ b) /\ ∀ p ∈ X.pn ++ pins, p.1 ≠ b) : Inv X pins σ H' s' := by
  obtain ⟨h', g', d', t', o'⟩ := s'
  have e : o' = s.os := ho
  subst e
  exact I.call (g' := g') (t' := t') (d' := d') u hok hg hch
end
noncomputable abbrev XK := Value -> Option Addr -> Hp -> Prop
noncomputable abbrev St := List (Option V)
noncomputable abbrev VK := V -> Hp -> Prop
noncomputable abbrev TE := St -> Hp -> VK -> Prop
noncomputable abbrev TT := St -> Hp -> (Bool -> Hp -> Prop) -> Prop
noncomputable abbrev TA := St -> Hp -> (List V -> Hp -> Prop) -> Prop
structure Ends where
  nx : St -> Hp -> Prop
  rt : VK
  bk : St -> Hp -> Prop := fun _ _ => False
  ct : St -> Hp -> Prop := fun _ _ => False
noncomputable abbrev TS := Ends -> St -> Hp -> Prop
noncomputable def EP (X : Cx) (pins : List (Addr × Obj)) (σ : St) (Q : VK) (u : Value) (s' : Shared) : Prop := ∃ v H', Inv X pins σ H' s' /\ RelV v u /\ Q v H'
noncomputable def TP (X : Cx) (pins : List (Addr × Obj)) (σ : St) (Q : Bool -> Hp -> Prop) (b : Bool) (s' : Shared) : Prop := ∃ H', Inv X pins σ H' s' /\ Q b H'
noncomputable def AP (X : Cx) (pins : List (Addr × Obj)) (σ : St) (Q : List V -> Hp -> Prop) (us : List Value) (s' : Shared) : Prop := ∃ vs H', Inv X pins σ H' s' /\ Vals vs us /\ Q vs H'
noncomputable def SP (X : Cx) (pins : List (Addr × Obj)) (D : Ends) (f : Flow) (s' : Shared) : Prop :=
  match f with
  | .next => ∃ σ' H', Inv X pins σ' H' s' /\ D.nx σ' H'
  | .brk => ∃ σ' H', Inv X pins σ' H' s' /\ D.bk σ' H'
  | .cont => ∃ σ' H', Inv X pins σ' H' s' /\ D.ct σ' H'
  | .ret u => ∃ v σ' H', Inv X pins σ' H' s' /\ RelV v u /\ D.rt v H'
noncomputable def PE (X : Cx) (e : Expr) (t : TE) : Prop :=
  ∀ (pins : List (Addr × Obj)) (s : Shared) (σ : St) (H : Hp) (Q : VK), Inv X pins σ H s -> t σ H Q -> wpAny (model X.prog X.w) X.A (eval e X.env) (EP X pins σ Q) X.xe s
noncomputable def PT (X : Cx) (e : Expr) (t : TT) : Prop :=
  ∀ (pins : List (Addr × Obj)) (s : Shared) (σ : St) (H : Hp) (Q : Bool -> Hp -> Prop), Inv X pins σ H s -> t σ H Q -> wpAny (model X.prog X.w) X.A (isTrue e X.env (eval e X.env)) (TP X pins σ Q) X.xe s
noncomputable def PW (X : Cx) (e : Expr) (t : TT) : Prop :=
  ∀ (whole : Sem Value) (pins : List (Addr × Obj)) (s : Shared) (σ : St) (H : Hp) (Q : Bool -> Hp -> Prop), Inv X pins σ H s -> t σ H Q -> wpAny (model X.prog X.w) X.A (isTrue e X.env whole) (TP X pins σ Q) X.xe s
theorem PW.pt {X : Cx} {e : Expr} {t : TT} (h : PW X e t) : PT X e t := h _
noncomputable def PA (X : Cx) (es : List Expr) (t : TA) : Prop :=
  ∀ (pos : Pos) (pins : List (Addr × Obj)) (s : Shared) (σ : St) (H : Hp) (Q : List V -> Hp -> Prop), Inv X pins σ H s -> t σ H Q -> wpAny (model X.prog X.w) X.A (spliced (backTo pos (starEach es X.env))) (AP X pins σ Q) X.xe s
noncomputable def PS (X : Cx) (st : Stmt) (t : TS) : Prop :=
  ∀ (pins : List (Addr × Obj)) (s : Shared) (σ : St) (H : Hp) (D : Ends), Inv X pins σ H s -> t D σ H -> wpAny (model X.prog X.w) X.A (exec st X.env) (SP X pins D) X.xe s
noncomputable def PSs (X : Cx) (st : List Stmt) (t : TS) : Prop :=
  ∀ (pins : List (Addr × Obj)) (s : Shared) (σ : St) (H : Hp) (D : Ends), Inv X pins σ H s -> t D σ H -> wpAny (model X.prog X.w) X.A (execs st X.env) (SP X pins D) X.xe s
theorem thn {α : Type} {t : Sem α} {Q Q' : α -> Shared -> Prop} {M : Model} {A : Around} {E : Value -> Shared -> Prop} {s : Shared} (h : wpAny M A t Q E s) (hQ : ∀ a s, Q a s -> Q' a s) : wpAny M A t Q' E s := wpAny_mono h hQ fun _ _ x => x
end L2
namespace L2
open PySem PySem.Spec PyProof.Rows
section
variable {X : Cx}
noncomputable def tVar (i : Nat) : TE := fun σ H Q => ∃ v, σ[i]? = some (some v) /\ Q v H
noncomputable def tC (v : V) : TE := fun _ H Q => Q v H
theorem pe_var {i : Nat} {x : Str} {pos : Pos} (hN : X.N[i]? = some x) (hv : Vis X.env.scope x) (hd : (x == ("__debug__" : Str)) = false := by decide) (hcd : (x == ("__classdict__" : Str)) = false := by decide) : PE X (.Name x pos) (tVar i) := by
  intro pins s σ H Q I h
  obtain ⟨v, e, h⟩ := h
  obtain ⟨m, hn, hl⟩ := I.loc
  obtain ⟨u, r, l⟩ := hl i x v hN e hv
  have fin : EP X pins σ Q u s := ⟨v, H, I, r, h⟩
  rcases l with ⟨hk, hm⟩ | ⟨hk, c, hc, hcell⟩
  · exact wpAny_Name (wpAny_loadName_local I.ok.kind hk hn hm fin) hd
  · rcases hk with hk | hk
    · exact wpAny_Name (wpAny_loadName_cell I.ok.kind hk hc hcell fin) hd
    · exact wpAny_Name (wpAny_loadName_free I.ok.kind hk hc hcell fin hcd) hd
theorem pe_int {i j pos} : PE X (.Constant (.int i) j pos) (tC (.int i)) := fun _ _ _ H _ I h => wpAny_Constant_int ⟨.int i, H, I.tok _, ⟨_, rfl⟩, h⟩
theorem pe_bl {b j pos} : PE X (.Constant (.bool b) j pos) (tC (.bl b)) := fun _ _ _ H _ I h => Constant_bool ⟨.bl b, H, I, rfl, h⟩
theorem pe_non {j pos} : PE X (.Constant .none j pos) (tC .non) := fun _ _ _ H _ I h => Constant_none ⟨.non, H, I, rfl, h⟩
theorem pe_str {x j pos} : PE X (.Constant (.str x) j pos) (tC (.str x)) := fun _ _ _ H _ I h => Calls.Constant_str ⟨.str x, H, I.tok _, ⟨_, rfl⟩, h⟩
noncomputable def Gl (X : Cx) (x : Str) : Prop := X.env.kindOf x = some .globalImplicit
theorem ld_glob {E : Value -> Shared -> Prop} {pins : List (Addr × Obj)} {s : Shared} {σ : St} {H : Hp} {x : Str} {u : Value} {pos : Pos} {Q : Value -> Shared -> Prop} (I : Inv X pins σ H s) (hg : Gl X x) (hm : X.mg x = some u) (h : Q u s)
    (hd : (x == ("__debug__" : Str)) = false := by decide) : wpAny (model X.prog X.w) X.A (eval (.Name x pos) X.env) Q E s :=
  Calls.Name_function_global I.ok.kind hg (Calls.loadGlobal_global (by rw [I.ok.glob]; exact I.mod.glob.keeps I.bk) hm h) hd
theorem ld_blt {E : Value -> Shared -> Prop} {pins : List (Addr × Obj)} {s : Shared} {σ : St} {H : Hp} {x : Str} {u : Value} {pos : Pos} {Q : Value -> Shared -> Prop} (I : Inv X pins σ H s) (hg : Gl X x) (hm : X.mg x = none) (hv : bootBuiltins x = some u) (h : Q u s)
    (hn : x ≠ "__name__" := by decide) (hd : (x == ("__debug__" : Str)) = false := by decide) : wpAny (model X.prog X.w) X.A (eval (.Name x pos) X.env) Q E s := by
  obtain ⟨mb, h1, h2⟩ := I.mod.blt
  exact Calls.Name_function_global I.ok.kind hg (Calls.loadGlobal_builtin (by rw [I.ok.glob]; exact I.mod.glob.keeps I.bk) hm (by rw [I.ok.blt]; exact h1.keeps I.bk) ((h2 x hn).trans hv) h) hd
theorem pe_glob {x : Str} {v : V} {u : Value} {pos : Pos} (hg : Gl X x) (hm : X.mg x = some u) (r : RelV v u) (hd : (x == ("__debug__" : Str)) = false := by decide) : PE X (.Name x pos) (tC v) :=
  fun _ _ _ H _ I h => ld_glob I hg hm ⟨v, H, I, r, h⟩ hd
theorem pe_bltn {x : Str} {v : V} {u : Value} {pos : Pos} (hg : Gl X x) (hm : X.mg x = none) (hv : bootBuiltins x = some u) (r : RelV v u) (hn : x ≠ "__name__" := by decide) (hd : (x == ("__debug__" : Str)) = false := by decide) : PE X (.Name x pos) (tC v) :=
  fun _ _ _ H _ I h => ld_blt I hg hm hv ⟨v, H, I, r, h⟩ hn hd
variable {a b : Expr} {ta tb : TE} {pos : Pos}
noncomputable def tB (t : TE) : TT := fun σ H Q => t σ H fun x H1 => ∃ c, x = .bl c /\ Q c H1
theorem pt_val {e : Expr} {t : TE} (h : PE X e t) (he : ∀ whole, isTrue e X.env whole = (do let v <- whole; standAt e.pos; holding [v] (truthy v)) := by intro _; rfl) : PT X e (tB t) := by
  intro pins s σ H Q I hw
  refine isTrue_plain (thn (h pins s σ H _ I hw) fun v s1 ⟨x, H1, I1, r1, q1⟩ => ?_) (he _)
  obtain ⟨d, rfl, q⟩ := q1
  cases r1
  exact wpAny_truthy_bool ⟨H1, I1, q⟩
variable {tA tB' : TT} {rest : List Expr}
noncomputable def tAnd (t u : TT) : TT := fun σ H Q => t σ H fun c H1 => if c = true then u σ H1 Q else Q false H1
noncomputable def tOr (t u : TT) : TT := fun σ H Q => t σ H fun c H1 => if c = true then Q true H1 else u σ H1 Q
noncomputable def tNot (t : TT) : TT := fun σ H Q => t σ H fun c H1 => Q (!c) H1
theorem pw_and1 (ha : PT X a tA) : PW X (.BoolOp .And [a] pos) tA := by
  intro wh pins s σ H Q I h
  refine isTrue_and (thn (ha pins s σ H Q I h) fun c s1 e => ?_)
  cases c with
  | true => exact isTrue_and_nil e
  | false => exact e
theorem pw_or1 (ha : PT X a tA) : PW X (.BoolOp .Or [a] pos) tA := by
  intro wh pins s σ H Q I h
  refine isTrue_or (thn (ha pins s σ H Q I h) fun c s1 e => ?_)
  cases c with
  | false => exact isTrue_or_nil e
  | true => exact e
theorem pw_and (ha : PT X a tA) (hb : PW X (.BoolOp .And (b :: rest) pos) tB') : PW X (.BoolOp .And (a :: b :: rest) pos) (tAnd tA tB') := by
  intro wh pins s σ H Q I h
  refine isTrue_and (thn (ha pins s σ H _ I h) fun c s1 ⟨H1, I1, q1⟩ => ?_)
  cases c with
  | true => exact hb wh pins s1 σ H1 Q I1 q1
  | false => exact ⟨H1, I1, q1⟩
theorem pw_or (ha : PT X a tA) (hb : PW X (.BoolOp .Or (b :: rest) pos) tB') : PW X (.BoolOp .Or (a :: b :: rest) pos) (tOr tA tB') := by
  intro wh pins s σ H Q I h
  refine isTrue_or (thn (ha pins s σ H _ I h) fun c s1 ⟨H1, I1, q1⟩ => ?_)
  cases c with
  | true => exact ⟨H1, I1, q1⟩
  | false => exact hb wh pins s1 σ H1 Q I1 q1
theorem pt_not (ha : PT X a tA) : PT X (.UnaryOp .Not a pos) (tNot tA) := by
  intro pins s σ H Q I h
  exact isTrue_not (ha pins s σ H (fun c H1 => Q (!c) H1) I h)
noncomputable def tAndV (ta tb : TE) : TE := fun σ H Q => ta σ H fun x H1 => ∃ c, x = .bl c /\ if c = true then tb σ H1 Q else Q (.bl false) H1
noncomputable def tNotV (ta : TE) : TE := fun σ H Q => ta σ H fun x H1 => ∃ c, x = .bl c /\ Q (.bl (!c)) H1
theorem pe_one {op} {t : TE} (h : PE X a t) : PE X (.BoolOp op [a] pos) t := fun pins s σ H Q I hw => BoolOp_one (h pins s σ H Q I hw)
theorem pe_and (ha : PE X a ta) (hb : PE X (.BoolOp .And (b :: rest) pos) tb) : PE X (.BoolOp .And (a :: b :: rest) pos) (tAndV ta tb) := by
  intro pins s σ H Q I h
  refine BoolOp_and (thn (ha pins s σ H _ I h) fun v s1 ⟨x, H1, I1, r1, q1⟩ => ?_)
  obtain ⟨c, rfl, q1⟩ := q1
  cases r1
  refine wpAny_truthy_bool ?_
  cases c with
  | true => exact hb pins s1 σ H1 Q I1 q1
  | false => exact ⟨.bl false, H1, I1, rfl, q1⟩
theorem pe_not (ha : PE X a ta) : PE X (.UnaryOp .Not a pos) (tNotV ta) := by
  intro pins s σ H Q I h
  refine UnaryOp_ (thn (ha pins s σ H _ I h) fun v s1 ⟨x, H1, I1, r1, q1⟩ => ?_)
  obtain ⟨c, rfl, q1⟩ := q1
  cases r1
  exact not_of (wpAny_truthy_bool ⟨.bl (!c), H1, I1, rfl, q1⟩)
noncomputable def tIf (t : TT) (ta tb : TE) : TE := fun σ H Q => t σ H fun c H1 => if c = true then ta σ H1 Q else tb σ H1 Q
theorem pe_ifExp {c : Expr} (hc : PT X c tA) (ha : PE X a ta) (hb : PE X b tb) : PE X (.IfExp c a b pos) (tIf tA ta tb) := by
  intro pins s σ H Q I h
  refine wpAny_IfExp (thn (hc pins s σ H _ I h) fun d s1 ⟨H1, I1, q1⟩ => ?_)
  cases d with
  | true => exact ha pins s1 σ H1 Q I1 q1
  | false => exact hb pins s1 σ H1 Q I1 q1
end
end L2
namespace L2
open PySem PySem.Spec PyProof.Rows
noncomputable def SqL (K : PySem.W.Frag) (H : Hp) (a : Addr) (xs : List V) : Prop :=
  Rd H a (.lst xs) \/
    ∃ (o : Obj) (its : Array Value) (n : Nat), K.lookup a = some o /\ o.cls = .type "list" /\ o.dict = none /\ o.data = .seq its n /\ its.size <= sizeLine /\ Vals xs its.toList
noncomputable def SqT (K : PySem.W.Frag) (H : Hp) (a : Addr) (xs : List V) : Prop :=
  Rd H a (.tup xs) \/
    ∃ (o : Obj) (its : Array Value) (n : Nat), K.lookup a = some o /\ o.cls = .type "tuple" /\ o.data = .seq its n /\ its.size <= sizeLine /\ Vals xs its.toList
noncomputable def absV : Value -> Option V
  | .none => some .non
  | .bool b => some (.bl b)
  | .int i _ => some (.int i)
  | .str x _ => some (.str x)
  | .bytes b _ => some (.byt b)
  | .float b _ => some (.flt b)
  | .ref a => some (.ref a)
  | .type n => some (.ty n)
  | _ => none
theorem RelV.abs {x : V} {u : Value} (r : RelV x u) : absV u = some x := by
  cases x with
  | non => cases r; rfl
  | bl _ => cases r; rfl
  | int _ => obtain ⟨t, rfl⟩ := r; rfl
  | str _ => obtain ⟨t, rfl⟩ := r; rfl
  | byt _ => obtain ⟨t, rfl⟩ := r; rfl
  | flt _ => obtain ⟨t, rfl⟩ := r; rfl
  | ref _ => cases r; rfl
  | ty _ => cases r; rfl
theorem RelV.inj {x y : V} {u : Value} (r : RelV x u) (q : RelV y u) : x = y := Option.some.inj (r.abs.symm.trans q.abs)
theorem Vals.inj : ∀ {xs ys : List V} {us : List Value}, Vals xs us -> Vals ys us -> xs = ys
  | _, _, _, .nil, .nil => rfl
  | _, _, _, .cons r t, .cons r' t' => by rw [r.inj r', Vals.inj t t']
section
variable {X : Cx} {pins : List (Addr × Obj)} {σ : St} {H : Hp} {s : Shared} {a : Addr} {xs ys : List V}
theorem SqL.of {K : PySem.W.Frag} (h : H a = some (.lst xs)) : SqL K H a xs := .inl (.inl h)
theorem SqT.of {K : PySem.W.Frag} (h : H a = some (.tup xs)) : SqT K H a xs := .inl (.inl h)
theorem Inv.list (I : Inv X pins σ H s) (h : SqL X.K H a xs) : ∃ its : List Value, Vals xs its /\ PlainL s.heap a its.toArray /\ xs.length <= sizeLine := by
  rcases h with h | ⟨o, its, n, hk, hc, hd, hs, hz, r⟩
  · obtain ⟨z, its, n, r, e⟩ := h.ok I.hok
    exact ⟨its, r, ⟨_, n, e, rfl, rfl, rfl⟩, z⟩
  · refine ⟨its.toList, r, ⟨o, n, I.kIn a o hk, hc, hd, by simpa using hs⟩, ?_⟩
    have e := r.length
    simp only [Array.length_toList] at e
    lia
theorem Inv.tuple (I : Inv X pins σ H s) (h : SqT X.K H a xs) : ∃ its : List Value, Vals xs its /\ IsTup s.heap a its.toArray /\ xs.length <= sizeLine := by
  rcases h with h | ⟨o, its, n, hk, hc, hs, hz, r⟩
  · obtain ⟨z, its, r, p⟩ := h.ok I.hok
    exact ⟨its, r, p, z.1⟩
  · refine ⟨its.toList, r, ⟨o, I.kIn a o hk, hc, n, by simpa using hs⟩, ?_⟩
    have e := r.length
    simp only [Array.length_toList] at e
    lia
theorem Inv.list_inj (I : Inv X pins σ H s) (h : SqL X.K H a xs) (h' : SqL X.K H a ys) : xs = ys := by
  obtain ⟨its, r, ⟨o, n, e, _, _, d⟩, _⟩ := I.list h
  obtain ⟨its', r', ⟨o', n', e', _, _, d'⟩, _⟩ := I.list h'
  rw [e] at e'; cases e'
  rw [d] at d'
  injection d' with d1 _
  have : its = its' := by simpa using congrArg Array.toList d1
  subst this
  exact r.inj r'
theorem Inv.tuple_inj (I : Inv X pins σ H s) (h : SqT X.K H a xs) (h' : SqT X.K H a ys) : xs = ys := by
  obtain ⟨its, r, ⟨o, e, _, n, d⟩, _⟩ := I.tuple h
  obtain ⟨its', r', ⟨o', e', _, n', d'⟩, _⟩ := I.tuple h'
  rw [e] at e'; cases e'
  rw [d] at d'
  injection d' with d1 _
  have : its = its' := by simpa using congrArg Array.toList d1
  subst this
  exact r.inj r'
end
noncomputable abbrev Cx.wish (X : Cx) (E : Value -> Shared -> Prop) : Cx := { X with xe := E }
noncomputable abbrev Cx.nox (X : Cx) : Cx := X.wish fun _ _ => False
theorem Cx.Ok.wish {X : Cx} (ok : X.Ok) (E : Value -> Shared -> Prop) : (X.wish E).Ok :=
  ⟨ok.mod, ok.kind, ok.glob, ok.blt, ok.above, ok.inj, ok.has, ok.cab, ok.hd, ok.frames, ok.stk, ok.exf, ok.bs, ok.bsz, ok.noex, ok.exfs, ok.funs, ok.frf⟩
theorem Cx.Ok.unwish {X : Cx} {E : Value -> Shared -> Prop} (ok : (X.wish E).Ok) : X.Ok :=
  ⟨ok.mod, ok.kind, ok.glob, ok.blt, ok.above, ok.inj, ok.has, ok.cab, ok.hd, ok.frames, ok.stk, ok.exf, ok.bs, ok.bsz, ok.noex, ok.exfs, ok.funs, ok.frf⟩
section
variable {X : Cx} {pins : List (Addr × Obj)} {σ : St} {H : Hp} {s : Shared} {E : Value -> Shared -> Prop}
theorem Inv.wish (I : Inv X pins σ H s) (E : Value -> Shared -> Prop) : Inv (X.wish E) pins σ H s := ⟨I.ok.wish E, I.os, I.bare, I.base, I.loc, I.cell, I.free, I.freeC, I.pin, I.hok, I.len⟩
theorem Inv.unwish (I : Inv (X.wish E) pins σ H s) : Inv X pins σ H s := ⟨I.ok.unwish, I.os, I.bare, I.base, I.loc, I.cell, I.free, I.freeC, I.pin, I.hok, I.len⟩
theorem SP.unwish {D : Ends} {f : Flow} {s' : Shared} (h : SP (X.wish E) pins D f s') : SP X pins D f s' := by
  cases f with
  | next => obtain ⟨σ', H', I, q⟩ := h; exact ⟨σ', H', I.unwish, q⟩
  | brk => obtain ⟨σ', H', I, q⟩ := h; exact ⟨σ', H', I.unwish, q⟩
  | cont => obtain ⟨σ', H', I, q⟩ := h; exact ⟨σ', H', I.unwish, q⟩
  | ret u => obtain ⟨v, σ', H', I, r, q⟩ := h; exact ⟨v, σ', H', I.unwish, r, q⟩
theorem PSs.nox {st : List Stmt} {t : TS} (h : PSs X.nox st t) : PSs X st t := fun pins s σ H D I hw =>
  wpAny_mono (h pins s σ H D (I.wish _) hw) (fun _ _ q => q.unwish) fun _ _ z => False.elim z
end
section
variable {X : Cx} {st : Stmt} {rest : List Stmt} {t u : TS} {e : Expr} {te : TE} {pos : Pos}
noncomputable def tNext : TS := fun D σ H => D.nx σ H
noncomputable def tSeq (t u : TS) : TS := fun D σ H => t { D with nx := u D } σ H
theorem pss_nil : PSs X [] tNext := fun _ _ σ H _ I h => wpAny_execs_nil ⟨σ, H, I, h⟩
theorem pss_cons (h1 : PS X st t) (h2 : PSs X rest u) : PSs X (st :: rest) (tSeq t u) := by
  intro pins s σ H D I h
  refine wpAny_execs_cons (thn (h1 pins s σ H { D with nx := u D } I h) fun f s1 q => ?_)
  cases f with
  | next =>
    obtain ⟨σ', H', I', q⟩ := q
    exact h2 pins s1 σ' H' D I' q
  | ret v => exact q
  | brk => exact q
  | cont => exact q
theorem pss_one (h1 : PS X st t) : PSs X [st] t := by
  intro pins s σ H D I h
  refine wpAny_execs_cons (thn (h1 pins s σ H D I h) fun f s1 q => ?_)
  cases f with
  | next => exact wpAny_execs_nil q
  | ret v => exact q
  | brk => exact q
  | cont => exact q
theorem Inv.quiet {pins : List (Addr × Obj)} {σ : St} {H : Hp} {s : Shared} (I : Inv X pins σ H s) : interactive X.env = false := by simp [interactive, I.ok.kind]
noncomputable def tDrop (te : TE) : TS := fun D σ H => te σ H fun _ H1 => D.nx σ H1
theorem ps_expr (he : PE X e te) (hs : swapsWith e none pos.line X.env = pure false := by rfl) : PS X (.Expr e pos) (tDrop te) := by
  intro pins s σ H D I h
  exact wpAny_Expr_any (thn (he pins s σ H _ I h) fun v s1 ⟨x, H1, I1, r1, q1⟩ => ⟨σ, H1, I1, q1⟩) I.quiet hs
noncomputable def tRet (te : TE) : TS := fun D σ H => te σ H D.rt
theorem ps_ret (he : PE X e te) : PS X (.Return (some e) pos) (tRet te) := by
  intro pins s σ H D I h
  exact wpAny_Return_some (thn (he pins s σ H _ I h) fun v s1 ⟨x, H1, I1, r1, q1⟩ => ⟨x, σ, H1, I1, r1, q1⟩)
noncomputable def tIfS (c : TT) (t u : TS) : TS := fun D σ H => c σ H fun b H1 => if b = true then t D σ H1 else u D σ H1
theorem ps_if {c : Expr} {a b : List Stmt} {tc : TT} (hc : PT X c tc) (ha : PSs X a t) (hb : PSs X b u) : PS X (.If c a b pos) (tIfS tc t u) := by
  intro pins s σ H D I h
  refine wpAny_If (thn (hc pins s σ H _ I h) fun d s1 ⟨H1, I1, q1⟩ => ?_)
  cases d with
  | true => exact ha pins s1 σ H1 D I1 q1
  | false => exact hb pins s1 σ H1 D I1 q1
end
noncomputable abbrev TG := V -> St -> Hp -> (St -> Hp -> Prop) -> Prop
noncomputable abbrev TGs := List V -> St -> Hp -> (St -> Hp -> Prop) -> Prop
noncomputable def PG (X : Cx) (target : Expr) (t : TG) : Prop :=
  ∀ (pins : List (Addr × Obj)) (s : Shared) (σ : St) (H : Hp) (v : V) (u : Value) (Q : St -> Hp -> Prop), Inv X pins σ H s -> RelV v u -> t v σ H Q ->
    wpAny (model X.prog X.w) X.A (assign target X.env u) (fun _ s' => ∃ σ' H', Inv X pins σ' H' s' /\ Q σ' H') X.xe s
noncomputable def PGs (X : Cx) (ts : List Expr) (t : TGs) : Prop :=
  ∀ (pins : List (Addr × Obj)) (s : Shared) (σ : St) (H : Hp) (vs : List V) (us : List Value) (Q : St -> Hp -> Prop), Inv X pins σ H s -> Vals vs us -> t vs σ H Q ->
    wpAny (model X.prog X.w) X.A (assignInOrder ((assignEach ts X.env).map (·.2)) us) (fun _ s' => ∃ σ' H', Inv X pins σ' H' s' /\ Q σ' H') X.xe s
noncomputable abbrev TSet := V -> V -> V -> Hp -> (Hp -> Prop) -> Prop
noncomputable def PSet (X : Cx) (t : TSet) : Prop :=
  ∀ (pins : List (Addr × Obj)) (s : Shared) (σ : St) (H : Hp) (o i v : V) (ov iv u : Value) (Q : Hp -> Prop), Inv X pins σ H s -> RelV o ov -> RelV i iv -> RelV v u -> t o i v H Q ->
    wpAny (model X.prog X.w) X.A (setItem ov iv u) (fun _ s' => ∃ H', Inv X pins σ H' s' /\ Q H') X.xe s
section
variable {X : Cx} {pos : Pos}
noncomputable def gName (i : Nat) : TG := fun v σ H Q => Q (σ.set i (some v)) H
theorem pg_name {i : Nat} {x : Str} (hN : X.N.Nodup) (hi : X.N[i]? = some x) (hx : Loc X.env.scope x) (hf : X.fn x = true \/ X.env.scope.names.lookup x = some .local := by first | exact .inl rfl | exact .inr rfl | assumption) : PG X (.Name x pos) (gName i) := by
  intro pins s σ H v u Q I r h
  exact wpAny_assign_Name (store_ok I hN hi hx r (fun s' I' => ⟨_, H, I', h⟩) hf)
noncomputable def gNil : TGs := fun vs σ H Q => vs = [] /\ Q σ H
noncomputable def gCons (t : TG) (u : TGs) : TGs := fun vs σ H Q => ∃ v r, vs = v :: r /\ t v σ H fun σ' H' => u r σ' H' Q
theorem pgs_nil : PGs X [] gNil := by
  intro pins s σ H vs us Q I r h
  obtain ⟨e, h⟩ := h
  subst e
  cases r
  exact assignInOrder_nil ⟨σ, H, I, h⟩
theorem pgs_cons {e : Expr} {es : List Expr} {t : TG} {u : TGs} (h1 : PG X e t) (h2 : PGs X es u)
    (hs : (assignEach (e :: es) X.env).map (·.2) = assign e X.env :: (assignEach es X.env).map (·.2) := by rfl) : PGs X (e :: es) (gCons t u) := by
  intro pins s σ H vs us Q I r h
  obtain ⟨v, vr, e1, h⟩ := h
  subst e1
  cases r with
  | cons r rr =>
    rw [hs]
    refine assignInOrder_cons (thn (h1 pins s σ H _ _ _ I r h) fun _ s1 ⟨σ1, H1, I1, q1⟩ => ?_)
    exact h2 pins s1 σ1 H1 _ _ Q I1 rr q1
noncomputable def gTup (K : PySem.W.Frag) (n : Nat) (t : TGs) : TG := fun v σ H Q => ∃ a xs, v = .ref a /\ SqT K H a xs /\ xs.length = n /\ t xs σ H Q
theorem pg_tup {es : List Expr} {k : Nat} {t : TGs} {n : Nat} (hc : X.calm = true) (h : PGs X es t)
    (hn : (assignEach es X.env).length = n := by rfl) (hst : (assignEach es X.env).findIdx? (·.1) = none := by rfl) : PG X (.Tuple es k pos) (gTup X.K n t) := by
  intro pins s σ H v u Q I r hw
  obtain ⟨a, xs, e1, hq, hl, hw⟩ := hw
  subst e1
  cases r
  obtain ⟨its, rv, ht, hz⟩ := I.tuple hq
  refine assign_Tuple_tuple (I.ok.hd hc) ht (by simp [hn, <- hl, rv.length]) hst fun h' hx => ?_
  have I1 : Inv X pins σ H { s with heap := h' } := I.kept (t' := s.toks) fun b o e => hx b o (Nat.ne_of_lt (Heap.lt_size e)) e
  exact h pins _ σ H xs _ Q I1 (by simpa using rv) hw
noncomputable def gSub (to ti : TE) (t : TSet) : TG := fun v σ H Q => to σ H fun o H1 => ti σ H1 fun i H2 => t o i v H2 fun H3 => Q σ H3
theorem pg_sub {o i : Expr} {to ti : TE} {t : TSet} (ho : PE X o to) (hi : PE X i ti) (hs : PSet X t)
    (ha : ∀ v, assign (.Subscript o i pos) X.env v = (do
      let ov <- holding [v] (eval o X.env)
      let iv <- holding [v, ov] (eval i X.env)
      standAt pos
      holding [v, ov, iv] (setItem ov iv v)
      release [v, ov, iv] []) := by intro _; rfl) : PG X (.Subscript o i pos) (gSub to ti t) := by
  intro pins s σ H v u Q I r h
  rw [ha]
  refine wpAny_bind (wpAny_holding (thn (ho pins s σ H _ I h) fun ov s1 ⟨x, H1, I1, r1, q1⟩ => ?_))
  refine wpAny_bind (wpAny_holding (thn (hi pins s1 σ H1 _ I1 q1) fun iv s2 ⟨y, H2, I2, r2, q2⟩ => ?_))
  refine wpAny_bind (wpAny_standAt (wpAny_bind (wpAny_holding (thn (hs pins s2 σ H2 x y v ov iv u _ I2 r1 r2 r q2) fun _ s3 ⟨H3, I3, q3⟩ => ?_))))
  exact wpAny_release ⟨σ, H3, I3, q3⟩
noncomputable def tAsg (te : TE) (g : TG) : TS := fun D σ H => te σ H fun x H1 => g x σ H1 D.nx
theorem ps_asg {tg e : Expr} {te : TE} {g : TG} (he : PE X e te) (hg : PG X tg g) (hs : swapsWithSole [tg] e pos.line X.env = pure false := by rfl) (hw : swappedStores [tg] e X.env = pure none := by rfl)
    (h1 : (assignEach [tg] X.env).map (·.2) = [assign tg X.env] := by rfl) : PS X (.Assign [tg] e pos) (tAsg te g) := by
  intro pins s σ H D I h
  refine wpAny_Assign_stores (thn (he pins s σ H _ I h) fun v s1 ⟨x, H1, I1, r1, q1⟩ => ?_) hs hw
  rw [h1]
  exact thn (hg pins s1 σ H1 x v _ I1 r1 q1) fun _ s2 q => q
theorem ps_set {i : Nat} {x : Str} {e : Expr} {te : TE} {pos' : Pos} (hN : X.N.Nodup) (hi : X.N[i]? = some x) (hx : Loc X.env.scope x) (he : PE X e te) (hs : swapsWith e (some (.Name x pos')) pos.line X.env = pure false := by rfl) (hf : X.fn x = true \/ X.env.scope.names.lookup x = some .local := by first | exact .inl rfl | exact .inr rfl | assumption) :
    PS X (.Assign [.Name x pos'] e pos) (tAsg te (gName i)) := by
  intro pins s σ H D I h
  refine wpAny_Assign_Name (thn (he pins s σ H _ I h) fun v s1 ⟨y, H1, I1, r1, q1⟩ => ?_) hs
  exact store_ok I1 hN hi hx r1 (fun s2 I2 => ⟨_, H1, I2, q1⟩) hf
end
section
variable {X : Cx} {pos : Pos}
noncomputable def tWhile (c : TT) (tb : TS) : TS := fun D σ H => ∃ W : Nat -> St -> Hp -> Prop, (∃ m, W m σ H) /\ ∀ m σ H, W m σ H ->
  c σ H fun b H1 => if b = true then ∃ N : St -> Hp -> Prop, (∀ σ' H', N σ' H' -> ∃ m', m' < m /\ W m' σ' H') /\ tb { D with nx := N, ct := N, bk := D.nx } σ H1 else D.nx σ H1
theorem ps_while {c : Expr} {body : List Stmt} {tc : TT} {tb : TS} (hp : PassesOwn (model X.prog X.w) X.A X.env X.xe) (hc : PT X c tc) (hb : PSs X body tb) : PS X (.While c body [] pos) (tWhile tc tb) := by
  intro pins s σ H D I h
  obtain ⟨W, ⟨m0, w0⟩, turn⟩ := h
  refine wpAny_While (codeAny_whileLoop (fun n s' => ∃ σ' H', Inv X pins σ' H' s' /\ W n σ' H') ?_ m0 ⟨σ, H, I, w0⟩)
  rintro n s1 ⟨σ1, H1, I1, w1⟩
  refine wpAny_passesOwn hp (thn (hc pins s1 σ1 H1 _ I1 (turn n σ1 H1 w1)) fun b s2 ⟨H2, I2, q2⟩ => ?_)
  cases b with
  | true =>
    obtain ⟨N, hN, q2⟩ := q2
    rw [if_pos rfl]
    refine wpAny_passesOwn hp (thn (hb pins s2 σ1 H2 _ I2 q2) fun f s3 q3 => ?_)
    cases f with
    | next =>
      obtain ⟨σ3, H3, I3, n3⟩ := q3
      obtain ⟨m', hm, w3⟩ := hN σ3 H3 n3
      exact ⟨m', hm, σ3, H3, I3, w3⟩
    | cont =>
      obtain ⟨σ3, H3, I3, n3⟩ := q3
      obtain ⟨m', hm, w3⟩ := hN σ3 H3 n3
      exact ⟨m', hm, σ3, H3, I3, w3⟩
    | brk => exact q3
    | ret v => exact q3
  | false =>
    rw [if_neg Bool.false_ne_true]
    exact wpAny_execs_nil ⟨σ1, H2, I2, q2⟩
end
structure It where
  go : Nat -> Hp -> Prop
  yld : Nat -> Hp -> V -> Hp -> Prop
  stop : Nat -> Hp -> Prop
noncomputable def FpOk (X : Cx) (pins : List (Addr × Obj)) (H : Hp) (b : Addr) : Prop :=
  H b = none /\ b ≠ X.env.locals /\ b ∉ X.fs /\ (b ∈ X.ex \/ X.s₀.heap.objs.size <= b) /\ (∀ x c, X.env.cells.lookup x = some c -> c ≠ b) /\ ∀ p ∈ X.pn ++ pins, p.1 ≠ b
theorem Inv.fpOk {X : Cx} {pins : List (Addr × Obj)} {σ : St} {H H' : Hp} {s : Shared} {b : Addr} (I : Inv X pins σ H s) (hb : s.heap.objs.size <= b) (hn : H' b = none) : FpOk X pins H' b := by
  refine ⟨hn, Nat.ne_of_gt (Nat.lt_of_lt_of_le I.lt hb), I.nofs hb, .inr (Nat.le_trans I.sz hb), fun x c e z => ?_, fun p hp z => ?_⟩
  · obtain ⟨v, q⟩ := I.cell x c e
    exact absurd (Nat.lt_of_lt_of_le q.lt (by rw [z]; exact hb)) (Nat.lt_irrefl _)
  · exact absurd (Nat.lt_of_lt_of_le (Heap.lt_size (I.pin p hp).1) (by rw [z]; exact hb)) (Nat.lt_irrefl _)
structure Turn (P : Program) (w : World) (K : PySem.W.Frag) (tg : Expr) (J : It) (fp : List Addr) (it : Addr) (tn : Nat -> Heap -> Prop) : Prop where
  mem : it ∈ fp
  obj : ∀ i h, tn i h -> ∀ b ∈ fp, ∃ o, h.get? b = some o /\ ∀ v, o.data ≠ .cell v
  keep : ∀ i h h', tn i h -> (∀ b ∈ fp, ∀ o, h.get? b = some o -> h'.get? b = some o) -> tn i h'
  item : ∀ (X : Cx), X.prog = P -> X.w = w -> X.K = K -> X.calm = true -> ∀ (i : Nat) (pins : List (Addr × Obj)) (s : Shared) (σ : St) (H : Hp) (E : Value -> Shared -> Prop), Inv X pins σ H s -> (∀ b ∈ fp, FpOk X pins H b) -> tn i s.heap -> J.go i H ->
    wpAny (model P w) X.A (pyNext (.ref it)) (fun r s1 => ∃ u, r = some u /\
      wpAny (model P w) X.A (letOwnedTupleGo tg (.ref it) u) (fun _ s2 => ∃ x H', Inv X pins σ H' s2 /\ RelV x u /\ J.yld i H x H' /\ tn (i + 1) s2.heap /\ ∀ b ∈ fp, H' b = none) E s1) E s
  done : ∀ (X : Cx), X.prog = P -> X.w = w -> X.K = K -> X.calm = true -> ∀ (i : Nat) (pins : List (Addr × Obj)) (s : Shared) (σ : St) (H : Hp) (E : Value -> Shared -> Prop), Inv X pins σ H s -> (∀ b ∈ fp, FpOk X pins H b) -> tn i s.heap -> J.stop i H ->
    wpAny (model P w) X.A (pyNext (.ref it)) (fun r s1 => r = none /\ Inv X pins σ H s1) E s
  self : ∀ (A : Around) (i : Nat) (s : Shared) (Q : Value -> Shared -> Prop) (E : Value -> Shared -> Prop), tn i s.heap -> Q (.ref it) s -> wpAny (model P w) A (pyIter (.ref it)) Q E s
noncomputable abbrev TI := St -> Hp -> (It -> Hp -> Prop) -> Prop
noncomputable def PIE (X : Cx) (pins : List (Addr × Obj)) (σ : St) (tg : Expr) (R : It -> Hp -> Prop) (itv : Value) (s2 : Shared) : Prop :=
  ∃ (it : Addr) (fp : List Addr) (tn : Nat -> Heap -> Prop) (J : It) (H' : Hp), itv = .ref it /\ Inv X pins σ H' s2 /\ Turn X.prog X.w X.K tg J fp it tn /\ tn 0 s2.heap /\ (∀ b ∈ fp, FpOk X pins H' b) /\ R J H'
noncomputable def PI (X : Cx) (tg iter : Expr) (wi : TI) : Prop :=
  ∀ (pins : List (Addr × Obj)) (s : Shared) (σ : St) (H : Hp) (R : It -> Hp -> Prop), Inv X pins σ H s -> wi σ H R ->
    wpAny (model X.prog X.w) X.A (eval iter X.env) (fun v s1 => wpAny (model X.prog X.w) X.A (pyIter v) (PIE X pins σ tg R) X.xe s1) X.xe s
theorem go_of {M : Model} {A : Around} {E : Value -> Shared -> Prop} {s : Shared} {tg : Expr} {it : Addr} {u : Value} {o : Obj} {n : String} {vs : Array Value} {Q : Unit -> Shared -> Prop} (ho : s.heap.get? it = some o) (hc : o.cls = .type n) (hd : o.data = .fields vs)
    (hn : ["enumerate", "zip", "dict_itemiterator", "dict_reverseitemiterator", "odict_iterator", "itertools.zip_longest", "itertools.pairwise"].contains n = false) (hQ : Q () s) : wpAny M A (letOwnedTupleGo tg (.ref it) u) Q E s := by
  unfold letOwnedTupleGo
  cases tg <;> first
    | exact wpAny_pure hQ
    | (cases u <;> first
        | exact wpAny_pure hQ
        | (refine wpAny_bind (wpAny_load ho ?_)
           rw [hc, hd]
           show wpAny M A (if (["enumerate", "zip", "dict_itemiterator", "dict_reverseitemiterator", "odict_iterator", "itertools.zip_longest", "itertools.pairwise"].contains n && vs[0]? == some (rawInt _)) = true then _ else _) Q E s
           rw [if_neg (by intro h; rw [hn, Bool.false_and] at h; cases h)]
           exact wpAny_pure hQ))
noncomputable def Itl (K : PySem.W.Frag) (a : Addr) : It :=
  ⟨fun i H => ∃ xs x, SqL K H a xs /\ xs[i]? = some x, fun i H x H' => H' = H /\ ∀ xs, SqL K H a xs -> xs[i]? = some x, fun i H => ∃ xs, SqL K H a xs /\ xs.length <= i⟩
noncomputable def Itt (K : PySem.W.Frag) (a : Addr) : It :=
  ⟨fun i H => ∃ xs x, SqT K H a xs /\ xs[i]? = some x, fun i H x H' => H' = H /\ ∀ xs, SqT K H a xs -> xs[i]? = some x, fun i H => ∃ xs, SqT K H a xs /\ xs.length <= i⟩
noncomputable def Itr (lo : Int) (n : Nat) : It := ⟨fun i _ => i < n, fun i H x H' => H' = H /\ x = .int (lo + i), fun i _ => n <= i⟩
theorem turn_list {P : Program} {w : World} {K : PySem.W.Frag} {tg : Expr} (a it : Addr) : Turn P w K tg (Itl K a) [it] it (fun i h => h.IsListIter it a i) where
  mem := by simp
  obj := fun i h st b hb => by
    have e : b = it := by simpa using hb
    subst e
    obtain ⟨o, e, c, d⟩ := st
    exact ⟨o, e, fun v z => by rw [d] at z; cases z⟩
  keep := fun i h h' st k => st.at fun o e => k it (by simp) o e
  item := by
    intro X hP hw hK hc i pins s σ H E I hf st hg
    subst hP hw hK
    obtain ⟨xs, x, hq, hx⟩ := hg
    obtain ⟨its, rv, p, hz⟩ := I.list hq
    obtain ⟨u, hu, ru⟩ := rv.get hx
    obtain ⟨f0, f1, f2, f3, f4, f5⟩ := hf it (by simp)
    refine wpAny_pyNext_list_item st p.isList (x := u) (by simpa using hu) fun h' st' sb => ?_
    have I1 : Inv X pins σ H { s with heap := h' } := I.turned (t' := s.toks) (fun b o hb e => (sb.2 b hb).trans e) f0 f1 f3 f4 f5
    obtain ⟨o, e, c, d⟩ := id st'
    exact ⟨u, rfl, go_of (s := { s with heap := h' }) e c d (by decide) ⟨x, H, I1, ru, ⟨rfl, fun ys hy => by rw [I.list_inj hy hq]; exact hx⟩, st', fun b hb => (hf b hb).1⟩⟩
  done := by
    intro X hP hw hK hc i pins s σ H E I hf st hg
    subst hP hw hK
    obtain ⟨xs, hq, hx⟩ := hg
    obtain ⟨its, rv, p, hz⟩ := I.list hq
    obtain ⟨f0, f1, f2, f3, f4, f5⟩ := hf it (by simp)
    have hl := rv.length
    exact wpAny_pyNext_list_end (I.ok.hd hc) st p.isList (by simp; lia) fun h' eb => ⟨rfl, I.turned (t' := s.toks) (fun b o hb e => eb b o hb e) f0 f1 f3 f4 f5⟩
  self := fun _ _ _ _ _ st h => wpAny_pyIter_listiter st h
theorem turn_tuple {P : Program} {w : World} {K : PySem.W.Frag} {tg : Expr} (a it : Addr) : Turn P w K tg (Itt K a) [it] it (fun i h => h.IsTupleIter it a i) where
  mem := by simp
  obj := fun i h st b hb => by
    have e : b = it := by simpa using hb
    subst e
    obtain ⟨o, e, c, d⟩ := st
    exact ⟨o, e, fun v z => by rw [d] at z; cases z⟩
  keep := fun i h h' st k => st.at fun o e => k it (by simp) o e
  item := by
    intro X hP hw hK hc i pins s σ H E I hf st hg
    subst hP hw hK
    obtain ⟨xs, x, hq, hx⟩ := hg
    obtain ⟨its, rv, p, hz⟩ := I.tuple hq
    obtain ⟨u, hu, ru⟩ := rv.get hx
    obtain ⟨f0, f1, f2, f3, f4, f5⟩ := hf it (by simp)
    refine wpAny_pyNext_tuple_item st (show s.heap.IsTuple a its.toArray from p) (x := u) (by simpa using hu) fun h' st' sb => ?_
    have I1 : Inv X pins σ H { s with heap := h' } := I.turned (t' := s.toks) (fun b o hb e => (sb.2 b hb).trans e) f0 f1 f3 f4 f5
    obtain ⟨o, e, c, d⟩ := id st'
    exact ⟨u, rfl, go_of (s := { s with heap := h' }) e c d (by decide) ⟨x, H, I1, ru, ⟨rfl, fun ys hy => by rw [I.tuple_inj hy hq]; exact hx⟩, st', fun b hb => (hf b hb).1⟩⟩
  done := by
    intro X hP hw hK hc i pins s σ H E I hf st hg
    subst hP hw hK
    obtain ⟨xs, hq, hx⟩ := hg
    obtain ⟨its, rv, p, hz⟩ := I.tuple hq
    obtain ⟨f0, f1, f2, f3, f4, f5⟩ := hf it (by simp)
    have hl := rv.length
    exact wpAny_pyNext_tuple_end (I.ok.hd hc) st (show s.heap.IsTuple a its.toArray from p) (by simp; lia) fun h' eb => ⟨rfl, I.turned (t' := s.toks) (fun b o hb e => eb b o hb e) f0 f1 f3 f4 f5⟩
  self := fun _ _ _ _ _ st h => wpAny_pyIter_tupleiter st h
theorem turn_range {P : Program} {w : World} {K : PySem.W.Frag} {tg : Expr} (it : Addr) (lo : Int) (n : Nat) : Turn P w K tg (Itr lo n) [it] it (fun i h => IsRangeIter h it (lo + (i : Nat) * 1) ((n : Int) - (i : Nat)) 1) where
  mem := by simp
  obj := fun i h st b hb => by
    have e : b = it := by simpa using hb
    subst e
    exact ⟨_, st, fun v z => by
      have z' : Data.fields _ = Data.cell v := z
      cases z'⟩
  keep := fun i h h' st k => k it (by simp) _ st
  item := by
    intro X hP hw hK hc i pins s σ H E I hf st hg
    subst hP hw hK
    obtain ⟨f0, f1, f2, f3, f4, f5⟩ := hf it (by simp)
    have W := Walks.range (prog := X.prog) (w := X.w) (I.ok.hd hc) it lo 1 n
    refine W.item i s _ _ hg st fun v h' tk hv st' kk => ?_
    obtain ⟨t, rfl⟩ := hv
    have I1 : Inv X pins σ H { s with heap := h', toks := tk } := I.turned (fun b o hb e => kk b o (by simpa using hb) e) f0 f1 f3 f4 f5
    refine ⟨_, rfl, go_of (s := { s with heap := h', toks := tk }) (n := "range_iterator") st' rfl rfl (by decide) ⟨.int (lo + i), H, I1, ⟨t, ?_⟩, ⟨rfl, rfl⟩, st', fun b hb => (hf b hb).1⟩⟩
    rw [Int.mul_one]
  done := by
    intro X hP hw hK hc i pins s σ H E I hf st hg
    subst hP hw hK
    obtain ⟨f0, f1, f2, f3, f4, f5⟩ := hf it (by simp)
    exact wpAny_pyNext_range_end (I.ok.hd hc) st (by have : n <= i := hg; lia) fun h' eb => ⟨rfl, I.turned (t' := s.toks) (fun b o hb e => eb b o hb e) f0 f1 f3 f4 f5⟩
  self := fun _ _ _ _ _ st h => wpAny_pyIter_rangeiter st h
end L2
namespace L2
open PySem PySem.Spec PyProof.Rows
section
variable {X : Cx} {tg : Expr}
noncomputable def iList (K : PySem.W.Frag) (tl : TE) : TI := fun σ H R => tl σ H fun x H1 => ∃ a, x = .ref a /\ (∃ xs, SqL K H1 a xs) /\ R (Itl K a) H1
noncomputable def iTup (K : PySem.W.Frag) (tl : TE) : TI := fun σ H R => tl σ H fun x H1 => ∃ a, x = .ref a /\ (∃ xs, SqT K H1 a xs) /\ R (Itt K a) H1
theorem pi_list {l : Expr} {tl : TE} (hl : PE X l tl) : PI X tg l (iList X.K tl) := by
  intro pins s σ H R I h
  refine thn (hl pins s σ H _ I h) fun v s1 ⟨x, H1, I1, r1, q1⟩ => ?_
  obtain ⟨a, e, ⟨xs, hq⟩, q⟩ := q1
  subst e
  cases r1
  obtain ⟨its, rv, p, hz⟩ := I1.list hq
  refine wpAny_pyIter_list p.isList ?_
  refine ⟨s1.heap.objs.size, [s1.heap.objs.size], _, _, H1, rfl, I1.kept (t' := s1.toks) fun b o e => Heap.get?_push_of_some _ e, turn_list a _, ⟨_, Heap.get?_push_size _ rfl, rfl, rfl⟩, fun b hb => ?_, q⟩
  have e : b = s1.heap.objs.size := by simpa using hb
  subst e
  exact I1.fpOk (Nat.le_refl _) (I1.hok.fresh (Nat.le_refl _))
theorem pi_tup {l : Expr} {tl : TE} (hl : PE X l tl) : PI X tg l (iTup X.K tl) := by
  intro pins s σ H R I h
  refine thn (hl pins s σ H _ I h) fun v s1 ⟨x, H1, I1, r1, q1⟩ => ?_
  obtain ⟨a, e, ⟨xs, hq⟩, q⟩ := q1
  subst e
  cases r1
  obtain ⟨its, rv, p, hz⟩ := I1.tuple hq
  refine wpAny_pyIter_tuple (show s1.heap.IsTuple a its.toArray from p) ?_
  refine ⟨s1.heap.objs.size, [s1.heap.objs.size], _, _, H1, rfl, I1.kept (t' := s1.toks) fun b o e => Heap.get?_push_of_some _ e, turn_tuple a _, ⟨_, Heap.get?_push_size _ rfl, rfl, rfl⟩, fun b hb => ?_, q⟩
  have e : b = s1.heap.objs.size := by simpa using hb
  subst e
  exact I1.fpOk (Nat.le_refl _) (I1.hok.fresh (Nat.le_refl _))
theorem range_it {pins : List (Addr × Obj)} {σ : St} {H : Hp} {s : Shared} {R : It -> Hp -> Prop} {E : Value -> Shared -> Prop} {lo hi : Int} {t u v : Tok} {tk : Nat} (I : Inv X pins σ H s) (h1 : -(2 ^ 62) <= lo) (h2 : lo < 2 ^ 62) (h3 : -(2 ^ 62) <= hi) (h4 : hi < 2 ^ 62)
    (q : R (Itr lo (hi - lo).toNat) H) : wpAny (model X.prog X.w) X.A (pyIter (.ref s.heap.objs.size)) (PIE X pins σ tg R) E { s with heap := s.heap.push { cls := .type "range", data := .fields #[.int lo t, .int hi u, .int 1 v] }, toks := tk } := by
  refine wpAny_pyIter_range (IsRange.new ..) (small_one h1 h2 h3 h4) ?_
  have I1 : Inv X pins σ H { s with heap := s.heap.push { cls := .type "range", data := .fields #[.int lo t, .int hi u, .int 1 v] }, toks := tk } := I.kept fun b o e => Heap.get?_push_of_some _ e
  refine ⟨(s.heap.push { cls := .type "range", data := .fields #[.int lo t, .int hi u, .int 1 v] }).objs.size, [(s.heap.push { cls := .type "range", data := .fields #[.int lo t, .int hi u, .int 1 v] }).objs.size], _, _, H, rfl,
    I1.kept (t' := tk) fun b o e => Heap.get?_push_of_some _ e, turn_range _ lo (hi - lo).toNat, ?_, fun b hb => ?_, q⟩
  · have e1 : lo + ((0 : Nat) : Int) * 1 = lo := by simp
    have e2 : (((hi - lo).toNat : Nat) : Int) - ((0 : Nat) : Int) = Builtin.Range.rangeSize lo hi 1 := by rw [rangeSize_one]; split <;> lia
    show IsRangeIter _ _ (lo + ((0 : Nat) : Int) * 1) ((((hi - lo).toNat : Nat) : Int) - ((0 : Nat) : Int)) 1
    rw [e1, e2]
    exact Heap.get?_push_size _ rfl
  · have e : b = (s.heap.push { cls := .type "range", data := .fields #[.int lo t, .int hi u, .int 1 v] }).objs.size := by simpa using hb
    subst e
    exact I1.fpOk (Nat.le_refl _) (I1.hok.fresh (Nat.le_refl _))
noncomputable def iRng1 (ta : TA) : TI := fun σ H R => ta σ H fun vs H1 => ∃ j : Int, vs = [.int j] /\ -(2 ^ 62) <= j /\ j < 2 ^ 62 /\ R (Itr 0 j.toNat) H1
theorem pi_range1 {a : Expr} {ta : TA} {p pos : Pos} (hg : Gl X "range") (hm : X.mg "range" = none) (ha : PA X [a] ta) (hs : starEach [a] X.env = [(false, eval a X.env)] := by rfl) : PI X tg (.Call (.Name "range" p) [a] [] pos) (iRng1 ta) := by
  intro pins s σ H R I h
  refine Call_ (ld_blt I hg hm boot_range (PyProof.Rows.callWith_type1 (thn (ha pos pins s σ H _ I h) fun us s1 ⟨vs, H1, I1, r1, q1⟩ => ?_) hs rfl))
  obtain ⟨j, e, q1, q2, q⟩ := q1
  subst e
  cases r1 with
  | cons r rr =>
    cases rr
    obtain ⟨t, rfl⟩ := r
    exact call_range_1 (range_it I1 (by lia) (by lia) q1 q2 (by simpa using q))
noncomputable def tFor (wi : TI) (g : TG) (tb : TS) : TS := fun D σ H => wi σ H fun J H1 => ∃ W : Nat -> Nat -> St -> Hp -> Prop, (∃ m, W 0 m σ H1) /\ ∀ i m σ H, W i m σ H ->
  (J.stop i H /\ D.nx σ H) \/ (J.go i H /\ ∃ N : St -> Hp -> Prop, (∀ σ' H', N σ' H' -> ∃ m', m' < m /\ W (i + 1) m' σ' H') /\ ∀ x H', J.yld i H x H' -> g x σ H' fun σ2 H2 => tb { D with nx := N, ct := N, bk := D.nx } σ2 H2)
noncomputable def pinsAt (fp : List Addr) (h : Heap) : List (Addr × Obj) := fp.filterMap fun b => (h.get? b).map fun o => (b, o)
theorem mem_pinsAt {fp : List Addr} {h : Heap} {b : Addr} {o : Obj} (hb : b ∈ fp) (e : h.get? b = some o) : (b, o) ∈ pinsAt fp h := List.mem_filterMap.mpr ⟨b, hb, by rw [e]; rfl⟩
theorem of_pinsAt {fp : List Addr} {h : Heap} {p : Addr × Obj} (hp : p ∈ pinsAt fp h) : p.1 ∈ fp /\ h.get? p.1 = some p.2 := by
  obtain ⟨b, hb, e⟩ := List.mem_filterMap.mp hp
  cases q : h.get? b with
  | none => rw [q] at e; cases e
  | some o =>
    rw [q] at e
    have e' : (b, o) = p := Option.some.inj e
    subst e'
    exact ⟨hb, q⟩
theorem Inv.pinned {pins : List (Addr × Obj)} {σ : St} {H : Hp} {s : Shared} {fp : List Addr} (I : Inv X pins σ H s) (hf : ∀ b ∈ fp, FpOk X pins H b) (ho : ∀ b ∈ fp, ∃ o, s.heap.get? b = some o /\ ∀ v, o.data ≠ .cell v) : Inv X (pins ++ pinsAt fp s.heap) σ H s :=
  I.pins_of fun p hp => (List.mem_append.mp hp).elim (fun z => I.pin p (List.mem_append_right _ z)) fun z => by
    obtain ⟨hb, e⟩ := of_pinsAt z
    obtain ⟨f0, f1, f2, _⟩ := hf p.1 hb
    obtain ⟨o, e', d⟩ := ho p.1 hb
    rw [e] at e'; cases e'
    exact ⟨e, f0, f1, f2, d⟩
theorem Inv.unpinned {pins pl : List (Addr × Obj)} {σ : St} {H : Hp} {s : Shared} (I : Inv X (pins ++ pl) σ H s) : Inv X pins σ H s := I.pins_of fun p hp => I.pin p (List.mem_append_right _ (List.mem_append_left _ hp))
theorem ps_for {iter : Expr} {body : List Stmt} {wi : TI} {g : TG} {tb : TS} {pos : Pos} (hp : PassesOwn (model X.prog X.w) X.A X.env X.xe) (hc : X.calm = true) (hi : PI X tg iter wi) (hg : PG X tg g) (hb : PSs X body tb)
    (hs : ∀ x, foldedSetIterable iter X.env x = pure x := by intro _; rfl) : PS X (.For tg iter body [] pos) (tFor wi g tb) := by
  intro pins s σ H D I h
  refine wpAny_For (thn (hi pins s σ H _ I h) fun v s1 h1 => thn h1 fun itv s2 h2 => ?_) hs
  obtain ⟨it, fp, tn, J, H2, e, I2, T, st2, f2, W, ⟨m0, w0⟩, turn⟩ := h2
  subst e
  -- what stays true of the iterator's objects through the loop
  have stat : ∀ {H' : Hp}, (∀ b ∈ fp, H' b = none) -> ∀ b ∈ fp, FpOk X pins H' b := fun hn b hb => ⟨hn b hb, (f2 b hb).2⟩
  refine codeAny_forLoop_any (fun n s' => ∃ i σ' H', Inv X pins σ' H' s' /\ tn i s'.heap /\ (∀ b ∈ fp, H' b = none) /\ W i n σ' H') ?_ m0 ⟨0, σ, H2, I2, st2, fun b hb => (f2 b hb).1, w0⟩
  rintro n s3 ⟨i, σ3, H3, I3, st3, fr3, w3⟩
  rcases turn i n σ3 H3 w3 with ⟨stop, qn⟩ | ⟨go, N, hN, step⟩
  · refine wpAny_passesOwn hp (thn (T.done X rfl rfl rfl hc i pins s3 σ3 H3 X.xe I3 (stat fr3) st3 stop) fun r s4 ⟨hr, I4⟩ => ?_)
    subst hr
    exact wpAny_execs_nil ⟨σ3, H3, I4, qn⟩
  · refine wpAny_passesOwn hp (thn (T.item X rfl rfl rfl hc i pins s3 σ3 H3 X.xe I3 (stat fr3) st3 go) fun r s4 ⟨u, hr, h4⟩ => ?_)
    subst hr
    refine wpAny_passesOwn hp (thn h4 fun _ s5 ⟨x, H5, I5, r5, y5, st5, fr5⟩ => ?_)
    have I5' := I5.pinned (stat fr5) (T.obj _ _ st5)
    refine wpAny_passesOwn hp (thn (hg _ s5 σ3 H5 x u _ I5' r5 (step x H5 y5)) fun _ s6 ⟨σ6, H6, I6, q6⟩ => ?_)
    refine wpAny_passesOwn hp (thn (hb _ s6 σ6 H6 _ I6 q6) fun f s7 q7 => ?_)
    have again : ∀ {σ7 : St} {H7 : Hp}, Inv X (pins ++ pinsAt fp s5.heap) σ7 H7 s7 -> N σ7 H7 -> ∃ m, m < n /\ ∃ i σ' H', Inv X pins σ' H' s7 /\ tn i s7.heap /\ (∀ b ∈ fp, H' b = none) /\ W i m σ' H' := fun {σ7 H7} I7 n7 => by
      obtain ⟨m', hm, w7⟩ := hN σ7 H7 n7
      refine ⟨m', hm, i + 1, σ7, H7, I7.unpinned, T.keep _ _ _ st5 fun b hb o e => (I7.pin (b, o) (List.mem_append_right _ (List.mem_append_right _ (mem_pinsAt hb e)))).1, fun b hb => ?_, w7⟩
      obtain ⟨o, e, d⟩ := T.obj _ _ st5 b hb
      exact (I7.pin (b, o) (List.mem_append_right _ (List.mem_append_right _ (mem_pinsAt hb e)))).2.1
    cases f with
    | next => obtain ⟨σ7, H7, I7, n7⟩ := q7; exact again I7 n7
    | cont => obtain ⟨σ7, H7, I7, n7⟩ := q7; exact again I7 n7
    | brk => obtain ⟨σ7, H7, I7, q7⟩ := q7; exact ⟨σ7, H7, I7.unpinned, q7⟩
    | ret v => obtain ⟨x7, σ7, H7, I7, r7, q7⟩ := q7; exact ⟨x7, σ7, H7, I7.unpinned, r7, q7⟩
end
theorem for_range {lo : Int} {n : Nat} {g : TG} {tb : TS} {D : Ends} {σ : St} {H : Hp} (Pv : Nat -> St -> Hp -> Prop) (h0 : Pv 0 σ H)
    (hs : ∀ i σ H, i < n -> Pv i σ H -> g (.int (lo + i)) σ H fun σ2 H2 => tb { D with nx := Pv (i + 1), ct := Pv (i + 1), bk := D.nx } σ2 H2) (hd : ∀ σ H, Pv n σ H -> D.nx σ H) :
    ∃ W : Nat -> Nat -> St -> Hp -> Prop, (∃ m, W 0 m σ H) /\ ∀ i m σ H, W i m σ H ->
      ((Itr lo n).stop i H /\ D.nx σ H) \/ ((Itr lo n).go i H /\ ∃ N : St -> Hp -> Prop, (∀ σ' H', N σ' H' -> ∃ m', m' < m /\ W (i + 1) m' σ' H') /\ ∀ x H', (Itr lo n).yld i H x H' -> g x σ H' fun σ2 H2 => tb { D with nx := N, ct := N, bk := D.nx } σ2 H2) := by
  refine ⟨fun i m σ H => m = n - i /\ i <= n /\ Pv i σ H, ⟨n, by simp, Nat.zero_le _, h0⟩, ?_⟩
  rintro i m σ H ⟨rfl, hi, p⟩
  by_cases hlt : i < n
  · refine .inr ⟨hlt, Pv (i + 1), fun σ' H' p' => ⟨n - (i + 1), by lia, rfl, hlt, p'⟩, fun x H' y => ?_⟩
    obtain ⟨e, y⟩ := y
    subst e y
    exact hs i σ _ hlt p
  · have e : i = n := by lia
    subst e
    exact .inl ⟨Nat.le_refl _, hd σ H p⟩
end L2
namespace L2
open PySem PySem.Spec PyProof.Rows
noncomputable abbrev R2 := V -> V -> Hp -> VK -> Prop
noncomputable def OpR (X : Cx) (f : Value -> Value -> Sem Value) (r : R2) : Prop :=
  ∀ (pins : List (Addr × Obj)) (s : Shared) (σ : St) (H : Hp) (x y : V) (v u : Value) (Q : VK), Inv X pins σ H s -> RelV x v -> RelV y u -> r x y H Q ->
    wpAny (model X.prog X.w) X.A (f v u) (EP X pins σ Q) X.xe s
noncomputable def UnR (X : Cx) (f : Value -> Sem Value) (r : V -> Hp -> VK -> Prop) : Prop :=
  ∀ (pins : List (Addr × Obj)) (s : Shared) (σ : St) (H : Hp) (x : V) (v : Value) (Q : VK), Inv X pins σ H s -> RelV x v -> r x H Q ->
    wpAny (model X.prog X.w) X.A (f v) (EP X pins σ Q) X.xe s
noncomputable def CallR (X : Cx) (f : Value) (r : List V -> Hp -> VK -> Prop) : Prop :=
  ∀ (pins : List (Addr × Obj)) (s : Shared) (σ : St) (H : Hp) (xs : List V) (us : List Value) (Q : VK), Inv X pins σ H s -> Vals xs us -> r xs H Q ->
    wpAny (model X.prog X.w) X.A (call f us) (EP X pins σ Q) X.xe s
noncomputable def TruR (X : Cx) (r : V -> Hp -> (Bool -> Hp -> Prop) -> Prop) : Prop :=
  ∀ (pins : List (Addr × Obj)) (s : Shared) (σ : St) (H : Hp) (x : V) (v : Value) (Q : Bool -> Hp -> Prop), Inv X pins σ H s -> RelV x v -> r x H Q ->
    wpAny (model X.prog X.w) X.A (truthy v) (TP X pins σ Q) X.xe s
noncomputable def tOp (r : R2) (ta tb : TE) : TE := fun σ H Q => ta σ H fun x H1 => tb σ H1 fun y H2 => r x y H2 Q
noncomputable def tUn (r : V -> Hp -> VK -> Prop) (ta : TE) : TE := fun σ H Q => ta σ H fun x H1 => r x H1 Q
noncomputable def rI (C : Int -> Int -> Prop) (g : Int -> Int -> V) : R2 := fun x y H Q => ∃ i j, x = .int i /\ y = .int j /\ C i j /\ Q (g i j) H
noncomputable def rI0 (g : Int -> Int -> V) : R2 := fun x y H Q => ∃ i j, x = .int i /\ y = .int j /\ Q (g i j) H
noncomputable def rU (g : Int -> V) : V -> Hp -> VK -> Prop := fun x H Q => ∃ i, x = .int i /\ Q (g i) H
section
variable {X : Cx} {a b c : Expr} {ta tb tc : TE} {pos : Pos}
theorem binT (ha : PE X a ta) (hb : PE X b tb) {pins : List (Addr × Obj)} {s : Shared} {σ : St} {H : Hp} {R : V -> V -> Hp -> Prop} (I : Inv X pins σ H s)
    (h : ta σ H fun x H1 => tb σ H1 fun y H2 => R x y H2) {Q : Value -> Shared -> Prop} {f : Value -> Value -> Sem Value}
    (hf : ∀ v u s2 x y H2, Inv X pins σ H2 s2 -> RelV x v -> RelV y u -> R x y H2 -> wpAny (model X.prog X.w) X.A (f v u) Q X.xe s2) :
    wpAny (model X.prog X.w) X.A (eval a X.env) (fun v s₁ => wpAny (model X.prog X.w) X.A (eval b X.env) (fun u s₂ => wpAny (model X.prog X.w) X.A (f v u) Q X.xe s₂) X.xe s₁) X.xe s := by
  refine thn (ha pins s σ H _ I h) fun v s1 ⟨x, H1, I1, r1, q1⟩ => ?_
  refine thn (hb pins s1 σ H1 _ I1 q1) fun u s2 ⟨y, H2, I2, r2, q2⟩ => ?_
  exact hf v u s2 x y H2 I2 r1 r2 q2
theorem pe_op {op : Operator} {r : R2} (ho : OpR X (binaryOp op) r) (ha : PE X a ta) (hb : PE X b tb) : PE X (.BinOp a op b pos) (tOp r ta tb) := by
  intro pins s σ H Q I h
  exact wpAny_BinOp (binT ha hb I h fun v u s2 x y H2 I2 rx ry q => ho pins s2 σ H2 x y v u Q I2 rx ry q)
theorem pe_un {op : UnaryOp} {r : V -> Hp -> VK -> Prop} (ho : UnR X (unaryOp op) r) (ha : PE X a ta) : PE X (.UnaryOp op a pos) (tUn r ta) := by
  intro pins s σ H Q I h
  exact UnaryOp_ (thn (ha pins s σ H _ I h) fun v s1 ⟨x, H1, I1, r1, q1⟩ => ho pins s1 σ H1 x v Q I1 r1 q1)
theorem opI {f : Value -> Value -> Sem Value} {C : Int -> Int -> Prop} {g : Int -> Int -> Int}
    (rule : ∀ (i j : Int) (t u : Tok) (s : Shared) (Q : Value -> Shared -> Prop) (E : Value -> Shared -> Prop), C i j -> Q (.int (g i j) s.toks) { s with toks := s.toks + 1 } -> wpAny (model X.prog X.w) X.A (f (.int i t) (.int j u)) Q E s) :
    OpR X f (rI C fun i j => .int (g i j)) := by
  intro pins s σ H x y v u Q I rx ry h
  obtain ⟨i, j, rfl, rfl, hc, q⟩ := h
  obtain ⟨t, rfl⟩ := rx
  obtain ⟨t', rfl⟩ := ry
  exact rule i j t t' s _ _ hc ⟨.int (g i j), H, I.tok _, ⟨_, rfl⟩, q⟩
theorem opI0 {f : Value -> Value -> Sem Value} {g : Int -> Int -> Int}
    (rule : ∀ (i j : Int) (t u : Tok) (s : Shared) (Q : Value -> Shared -> Prop) (E : Value -> Shared -> Prop), Q (.int (g i j) s.toks) { s with toks := s.toks + 1 } -> wpAny (model X.prog X.w) X.A (f (.int i t) (.int j u)) Q E s) :
    OpR X f (rI0 fun i j => .int (g i j)) := by
  intro pins s σ H x y v u Q I rx ry h
  obtain ⟨i, j, rfl, rfl, q⟩ := h
  obtain ⟨t, rfl⟩ := rx
  obtain ⟨t', rfl⟩ := ry
  exact rule i j t t' s _ _ ⟨.int (g i j), H, I.tok _, ⟨_, rfl⟩, q⟩
theorem opB0 {f : Value -> Value -> Sem Value} {g : Int -> Int -> Bool}
    (rule : ∀ (i j : Int) (t u : Tok) (s : Shared) (Q : Value -> Shared -> Prop) (E : Value -> Shared -> Prop), Q (.bool (g i j)) s -> wpAny (model X.prog X.w) X.A (f (.int i t) (.int j u)) Q E s) :
    OpR X f (rI0 fun i j => .bl (g i j)) := by
  intro pins s σ H x y v u Q I rx ry h
  obtain ⟨i, j, rfl, rfl, q⟩ := h
  obtain ⟨t, rfl⟩ := rx
  obtain ⟨t', rfl⟩ := ry
  exact rule i j t t' s _ _ ⟨.bl (g i j), H, I, rfl, q⟩
noncomputable def CDiv (i j : Int) : Prop := 0 < j /\ j < 1073741824
noncomputable def CPow (i j : Int) : Prop := 0 <= j /\ j <= 1000000 /\ i.natAbs < 2 ^ 64
noncomputable def CMul (i j : Int) : Prop := (-(2 ^ 64) < i /\ i < 2 ^ 64) \/ (-(2 ^ 64) < j /\ j < 2 ^ 64)
theorem CMul.ok {i j : Int} (h : CMul i j) : IntMulOk i j := by
  rcases h with ⟨h1, h2⟩ | ⟨h1, h2⟩
  · exact .of_left (intBits_le_64 h1 h2)
  · exact .of_right (intBits_le_64 h1 h2)
theorem op_add : OpR X (binaryOp .Add) (rI0 fun i j => .int (i + j)) := opI0 fun _ _ _ _ _ _ _ q => add_int q
theorem op_sub : OpR X (binaryOp .Sub) (rI0 fun i j => .int (i - j)) := opI0 fun _ _ _ _ _ _ _ q => sub_int q
theorem op_mul : OpR X (binaryOp .Mult) (rI CMul fun i j => .int (i * j)) := opI fun _ _ _ _ _ _ _ hc q => mul_int q hc.ok
theorem op_fdiv : OpR X (binaryOp .FloorDiv) (rI CDiv fun i j => .int (i / j)) := opI fun i j _ _ _ _ _ hc q => by
  have h1 : (0 : Int) < j := hc.1
  have h2 : j < 1073741824 := hc.2
  exact floordiv_int (by lia) (by rw [Int.fdiv_eq_ediv_of_nonneg i (by lia)]; exact q) (.inl (PyProof.noPylong_small (by lia)))
theorem op_mod : OpR X (binaryOp .Mod) (rI (fun _ j => 0 < j) fun i j => .int (i % j)) := opI fun i j _ _ _ _ _ hc q => by
  have h1 : (0 : Int) < j := hc
  exact mod_int' (by lia) (by rw [Int.fmod_eq_emod_of_nonneg i (by lia)]; exact q)
theorem op_pow : OpR X (binaryOp .Pow) (rI CPow fun i j => .int (i ^ j.toNat)) := opI fun _ _ _ _ _ _ _ hc q => pow_int_small hc.1 hc.2.1 hc.2.2 q
theorem unI {f : Value -> Sem Value} {g : Int -> Int}
    (rule : ∀ (i : Int) (t : Tok) (s : Shared) (Q : Value -> Shared -> Prop) (E : Value -> Shared -> Prop), Q (.int (g i) s.toks) { s with toks := s.toks + 1 } -> wpAny (model X.prog X.w) X.A (f (.int i t)) Q E s) :
    UnR X f (rU fun i => .int (g i)) := by
  intro pins s σ H x v Q I rx h
  obtain ⟨i, rfl, q⟩ := h
  obtain ⟨t, rfl⟩ := rx
  exact rule i t s _ _ ⟨.int (g i), H, I.tok _, ⟨_, rfl⟩, q⟩
theorem un_neg : UnR X (unaryOp .USub) (rU fun i => .int (-i)) := unI fun _ _ _ _ _ q => neg_int q
end
noncomputable def scal : V -> V -> Bool
  | .non, .non => true | .non, .int _ => true | .int _, .non => true | .non, .bl _ => true | .bl _, .non => true | .non, .str _ => true | .str _, .non => true
  | .int _, .int _ => true | .bl _, .bl _ => true | .str _, .str _ => true | .byt _, .byt _ => true
  | .int _, .str _ => true | .str _, .int _ => true | .bl _, .str _ => true | .str _, .bl _ => true
  | _, _ => false
noncomputable def rEq : R2 := fun x y H Q => scal x y = true /\ Q (.bl (decide (x = y))) H
noncomputable def rNe : R2 := fun x y H Q => scal x y = true /\ Q (.bl (!decide (x = y))) H
theorem dec_int {i j : Int} : decide (V.int i = V.int j) = (i == j) := by
  rw [Bool.eq_iff_iff]
  simp
theorem dec_bl {i j : Bool} : decide (V.bl i = V.bl j) = (i == j) := by
  rw [Bool.eq_iff_iff]
  simp
theorem dec_str {i j : Str} : decide (V.str i = V.str j) = (i == j) := by
  rw [Bool.eq_iff_iff]
  simp
theorem dec_byt {i j : Array UInt8} : decide (V.byt i = V.byt j) = (i.toList == j.toList) := by
  rw [Bool.eq_iff_iff]
  cases i
  cases j
  simp
section
variable {X : Cx} {a b c : Expr} {ta tb tc : TE} {pos : Pos}
theorem fin_bl {pins : List (Addr × Obj)} {σ : St} {H : Hp} {s : Shared} {Q : VK} {k k' : Bool} (I : Inv X pins σ H s) (q : Q (.bl k) H) (e : k = k') : EP X pins σ Q (.bool k') s := by
  subst e
  exact ⟨.bl k, H, I, rfl, q⟩
theorem op_eq : OpR X (compareOp .Eq) rEq := by
  intro pins s σ H x y v u Q I rx ry h
  obtain ⟨hs, q⟩ := h
  cases x with
  | non =>
    cases rx
    cases y with
    | non => cases ry; exact PySem.EqNone.eq_none_none (fin_bl I q (by simp))
    | bl j => cases ry; exact PySem.EqNone.eq_none_bool (fin_bl I q (by simp))
    | int j => obtain ⟨t', rfl⟩ := ry; exact PySem.EqNone.eq_none_int (fin_bl I q (by simp))
    | str j => obtain ⟨t', rfl⟩ := ry; exact PySem.EqNone.eq_none_str (fin_bl I q (by simp))
    | _ => exact absurd (show false = true from hs) Bool.false_ne_true
  | bl i =>
    cases rx
    cases y with
    | non => cases ry; exact PySem.EqNone.eq_bool_none (fin_bl I q (by simp))
    | bl j => cases ry; exact eq_bool (fin_bl I q dec_bl)
    | str j => obtain ⟨t', rfl⟩ := ry; exact PySem.EqMixed.eq_bool_str (fin_bl I q (by simp))
    | _ => exact absurd (show false = true from hs) Bool.false_ne_true
  | int i =>
    obtain ⟨t, rfl⟩ := rx
    cases y with
    | non => cases ry; exact PySem.EqNone.eq_int_none (fin_bl I q (by simp))
    | int j => obtain ⟨t', rfl⟩ := ry; exact eq_int (fin_bl I q dec_int)
    | str j => obtain ⟨t', rfl⟩ := ry; exact PySem.EqMixed.eq_int_str (fin_bl I q (by simp))
    | _ => exact absurd (show false = true from hs) Bool.false_ne_true
  | str i =>
    obtain ⟨t, rfl⟩ := rx
    cases y with
    | non => cases ry; exact PySem.EqNone.eq_str_none (fin_bl I q (by simp))
    | bl j => cases ry; exact PySem.EqMixed.eq_str_bool (fin_bl I q (by simp))
    | int j => obtain ⟨t', rfl⟩ := ry; exact PySem.EqMixed.eq_str_int (fin_bl I q (by simp))
    | str j => obtain ⟨t', rfl⟩ := ry; exact eq_str (fin_bl I q dec_str)
    | _ => exact absurd (show false = true from hs) Bool.false_ne_true
  | byt i =>
    obtain ⟨t, rfl⟩ := rx
    cases y with
    | byt j => obtain ⟨t', rfl⟩ := ry; exact PySem.W.eq_bytes (fin_bl I q dec_byt)
    | _ => exact absurd (show false = true from hs) Bool.false_ne_true
  | _ => cases y <;> exact absurd (show false = true from hs) Bool.false_ne_true
theorem op_ne : OpR X (compareOp .NotEq) rNe := by
  intro pins s σ H x y v u Q I rx ry h
  obtain ⟨hs, q⟩ := h
  cases x with
  | non =>
    cases rx
    cases y with
    | non => cases ry; exact PySem.EqNone.ne_none_none (fin_bl I q (by simp))
    | bl j => cases ry; exact PySem.EqNone.ne_none_bool (fin_bl I q (by simp))
    | int j => obtain ⟨t', rfl⟩ := ry; exact PySem.EqNone.ne_none_int (fin_bl I q (by simp))
    | str j => obtain ⟨t', rfl⟩ := ry; exact PySem.EqNone.ne_none_str (fin_bl I q (by simp))
    | _ => exact absurd (show false = true from hs) Bool.false_ne_true
  | bl i =>
    cases rx
    cases y with
    | non => cases ry; exact PySem.EqNone.ne_bool_none (fin_bl I q (by simp))
    | bl j => cases ry; exact ne_bool (fin_bl I q (congrArg not dec_bl))
    | str j => obtain ⟨t', rfl⟩ := ry; exact PySem.EqMixed.ne_bool_str (fin_bl I q (by simp))
    | _ => exact absurd (show false = true from hs) Bool.false_ne_true
  | int i =>
    obtain ⟨t, rfl⟩ := rx
    cases y with
    | non => cases ry; exact PySem.EqNone.ne_int_none (fin_bl I q (by simp))
    | int j => obtain ⟨t', rfl⟩ := ry; exact ne_int (fin_bl I q (congrArg not dec_int))
    | str j => obtain ⟨t', rfl⟩ := ry; exact PySem.EqMixed.ne_int_str (fin_bl I q (by simp))
    | _ => exact absurd (show false = true from hs) Bool.false_ne_true
  | str i =>
    obtain ⟨t, rfl⟩ := rx
    cases y with
    | non => cases ry; exact PySem.EqNone.ne_str_none (fin_bl I q (by simp))
    | bl j => cases ry; exact PySem.EqMixed.ne_str_bool (fin_bl I q (by simp))
    | int j => obtain ⟨t', rfl⟩ := ry; exact PySem.EqMixed.ne_str_int (fin_bl I q (by simp))
    | str j => obtain ⟨t', rfl⟩ := ry; exact ne_str (fin_bl I q (congrArg not dec_str))
    | _ => exact absurd (show false = true from hs) Bool.false_ne_true
  | byt i =>
    obtain ⟨t, rfl⟩ := rx
    cases y with
    | byt j => obtain ⟨t', rfl⟩ := ry; exact PySem.W.ne_bytes (fin_bl I q (congrArg not dec_byt))
    | _ => exact absurd (show false = true from hs) Bool.false_ne_true
  | _ => cases y <;> exact absurd (show false = true from hs) Bool.false_ne_true
theorem op_lt : OpR X (compareOp .Lt) (rI0 fun i j => .bl (decide (i < j))) := opB0 fun _ _ _ _ _ _ _ q => lt_int q
theorem op_le : OpR X (compareOp .LtE) (rI0 fun i j => .bl (decide (i <= j))) := opB0 fun _ _ _ _ _ _ _ q => le_int q
theorem op_gt : OpR X (compareOp .Gt) (rI0 fun i j => .bl (decide (j < i))) := opB0 fun _ _ _ _ _ _ _ q => gt_int q
theorem op_notN : OpR X (compareOp .IsNot) (fun x y H Q => y = .non /\ Q (.bl (!decide (x = .non))) H) := by
  intro pins s σ H x y v u Q I rx ry h
  obtain ⟨rfl, q⟩ := h
  cases ry
  refine isnot_none_gen (fin_bl I q ?_)
  cases x <;> first
    | (cases rx; rfl)
    | (obtain ⟨t, rfl⟩ := rx; rfl)
theorem OpR.or {f : Value -> Value -> Sem Value} {r r' : R2} (h : OpR X f r) (h' : OpR X f r') : OpR X f (fun x y H Q => r x y H Q \/ r' x y H Q) := by
  intro pins s σ H x y v u Q I rx ry q
  rcases q with q | q
  · exact h pins s σ H x y v u Q I rx ry q
  · exact h' pins s σ H x y v u Q I rx ry q
theorem nomark (b : Expr) {op : CmpOp} (h : op ≠ .In := by decide) (h2 : op ≠ .NotIn := by decide) : behindInMarks op b = false := by
  have e1 : (op == CmpOp.In) = false := by cases op <;> first | rfl | exact absurd rfl h
  have e2 : (op == CmpOp.NotIn) = false := by cases op <;> first | rfl | exact absurd rfl h2
  cases b <;> simp [behindInMarks, e1, e2]
theorem pe_cmpR {op : CmpOp} {r : R2} (ho : OpR X (compareOp op) r) (ha : PE X a ta) (hb : PE X b tb) (hm : behindInMarks op b = false) : PE X (.Compare a [op] [b] pos) (tOp r ta tb) := by
  intro pins s σ H Q I h
  exact wpAny_Compare1 (binT ha hb I h fun v u s2 x y H2 I2 rx ry q => ho pins s2 σ H2 x y v u Q I2 rx ry q) hm
noncomputable def tTest (t : TE) : TT := fun σ H Q => t σ H fun x H' => ∃ k, x = .bl k /\ Q k H'
theorem pt_cmpR {op : CmpOp} {r : R2} (ho : OpR X (compareOp op) r) (ha : PE X a ta) (hb : PE X b tb) (hm : behindInMarks op b = false) : PT X (.Compare a [op] [b] pos) (tTest (tOp r ta tb)) := by
  intro pins s σ H Q I h
  refine wpAny_isTrue_Compare1 (thn (ha pins s σ H _ I h) fun v s1 ⟨x, H1, I1, r1, q1⟩ => thn (hb pins s1 σ H1 _ I1 q1) fun u s2 ⟨y, H2, I2, r2, q2⟩ =>
    thn (ho pins s2 σ H2 x y v u _ I2 r1 r2 q2) fun c s3 ⟨z, H3, I3, r3, k, e, q3⟩ => ?_) hm
  subst e
  cases r3
  exact wpAny_truthy_bool ⟨H3, I3, q3⟩
noncomputable def tChain (r r' : R2) (ta tb tc : TE) : TE := fun σ H Q => ta σ H fun x H1 => tb σ H1 fun y H2 => r x y H2 fun z H3 => ∃ k, z = .bl k /\
  (if k = true then tc σ H3 fun w' H4 => r' y w' H4 Q else Q (.bl false) H3)
theorem pe_chain {op op' : CmpOp} {r r' : R2} (ho : OpR X (compareOp op) r) (ho' : OpR X (compareOp op') r') (ha : PE X a ta) (hb : PE X b tb) (hc : PE X c tc)
    (hm : lastMarks [op, op'] [b, c] = false := by with_unfolding_all rfl) : PE X (.Compare a [op, op'] [b, c] pos) (tChain r r' ta tb tc) := by
  intro pins s σ H Q I h
  refine Compare_chain (thn (ha pins s σ H _ I h) fun v s1 ⟨x, H1, I1, r1, q1⟩ => chain_link (thn (hb pins s1 σ H1 _ I1 q1) fun u s2 ⟨y, H2, I2, r2, q2⟩ =>
    thn (ho pins s2 σ H2 x y v u _ I2 r1 r2 q2) fun d s3 ⟨z, H3, I3, r3, k, e, q3⟩ => ?_)) hm
  subst e
  cases r3
  refine wpAny_truthy_bool ?_
  cases k with
  | false => exact ite_ff ⟨.bl false, H3, I3, rfl, q3⟩
  | true => exact ite_tt (chain_last (thn (hc pins s3 σ H3 _ I3 q3) fun w' s4 ⟨z', H4, I4, r4, q4⟩ => ho' pins s4 σ H4 y z' u w' Q I4 r2 r4 q4))
noncomputable def TruV (K : PySem.W.Frag) (x : V) (H : Hp) (k : Bool) : Prop :=
  match x with
  | .non => k = false
  | .bl b => k = b
  | .int i => k = (i != 0)
  | .str y => y.length <= sizeLine /\ k = ((y.length : Int) != 0)
  | .byt y => y.size <= sizeLine /\ k = ((y.size : Int) != 0)
  | .ref p => (∃ xs, SqL K H p xs /\ k = !xs.isEmpty) \/ (∃ xs, SqT K H p xs /\ k = !xs.isEmpty) \/ ∃ kvs, H p = some (.dK kvs) /\ k = !kvs.isEmpty
  | _ => False
theorem isEmpty_kv {κ : Type} {kvs : List (κ × V)} {vs : List (κ × Value)} (r : KV kvs vs) : (!vs.isEmpty) = !kvs.isEmpty := by
  cases r <;> rfl
theorem isEmpty_of {xs : List V} {its : List Value} (r : Vals xs its) : (!its.toArray.isEmpty) = !xs.isEmpty := by
  cases r <;> simp
theorem line63 : (sizeLine : Nat) < 2 ^ 63 := by rw [sizeLine_eq]; decide
theorem tru_ok : TruR X (fun x H Q => ∃ k, TruV X.K x H k /\ Q k H) := by
  intro pins s σ H x v Q I rx h
  obtain ⟨k, e, q⟩ := h
  have hl := line63
  have hs : sizeLine = 16777216 := sizeLine_eq
  cases x with
  | non =>
    cases rx
    have e' : k = false := e
    subst e'
    exact truthy_none ⟨H, I, q⟩
  | bl b =>
    cases rx
    have e' : k = b := e
    subst e'
    exact wpAny_truthy_bool ⟨H, I, q⟩
  | int i =>
    obtain ⟨t, rfl⟩ := rx
    have e' : k = (i != 0) := e
    subst e'
    exact PySem.P.truthy_int ⟨H, I, q⟩
  | str y =>
    obtain ⟨t, rfl⟩ := rx
    obtain ⟨hy, e'⟩ : y.length <= sizeLine /\ k = ((y.length : Int) != 0) := e
    subst e'
    exact PySem.P.truthy_str (by lia) ⟨H, I.tok _, q⟩
  | byt y =>
    obtain ⟨t, rfl⟩ := rx
    obtain ⟨hy, e'⟩ : y.size <= sizeLine /\ k = ((y.size : Int) != 0) := e
    subst e'
    exact PySem.W.truthy_bytes (by lia) ⟨H, I.tok _, q⟩
  | ref p =>
    cases rx
    have e' : (∃ xs, SqL X.K H p xs /\ k = !xs.isEmpty) \/ (∃ xs, SqT X.K H p xs /\ k = !xs.isEmpty) \/ ∃ kvs, H p = some (.dK kvs) /\ k = !kvs.isEmpty := e
    rcases e' with ⟨xs, hx, e'⟩ | ⟨xs, hx, e'⟩ | ⟨kvs, hx, e'⟩
    · subst e'
      obtain ⟨its, r, pl, hz⟩ := I.list hx
      have hlen := r.length
      exact wpAny_truthy_list pl.isList (by simp only [List.size_toArray]; lia) ⟨H, I.tok _, by rw [isEmpty_of r]; exact q⟩
    · subst e'
      obtain ⟨its, r, pl, hz⟩ := I.tuple hx
      have hlen := r.length
      exact truthy_tuple pl (by simp only [List.size_toArray]; lia) ⟨H, I.tok _, by rw [isEmpty_of r]; exact q⟩
    · subst e'
      obtain ⟨hz, hS, vs, r, m⟩ : kvs.length <= sizeLine /\ (p == sysModules) = false /\ ∃ vs, KV kvs vs /\ s.heap.DictOf (mixKind X.prog X.w) p vs := I.hok p _ hx
      have hlen : kvs.length = vs.length := Paired.length r
      exact wpAny_truthy_dict hS m (by lia) ⟨H, I.tok _, by rw [isEmpty_kv r]; exact q⟩
  | _ => exact (show False from e).elim
theorem pt_truth (ha : PE X a ta) (he : ∀ whole, isTrue a X.env whole = (do let v <- whole; standAt a.pos; holding [v] (truthy v))) :
    PT X a (fun σ H Q => ta σ H fun x H' => ∃ k, TruV X.K x H' k /\ Q k H') := by
  intro pins s σ H Q I h
  exact isTrue_plain (thn (ha pins s σ H _ I h) fun v s1 ⟨x, H1, I1, r1, q1⟩ => tru_ok pins s1 σ H1 x v Q I1 r1 q1) (he _)
theorem op_add_str : OpR X (binaryOp .Add) (fun x y H Q => ∃ i j, x = .str i /\ y = .str j /\ i.length + j.length <= sizeLine /\ Q (.str (i ++ j)) H) := by
  intro pins s σ H x y v u Q I rx ry h
  obtain ⟨i, j, rfl, rfl, hz, q⟩ := h
  obtain ⟨t, rfl⟩ := rx
  obtain ⟨t', rfl⟩ := ry
  exact add_str (fun t' tk => ⟨.str (i ++ j), H, I.tok _, ⟨_, rfl⟩, q⟩) hz
theorem vals1 {x : V} {us : List Value} (r : Vals [x] us) : ∃ u, us = [u] /\ RelV x u := by
  cases r with
  | cons r1 r2 => cases r2; exact ⟨_, rfl, r1⟩
theorem call_int1 : CallR X (.type "int") (fun xs H Q => (∃ i, xs = [.int i] /\ Q (.int i) H) \/ ∃ k, xs = [.bl k] /\ Q (.int (if k then 1 else 0)) H) := by
  intro pins s σ H xs us Q I r h
  rcases h with ⟨i, rfl, q⟩ | ⟨k, rfl, q⟩
  · obtain ⟨u, rfl, t, rfl⟩ := vals1 r
    exact call_int_int ⟨.int i, H, I, ⟨_, rfl⟩, q⟩
  · obtain ⟨u, rfl, r1⟩ := vals1 r
    cases r1
    exact call_int_bool ⟨.int (if k then 1 else 0), H, I.tok _, ⟨_, rfl⟩, q⟩
end
end L2
namespace L2
open PySem PySem.Spec PyProof.Rows
section
variable {prog : Program} {w : World} {A : Around} {E : Value -> Shared -> Prop} {s : Shared} {K : PySem.W.Frag} {x dx C f : Addr} {mA : Str -> Option Value} {name : Str} {v : Value}
end
theorem RelO.some_of {v : V} {o : Option Value} (r : RelO (some v) o) : ∃ u, o = some u /\ RelV v u := by
  cases o with
  | none => exact (show False from r).elim
  | some u => exact ⟨u, rfl, r⟩
section
variable {P : Program} {w : World} {H H' : Hp} {h h' : Heap} {a C dx : Addr} {fs fs' : List (Str × V)}
end
section
variable {X : Cx} {pins : List (Addr × Obj)} {σ : St} {H : Hp} {s : Shared} {a C dx : Addr} {fs : List (Str × V)} {f : Str} {v : V} {A : Around} {E : Value -> Shared -> Prop}
end
section
variable {X : Cx} {o e value : Expr} {f : Str} {pos pos' tpos : Pos} {ta tv : TE}
end
section
variable {X : Cx} {pins : List (Addr × Obj)} {σ : St} {H : Hp} {s : Shared} {A : Around} {E : Value -> Shared -> Prop} {Q : Value -> Shared -> Prop} {c : Value} {b : Bool}
end
end L2
namespace L2
open PySem PySem.Spec PyProof.Rows
structure Room (k : Nat) (A : Around) : Prop where
  hd : A.handled = none
  dp : A.depth + 3 * k + 5 < recursionLimit
  un : A.units + 16 * k + 200 < cLine
theorem Room.mono {j k : Nat} {A : Around} (r : Room k A) (h : j <= k) : Room j A := ⟨r.hd, by have := r.dp; lia, by have := r.un; lia⟩
theorem Room.deeper {k : Nat} {A : Around} (r : Room (k + 1) A) (env : Env) : Room k (A.deeper env) :=
  ⟨r.hd, by have := r.dp; show A.depth + 1 + 3 * k + 5 < _; lia, by have := r.un; show A.units + 3 + 16 * k + 200 < _; lia⟩
theorem Room.depth {k : Nat} {A : Around} (r : Room k A) : A.depth < recursionLimit := by have := r.dp; lia
theorem Room.units {k : Nat} {A : Around} (r : Room k A) : A.units + 64 < cLine := by have := r.un; lia
noncomputable def tNil : TA := fun _ H Q => Q [] H
noncomputable def tCons (ta : TE) (tr : TA) : TA := fun σ H Q => ta σ H fun x H1 => tr σ H1 fun xs H2 => Q (x :: xs) H2
section
variable {X : Cx} {e : Expr} {es : List Expr} {te : TE} {t : TA} {pos : Pos}
theorem pa_nil : PA X [] tNil := fun _ _ _ _ H Q I h => Calls.spliced_nil ⟨[], H, I, .nil, h⟩
theorem pa_cons (ha : PE X e te) (hr : PA X es t) (hs : starEach (e :: es) X.env = (false, eval e X.env) :: starEach es X.env := by rfl) : PA X (e :: es) (tCons te t) := by
  intro pos pins s σ H Q I h
  rw [hs]
  show wpAny _ _ (spliced ((false, eval e X.env) :: backTo pos (starEach es X.env))) _ _ s
  refine Calls.spliced_cons (thn (ha pins s σ H _ I h) fun u s1 ⟨x, H1, I1, r1, q1⟩ => ?_)
  exact thn (hr pos pins s1 σ H1 _ I1 q1) fun us s2 ⟨xs, H2, I2, r2, q2⟩ => ⟨x :: xs, H2, I2, .cons r1 r2, q2⟩
noncomputable def tTup (t : TA) : TE := fun σ H Q => t σ H fun xs H1 => xs.length <= sizeLine /\ ∀ p, H1 p = none -> Q (.ref p) (upd H1 p (.tup xs))
noncomputable def tLst (t : TA) : TE := fun σ H Q => t σ H fun xs H1 => xs.length <= sizeLine /\ ∀ p, H1 p = none -> Q (.ref p) (upd H1 p (.lst xs))
theorem pe_tup {x1} (h : PA X es t) : PE X (.Tuple es x1 pos) (tTup t) := by
  intro pins s σ H Q I hq
  refine wpAny_Tuple_spliced (thn (h pos pins s σ H _ I hq) fun us s1 ⟨xs, H1, I1, r, z, q⟩ => ⟨by rw [<- r.length]; exact z, ?_⟩)
  have hf : H1 s1.heap.objs.size = none := I1.hok.fresh (Nat.le_refl _)
  refine ⟨.ref s1.heap.objs.size, upd H1 s1.heap.objs.size (.tup xs), I1.laid (t' := s1.toks) (fun b u e => Heap.get?_push_of_some _ e) (Nat.le_refl _) ?_, rfl, q _ hf⟩
  exact ⟨tupD_new z, us, r, ⟨_, Heap.get?_push_size _ rfl, rfl, _, rfl⟩⟩
theorem pe_lst (h : PA X es t) : PE X (.List es pos) (tLst t) := by
  intro pins s σ H Q I hq
  refine wpAny_List_spliced (thn (h pos pins s σ H _ I hq) fun us s1 ⟨xs, H1, I1, r, z, q⟩ => ⟨by rw [<- r.length]; exact z, ?_⟩)
  have hf : H1 s1.heap.objs.size = none := I1.hok.fresh (Nat.le_refl _)
  refine ⟨.ref s1.heap.objs.size, upd H1 s1.heap.objs.size (.lst xs), I1.laid (t' := s1.toks) (fun b u e => Heap.get?_push_of_some _ e) (Nat.le_refl _) ?_, rfl, q _ hf⟩
  exact ⟨z, us, 0, r, Heap.get?_push_size _ rfl⟩
end
noncomputable abbrev Sp := List V -> Hp -> VK -> XK -> Prop
noncomputable abbrev CXT := List Env -> Hp -> Shared -> XK -> Value -> Shared -> Prop
structure Env0 (P : Program) (w : World) (K : PySem.W.Frag) (mg : Str -> Option Value) (base : Heap) (A : Around) (outer : List Env) (s : Shared) (H : Hp) : Prop where
  frames : A.frames = some outer
  mod : Mod K mg base
  bs : ∀ b o, base.get? b = some o -> s.heap.get? b = some o /\ H b = none
  bsz : base.objs.size <= s.heap.objs.size
  funs : s.heap.FunFrames base outer
  frf : ∀ b ∈ frs outer, H b = none
  hok : HOk P w H s.heap
  bare : AllBare s.gens
noncomputable def CE (outer : List Env) (P : Program) (w : World) (H : Hp) (s : Shared) (Q : VK) (u : Value) (s' : Shared) : Prop :=
  ∃ v H', s'.os = s.os /\ AllBare s'.gens /\ Un (frs outer) [] H H' s.heap s'.heap /\ HOk P w H' s'.heap /\ RelV v u /\ Q v H'
noncomputable def CR (CX : CXT) (outer : List Env) (P : Program) (w : World) (H : Hp) (s : Shared) (Q : VK) (E : XK) (r : Result) (s' : Shared) : Prop :=
  match r with
  | .ok (.ret u) => CE outer P w H s Q u s'
  | .ok _ => False
  | .error e => CX outer H s E e s'
structure FnOk (P : Program) (w : World) (K : PySem.W.Frag) (mg : Str -> Option Value) (base : Heap) (CX : CXT) (k : Nat) (f : Addr) (fd : FuncData) (ps : List Str) (sp : Sp) : Prop where
  len : ∀ vs H Q E, sp vs H Q E -> vs.length = ps.length
  run : ∀ (A : Around) (outer : List Env) (s : Shared) (H : Hp) (args : Args) (us : List Value) (vs : List V) (Q : VK) (E : XK), Room k A -> Env0 P w K mg base A outer s H -> BindsTo s fd args (ps.zip us) -> Vals vs us -> sp vs H Q E ->
    codeAny (model P w) A (.call (.ref f) args) (CR CX outer P w H s Q E) s
theorem FnOk.mono {P : Program} {w : World} {K : PySem.W.Frag} {mg : Str -> Option Value} {base : Heap} {CX : CXT} {j k : Nat} {f : Addr} {fd : FuncData} {ps : List Str} {sp : Sp} (F : FnOk P w K mg base CX j f fd ps sp) (h : j <= k) :
    FnOk P w K mg base CX k f fd ps sp := ⟨F.len, fun A outer s H args us vs Q E hr => F.run A outer s H args us vs Q E (hr.mono h)⟩
section
variable {X : Cx} {pins : List (Addr × Obj)} {σ : St} {H : Hp} {s s' : Shared}
theorem Inv.env0 (I : Inv X pins σ H s) : Env0 X.prog X.w X.K X.mg X.base X.A X.stack s H :=
  ⟨I.ok.frames, I.ok.mod, I.bs, Nat.le_trans I.ok.bsz I.sz, I.stack, I.stkFree, I.hok, I.bare⟩
theorem Inv.after {Q : VK} {u : Value} (I : Inv X pins σ H s) (h : CE X.stack X.prog X.w H s Q u s') : EP X pins σ Q u s' := by
  obtain ⟨v, H', os, bare, un, hok, r, q⟩ := h
  obtain ⟨hh, g, d, t, os'⟩ := s'
  obtain rfl : os' = s.os := os
  exact ⟨v, H', I.call (h' := hh) (g' := g) (d' := d) (t' := t) (ch := []) un hok bare (fun b z => absurd z (by simp)), r, q⟩
end
noncomputable def tCall (sp : Sp) (dvs : List V) (E : XK) (t : TA) : TE := fun σ H Q => t σ H fun vs H1 => sp (vs ++ dvs) H1 Q E
noncomputable def Binds (K : PySem.W.Frag) (fd : FuncData) (ps : List Str) (ds : List Value) : Prop :=
  ∀ (s : Shared) (us : List Value), K.In s.heap -> (us ++ ds).length = ps.length -> BindsTo s fd ⟨us, []⟩ (ps.zip (us ++ ds))
theorem Binds.all {K : PySem.W.Frag} {fd : FuncData} {ps : List Str} (h : ∀ us : List Value, us.length = ps.length -> bindArgs fd ⟨us, []⟩ = pure (ps.zip us)) : Binds K fd ps [] := fun s us _ hl => by
  rw [List.append_nil] at hl ⊢
  exact .of_eq (h us hl)
noncomputable def Passes (CX : CXT) (X : Cx) (E : XK) : Prop := ∀ (pins : List (Addr × Obj)) (σ : St) (H : Hp) (s : Shared) (e : Value) (s' : Shared), Inv X pins σ H s -> CX X.stack H s E e s' -> X.xe e s'
section
variable {X : Cx} {CX : CXT} {k : Nat} {f C : Addr} {fd : FuncData} {ps : List Str} {sp : Sp} {dvs : List V} {ds : List Value} {E : XK} {x m : Str} {p pos apos : Pos} {e o : Expr} {es : List Expr} {ta : TE} {t : TA}
theorem run_fn {pins : List (Addr × Obj)} {σ : St} {H : Hp} {s : Shared} {Q : VK} {us : List Value} {vs : List V} (F : FnOk X.prog X.w X.K X.mg X.base CX k f fd ps sp) (hr : Room k X.A) (hb : Binds X.K fd ps ds) (hd : Vals dvs ds) (hx : Passes CX X E)
    (I : Inv X pins σ H s) (r : Vals vs us) (h : sp (vs ++ dvs) H Q E) : wpAny (model X.prog X.w) X.A (call (.ref f) us) (EP X pins σ Q) X.xe s := by
  have r2 : Vals (vs ++ dvs) (us ++ ds) := r.append hd
  have hl : (us ++ ds).length = ps.length := by rw [<- r2.length]; exact F.len _ _ _ _ h
  refine wpAny_call (codeAny_mono (F.run X.A X.stack s H ⟨us, []⟩ (us ++ ds) (vs ++ dvs) Q E hr I.env0 (hb s us I.kIn hl) r2 h) fun r s' hq => ?_)
  cases r with
  | error e => exact hx pins σ H s e s' I hq
  | ok fl =>
    cases fl with
    | ret u => exact I.after hq
    | next => exact False.elim hq
    | brk => exact False.elim hq
    | cont => exact False.elim hq
theorem pe_call (F : FnOk X.prog X.w X.K X.mg X.base CX k f fd ps sp) (hr : Room k X.A) (hg : Gl X x) (hm : X.mg x = some (.ref f)) (hk : PySem.W.keepIn X.K (.ref f) = true) (hb : Binds X.K fd ps ds) (hd : Vals dvs ds) (hx : Passes CX X E)
    (ha : PA X (e :: es) t) (hdb : (x == ("__debug__" : Str)) = false := by decide) (he : starEach (e :: es) X.env = (false, eval e X.env) :: starEach es X.env := by rfl) (hpl : (backTo pos (starEach es X.env)).any (·.1) = false := by rfl) :
    PE X (.Call (.Name x p) (e :: es) [] pos) (tCall sp dvs E t) := by
  intro pins s σ H Q I h
  refine wpAny_Call_Name_kw (ld_glob I hg hm ?_ hdb)
  refine PySem.W.callWith_K (h₀ := X.base) I.ok.mod.kin hk (thn (ha pos pins s σ H _ I h) fun us s1 ⟨vs, H1, I1, r, q⟩ => ⟨I1.kIn, ?_⟩) he hpl
  exact run_fn F hr hb hd hx I1 r q
end
section
variable {X : Cx} {CX : CXT} {k : Nat} {f C : Addr} {fd : FuncData} {ps ks : List Str} {sp : Sp} {E : XK} {x m : Str} {p pos apos kpos : Pos} {e o : Expr} {es : List Expr} {kws : List Keyword} {te ta : TE} {t tk : TA} {nm : Option Str}
variable {g : List Value -> List Value -> List Value} {gV : List V -> List V -> List V}
end
structure FnScope (N P : List Str) (sc : Scope) : Prop where
  kind : sc.kind = .function
  co : sc.isCoroutine = false
  gen : sc.isGenerator = false
  nd : N.Nodup
  pre : N.take P.length = P
  par : ∀ x ∈ P, sc.names.lookup x = some .local \/ sc.names.lookup x = some .cell
  nofree : ∀ y ∈ sc.names, y.2 ≠ .free
theorem bindL_out {kindOf : Str -> Option NameKind} {x : Str} : ∀ {binds : List (Str × Value)} {m : Str -> Option Value}, (∀ v, (x, v) ∉ binds) -> bindL kindOf binds m x = m x
  | [], _, _ => rfl
  | (n, v) :: r, m, h => by
    unfold bindL
    rw [bindL_out fun w hw => h w (List.mem_cons_of_mem _ hw)]
    split
    · have : x ≠ n := by rintro rfl; exact h v List.mem_cons_self
      simp [this]
    · rfl
theorem bindC_out {kindOf : Str -> Option NameKind} {x : Str} : ∀ {binds : List (Str × Value)} {m : Str -> Option Value}, (∀ v, (x, v) ∉ binds) -> bindC kindOf binds m x = m x
  | [], _, _ => rfl
  | (n, v) :: r, m, h => by
    unfold bindC
    rw [bindC_out fun w hw => h w (List.mem_cons_of_mem _ hw)]
    split
    · rfl
    · have : x ≠ n := by rintro rfl; exact h v List.mem_cons_self
      simp [this]
theorem bindL_get {kindOf : Str -> Option NameKind} {x : Str} {v : Value} : ∀ {P : List Str} {vs : List Value} {i : Nat} {m : Str -> Option Value}, P.Nodup -> P[i]? = some x -> vs[i]? = some v -> kindOf x = some .local ->
    bindL kindOf (P.zip vs) m x = some v
  | [], _, _, _, _, h, _, _ => by simp at h
  | _ :: _, [], _, _, _, _, h, _ => by simp at h
  | p :: P, w :: vs, 0, m, nd, h1, h2, hk => by
    simp at h1 h2; subst h1; subst h2
    show bindL kindOf ((p, w) :: P.zip vs) m p = _
    unfold bindL
    rw [bindL_out fun v hv => (List.nodup_cons.mp nd).1 (List.of_mem_zip hv).1, if_pos hk]
    simp
  | p :: P, w :: vs, i + 1, m, nd, h1, h2, hk => by
    show bindL kindOf ((p, w) :: P.zip vs) m x = _
    unfold bindL
    exact bindL_get (i := i) (List.nodup_cons.mp nd).2 (by simpa using h1) (by simpa using h2) hk
theorem bindC_get {kindOf : Str -> Option NameKind} {x : Str} {v : Value} : ∀ {P : List Str} {vs : List Value} {i : Nat} {m : Str -> Option Value}, P.Nodup -> P[i]? = some x -> vs[i]? = some v -> kindOf x ≠ some .local ->
    bindC kindOf (P.zip vs) m x = some v
  | [], _, _, _, _, h, _, _ => by simp at h
  | _ :: _, [], _, _, _, _, h, _ => by simp at h
  | p :: P, w :: vs, 0, m, nd, h1, h2, hk => by
    simp at h1 h2; subst h1; subst h2
    show bindC kindOf ((p, w) :: P.zip vs) m p = _
    unfold bindC
    rw [bindC_out fun v hv => (List.nodup_cons.mp nd).1 (List.of_mem_zip hv).1, if_neg hk]
    simp
  | p :: P, w :: vs, i + 1, m, nd, h1, h2, hk => by
    show bindC kindOf ((p, w) :: P.zip vs) m x = _
    unfold bindC
    exact bindC_get (i := i) (List.nodup_cons.mp nd).2 (by simpa using h1) (by simpa using h2) hk
noncomputable def start (N : List Str) (vs : List V) : St := vs.map some ++ List.replicate (N.length - vs.length) none
noncomputable def cxOf (CX : CXT) (P : Program) (w : World) (K : PySem.W.Frag) (mg : Str -> Option Value) (base : Heap) (N : List Str) (qual : Str) (scope : Scope) (f : Addr) (cd : Value) (A : Around) (outer : List Env) (s : Shared) (H : Hp) (E : XK) : Cx where
  prog := P
  w := w
  K := K
  mg := mg
  base := base
  A := A.deeper (envOfC qual scope s.heap.objs.size f cd)
  N := N
  s₀ := s
  H₀ := H
  env := envOfC qual scope s.heap.objs.size f cd
  outer := outer
  stack := envOfC qual scope s.heap.objs.size f cd :: outer
  ex := []
  calm := true
  fn := fun _ => true
  pn := []
  xe := fun e s' => wpAny (model P w) (A.deeper (envOfC qual scope s.heap.objs.size f cd)) (leaving (envOfC qual scope s.heap.objs.size f cd) e) (fun _ s'' => CX outer H s E e s'') (fun e' s'' => CX outer H s E e' s'') s'
theorem cell_has {sc : Scope} {n : Nat} {x : Str} (h : sc.names.lookup x = some .cell) : ∃ c, (cellsFrom n sc.names []).lookup x = some c := by
  have q := PySem.W.cellsFrom_some sc.names n [] (.inl h)
  exact Option.isSome_iff_exists.mp q
theorem inv_start {CX : CXT} {P : Program} {w : World} {K : PySem.W.Frag} {mg : Str -> Option Value} {base : Heap} {N ps : List Str} {qual : Str} {scope : Scope} {f : Addr} {cd : Value} {A : Around} {outer : List Env} {s s1 : Shared} {H : Hp} {E : XK} {us : List Value} {vs : List V}
    (S : FnScope N ps scope) (hd : A.handled = none) (e0 : Env0 P w K mg base A outer s H) (hl : vs.length = ps.length) (r : Vals vs us)
    (x : InCallC s s.heap.objs.size (bindL (envOfC qual scope s.heap.objs.size f cd).kindOf (ps.zip us) fun _ => none) (cellsFrom (s.heap.objs.size + 1) scope.names []) (bindC (envOfC qual scope s.heap.objs.size f cd).kindOf (ps.zip us) fun _ => none) s1) :
    Inv (cxOf CX P w K mg base N qual scope f cd A outer s H E) [] (start N vs) H s1 := by
  have hpl : ps.length <= N.length := by have := congrArg List.length S.pre; rw [List.length_take] at this; lia
  obtain ⟨h1, tk, rfl, hk⟩ := x.done
  have noA : ∀ b : Addr, b ∉ (cxOf CX P w K mg base N qual scope f cd A outer s H E).ex := fun b z => absurd (show b ∈ ([] : List Addr) from z) (by simp)
  refine ⟨⟨e0.mod, S.kind, rfl, rfl, Nat.le_refl _, fun y z c h1 h2 => ?_, fun y hy => ?_, fun y c _ h => ?_, fun _ => hd, Around.frames_deeper e0.frames, .inr ⟨rfl, rfl⟩, fun b z => absurd z (noA b), e0.bs, e0.bsz, fun b _ _ => noA b, fun b z => absurd z (noA b), e0.funs, e0.frf⟩,
    rfl, e0.bare, Un.kept hk, ⟨_, x.toInCall.ns, fun i y v h1 h2 h3 => ?_⟩, fun y c h => ⟨_, x.cell y c h⟩, e0.hok.fresh (Nat.le_refl _), fun y c h => ?_, fun p hp => absurd (show p ∈ ([] : List (Addr × Obj)) from hp) (by simp), e0.hok.kept hk, ?_⟩
  · exact name_of_addr x.apart (PySem.mem_of_lookup h1) (PySem.mem_of_lookup h2)
  · have hy : scope.names.lookup y = some .cell \/ scope.names.lookup y = some .free := hy
    rcases hy with hy | hy
    · exact cell_has hy
    · exact absurd rfl (S.nofree _ (PySem.mem_of_lookup hy))
  · exact Nat.le_of_lt (x.above y c (PySem.mem_of_lookup h))
  · have hi : i < vs.length := by
      unfold start at h2
      by_cases hi : i < vs.length
      · exact hi
      · rw [List.getElem?_append_right (by simpa using hi)] at h2
        rw [List.getElem?_replicate] at h2
        split at h2 <;> cases h2
    have ha : vs[i]? = some v := by
      unfold start at h2
      rw [List.getElem?_append_left (by simpa using hi), List.getElem?_map] at h2
      cases e : vs[i]? with
      | none => rw [e] at h2; cases h2
      | some a => rw [e] at h2; cases h2; rfl
    obtain ⟨u, hu, rv⟩ := r.get ha
    have hp : ps[i]? = some y := by
      rw [<- S.pre, List.getElem?_take_of_lt (by lia)]; exact h1
    have ndP : ps.Nodup := by rw [<- S.pre]; exact S.nd.sublist (List.take_sublist _ _)
    refine ⟨u, rv, ?_⟩
    rcases S.par y (List.mem_of_getElem? hp) with k | k
    · exact .inl ⟨k, bindL_get ndP hp hu k⟩
    · obtain ⟨c, e⟩ := cell_has (n := s.heap.objs.size + 1) k
      refine .inr ⟨.inl k, c, e, ?_⟩
      have q := x.cell y c e
      rw [bindC_get ndP hp hu (by show scope.names.lookup y ≠ _; rw [k]; decide)] at q
      exact q
  · exact e0.hok.fresh (Nat.le_of_lt (x.above y c (PySem.mem_of_lookup h)))
  · unfold start
    show _ = N.length
    rw [List.length_append, List.length_map, List.length_replicate]
    lia
theorem fn_of {CX : CXT} {P : Program} {w : World} {K : PySem.W.Frag} {mg : Str -> Option Value} {base : Heap} {k : Nat} {f : Addr} {name qual : Str} {params : Arguments} {body : List Stmt} {scope : Scope} {dV kV doc pm cdv ct oc : Value} {an od : Option Addr}
    {osl : Array (Option Value)} {N ps : List Str} {sp : Sp} (lk : K.lookup f = some ⟨oc, od, .func (PySem.W.fnOf name qual params body scope dV kV doc pm an cdv ct), osl⟩) (hcd : PySem.W.codeIn K cdv qual = true) (S : FnScope N ps scope)
    (len : ∀ vs H Q E, sp vs H Q E -> vs.length = ps.length)
    (hbody : ∀ (A : Around) (outer : List Env) (s : Shared) (H : Hp) (vs : List V) (Q : VK) (E : XK), Room k (A.deeper (envOfC qual scope s.heap.objs.size f cdv)) -> sp vs H Q E ->
      ∃ t, PSs (cxOf CX P w K mg base N qual scope f cdv A outer s H E) body t /\ t { nx := fun _ H' => Q .non H', rt := Q } (start N vs) H) :
    FnOk P w K mg base CX (k + 1) f (PySem.W.fnOf name qual params body scope dV kV doc pm an cdv ct) ps sp := by
  refine ⟨len, fun A outer s H args us vs Q E hr e0 hb r hsp => ?_⟩
  have hl := len _ _ _ _ hsp
  have KX : K.In s.heap := e0.mod.kin.keeps fun b o e => (e0.bs b o e).1
  have lim : s.heap.NoLimit := e0.mod.nolimit.keeps fun b o e => (e0.bs b o e).1
  have hkind : ∀ y ∈ ps.zip us, scope.names.lookup y.1 = some .local \/ (scope.names.lookup y.1 = some .cell /\ ((cellsFrom (s.heap.objs.size + 1) scope.names []).lookup y.1).isSome = true) := fun ⟨n, v⟩ hy => by
    rcases S.par n (List.of_mem_zip hy).1 with q | q
    · exact .inl q
    · exact .inr ⟨q, PySem.W.cellsFrom_some _ _ _ (.inl q)⟩
  refine codeAny_call_function hr.depth (KX _ _ lk) rfl S.co S.gen rfl (PySem.W.codeRec_of KX hcd) (hb _ _ _ _ ?_)
  refine wpAny_newFunctionEnv_cells S.kind hkind fun env he s1 x => ?_
  subst he
  refine ⟨lim.keeps x.toInCall.keep, codeAny_func ?_⟩
  obtain ⟨t, ht, hq⟩ := hbody A outer s H vs Q E (hr.deeper _) hsp
  have I : Inv (cxOf CX P w K mg base N qual scope f cdv A outer s H E) [] (start N vs) H s1 := inv_start S hr.hd e0 hl r x
  refine wpAny_mono (ht [] s1 (start N vs) H _ I hq) (fun fl s' hs => ?_) fun e s' hs => hs
  have fin : ∀ {σ' : St} {H' : Hp} {v : V} {u : Value}, Inv (cxOf CX P w K mg base N qual scope f cdv A outer s H E) [] σ' H' s' -> RelV v u -> Q v H' -> CE outer P w H s Q u s' :=
    fun {σ' H' v u} J rv q => ⟨v, H', J.os, J.bare, J.base, J.hok, rv, q⟩
  cases fl with
  | ret u =>
    obtain ⟨v, σ', H', J, rv, q⟩ := hs
    exact fin J rv q
  | next =>
    obtain ⟨σ', H', J, q⟩ := hs
    exact fin (v := V.non) (u := Value.none) J rfl q
  | brk =>
    obtain ⟨_, _, _, q⟩ := hs
    exact False.elim q
  | cont =>
    obtain ⟨_, _, _, q⟩ := hs
    exact False.elim q
end L2
namespace L2
open PySem PySem.Spec PyProof.Rows
section
variable {X : Cx} {x : Str} {p pos : Pos} {e : Expr} {es : List Expr} {t : TA} {id T : String} {r : List V -> Hp -> VK -> Prop}
noncomputable def tCB (r : List V -> Hp -> VK -> Prop) (t : TA) : TE := fun σ H Q => t σ H fun vs H1 => r vs H1 Q
theorem pe_callB (hc : CallR X (.builtin id) r) (hg : Gl X x) (hm : X.mg x = none) (hv : bootBuiltins x = some (.builtin id)) (ha : PA X (e :: es) t) (hn : x ≠ "__name__" := by decide) (hdb : (x == ("__debug__" : Str)) = false := by decide)
    (he : starEach (e :: es) X.env = (false, eval e X.env) :: starEach es X.env := by rfl) (hpl : (backTo pos (starEach es X.env)).any (·.1) = false := by rfl) : PE X (.Call (.Name x p) (e :: es) [] pos) (tCB r t) := by
  intro pins s σ H Q I h
  refine wpAny_Call_Name_kw (ld_blt I hg hm hv ?_ hn hdb)
  exact PyProof.Rows.callWith_builtin1 (thn (ha pos pins s σ H _ I h) fun us s1 ⟨vs, H1, I1, r1, q1⟩ => hc pins s1 σ H1 vs us Q I1 r1 q1) he hpl
theorem pe_callTy (hc : CallR X (.type T) r) (hg : Gl X x) (hm : X.mg x = none) (hv : bootBuiltins x = some (.type T)) (ha : PA X (e :: es) t) (hn : x ≠ "__name__" := by decide) (hdb : (x == ("__debug__" : Str)) = false := by decide)
    (he : starEach (e :: es) X.env = (false, eval e X.env) :: starEach es X.env := by rfl) (hpl : (backTo pos (starEach es X.env)).any (·.1) = false := by rfl) : PE X (.Call (.Name x p) (e :: es) [] pos) (tCB r t) := by
  intro pins s σ H Q I h
  refine wpAny_Call_Name_kw (ld_blt I hg hm hv ?_ hn hdb)
  exact PyProof.Rows.callWith_type1 (thn (ha pos pins s σ H _ I h) fun us s1 ⟨vs, H1, I1, r1, q1⟩ => hc pins s1 σ H1 vs us Q I1 r1 q1) he hpl
end
end L2
namespace L2
open PySem PySem.Spec PyProof.Rows
section
variable {κ : Type} [DecidableEq κ]
noncomputable def valV (kvs : List (κ × V)) (k : κ) : Option V := (kvs.find? fun kv => decide (kv.1 = k)).map (·.2)
noncomputable def putK (kvs : List (κ × V)) (k : κ) (v : V) : List (κ × V) :=
  if (kvs.any fun kv => decide (kv.1 = k)) = true then kvs.map (fun kv => if kv.1 = k then (kv.1, v) else kv) else kvs ++ [(k, v)]
theorem valV_pos {p : κ × V} {r : List (κ × V)} {k : κ} (e : p.1 = k) : valV (p :: r) k = some p.2 := by simp [valV, List.find?_cons, e]
theorem valV_neg {p : κ × V} {r : List (κ × V)} {k : κ} (e : ¬ p.1 = k) : valV (p :: r) k = valV r k := by simp [valV, List.find?_cons, e]
theorem valV_any (k : κ) : ∀ kvs : List (κ × V), (kvs.any fun kv => decide (kv.1 = k)) = (valV kvs k).isSome
  | [] => rfl
  | p :: r => by
    rw [List.any_cons]
    by_cases e : p.1 = k
    · simp only [valV_pos e, decide_eq_true e, Bool.true_or, Option.isSome_some]
    · rw [valV_neg e, decide_eq_false e, Bool.false_or]; exact valV_any k r
theorem valV_map (k j : κ) (y : V) : ∀ kvs : List (κ × V), valV (kvs.map fun kv => if kv.1 = k then (kv.1, y) else kv) j = (valV kvs j).map fun x => if j = k then y else x
  | [] => rfl
  | p :: r => by
    have ih := valV_map k j y r
    rw [List.map_cons]
    by_cases h : p.1 = k
    · rw [if_pos h]
      by_cases e : p.1 = j
      · rw [valV_pos (p := (p.1, y)) e, valV_pos e, Option.map_some, if_pos (e.symm.trans h)]
      · rw [valV_neg (p := (p.1, y)) e, valV_neg e, ih]
    · rw [if_neg h]
      by_cases e : p.1 = j
      · rw [valV_pos (p := p) e, valV_pos e, Option.map_some, if_neg (fun z => h (e.trans z))]
      · rw [valV_neg (p := p) e, valV_neg e, ih]
theorem valV_snoc (k j : κ) (y : V) : ∀ kvs : List (κ × V), valV kvs k = none -> valV (kvs ++ [(k, y)]) j = if j = k then some y else valV kvs j
  | [], _ => by
    by_cases e : k = j
    · rw [if_pos e.symm]; exact valV_pos (p := (k, y)) e
    · rw [if_neg (fun z => e z.symm)]; exact valV_neg (p := (k, y)) e
  | p :: r, hn => by
    rw [List.cons_append]
    have hk : ¬ p.1 = k := fun z => by rw [valV_pos z] at hn; cases hn
    rw [valV_neg hk] at hn
    have ih := valV_snoc k j y r hn
    by_cases e : p.1 = j
    · rw [valV_pos e, valV_pos e, if_neg (fun z => hk (e.trans z))]
    · rw [valV_neg e, valV_neg e, ih]
theorem valV_put (kvs : List (κ × V)) (k j : κ) (y : V) : valV (putK kvs k y) j = if j = k then some y else valV kvs j := by
  unfold putK
  by_cases a : (kvs.any fun kv => decide (kv.1 = k)) = true
  · rw [if_pos a, valV_map]
    rw [valV_any] at a
    by_cases e : j = k
    · obtain ⟨x, hx⟩ := Option.isSome_iff_exists.mp a
      rw [if_pos e, e, hx, Option.map_some, if_pos rfl]
    · rw [if_neg e]
      cases valV kvs j with
      | none => rfl
      | some x => rw [Option.map_some, if_neg e]
  · rw [if_neg a]
    refine valV_snoc k j y kvs ?_
    rw [valV_any] at a
    cases q : valV kvs k with
    | none => rfl
    | some x => rw [q] at a; exact (a rfl).elim
theorem length_putK (kvs : List (κ × V)) (k : κ) (v : V) : (putK kvs k v).length <= kvs.length + 1 := by
  unfold putK
  split
  · rw [List.length_map]; lia
  · rw [List.length_append, List.length_cons, List.length_nil]; lia
theorem RelO.isSome_eq {o : Option V} {u : Option Value} (r : RelO o u) : o.isSome = u.isSome := by
  cases o with
  | none => cases u with
    | none => rfl
    | some _ => exact (show False from r).elim
  | some _ => cases u with
    | none => exact (show False from r).elim
    | some _ => rfl
theorem RelO.getD {o : Option V} {u : Option Value} {d : V} {d' : Value} (r : RelO o u) (rd : RelV d d') : RelV (o.getD d) (u.getD d') := by
  cases o with
  | none => cases u with
    | none => exact rd
    | some _ => exact (show False from r).elim
  | some _ => cases u with
    | none => exact (show False from r).elim
    | some _ => exact r
theorem KV.val {kvs : List (κ × V)} {vs : List (κ × Value)} (r : KV kvs vs) (k : κ) : RelO (valV kvs k) (valueAt vs k) := by
  unfold KV at r
  induction r with
  | nil => exact True.intro
  | @cons p q ps qs h t ih =>
    obtain ⟨h1, h2⟩ := h
    by_cases e : p.1 = k
    · have e' : q.1 = k := h1.symm.trans e
      have b : valueAt (q :: qs) k = some q.2 := by simp [valueAt, List.find?_cons, e']
      rw [valV_pos e, b]; exact h2
    · have e' : ¬ q.1 = k := fun z => e (h1.trans z)
      have b : valueAt (q :: qs) k = valueAt qs k := by simp [valueAt, List.find?_cons, e']
      rw [valV_neg e, b]; exact ih
theorem KV.any {kvs : List (κ × V)} {vs : List (κ × Value)} (r : KV kvs vs) (k : κ) : (kvs.any fun kv => decide (kv.1 = k)) = vs.any fun kv => decide (kv.1 = k) := by
  unfold KV at r
  induction r with
  | nil => rfl
  | cons h t ih => rw [List.any_cons, List.any_cons, ih, h.1]
theorem KV.repl {kvs : List (κ × V)} {vs : List (κ × Value)} (r : KV kvs vs) (k : κ) {y : V} {u : Value} (ry : RelV y u) :
    KV (kvs.map fun kv => if kv.1 = k then (kv.1, y) else kv) (vs.map fun kv => if kv.1 = k then (kv.1, u) else kv) := by
  unfold KV at r ⊢
  induction r with
  | nil => exact .nil
  | @cons p q ps qs h t ih =>
    rw [List.map_cons, List.map_cons]
    refine .cons ?_ ih
    obtain ⟨h1, h2⟩ := h
    by_cases e : p.1 = k
    · rw [if_pos e, if_pos (h1.symm.trans e)]; exact ⟨h1, ry⟩
    · rw [if_neg e, if_neg (fun z => e (h1.trans z))]; exact ⟨h1, h2⟩
theorem KV.put {kvs : List (κ × V)} {vs : List (κ × Value)} (r : KV kvs vs) (k : κ) {y : V} {u : Value} (ry : RelV y u) : KV (putK kvs k y) (stored vs k u) := by
  unfold putK stored
  rw [r.any k]
  by_cases e : (vs.any fun kv => decide (kv.1 = k)) = true
  · rw [if_pos e, if_pos e]; exact r.repl k ry
  · rw [if_neg e, if_neg e]; exact Paired.snoc r ⟨rfl, ry⟩
theorem KV.length {kvs : List (κ × V)} {vs : List (κ × Value)} (r : KV kvs vs) : kvs.length = vs.length := Paired.length r
end
theorem kV_is {P : Program} {w : World} {k : Key} {u : Value} (r : RelV (kV k) u) : (mixKind P w).is k u = true := by
  cases k with
  | inl i => obtain ⟨t, e⟩ := (show ∃ t, u = Value.int i t from r); subst e; exact mixKind_int P w i t
  | inr x => obtain ⟨t, e⟩ := (show ∃ t, u = Value.str x t from r); subst e; exact mixKind_str P w x t
theorem items_are {P : Program} {w : World} : ∀ {ks : List Key} {us : List Value}, Vals (ks.map kV) us -> ItemsAre (mixKind P w) ks us
  | [], _, r => by rw [List.map_nil] at r; cases r; exact .nil
  | k :: ks, _, r => by
    rw [List.map_cons] at r
    cases r with
    | cons h t => exact .cons (kV_is h) (items_are t)
noncomputable abbrev KT (H : Hp) : List (List Key × V) -> List (List Key × Addr × Value) -> Prop := Paired fun p q => p.1 = q.1 /\ H q.2.1 = some (.tup (p.1.map kV)) /\ RelV p.2 q.2.2
theorem KT.val {H : Hp} {kvs : List (List Key × V)} {xs : List (List Key × Addr × Value)} (r : KT H kvs xs) (k : List Key) : RelO (valV kvs k) ((atKey xs k).map (·.2)) := by
  induction r with
  | nil => exact True.intro
  | @cons p q ps qs h t ih =>
    obtain ⟨h1, _, h2⟩ := h
    by_cases e : p.1 = k
    · have e' : q.1 = k := h1.symm.trans e
      have b : atKey (q :: qs) k = some q.2 := by simp [atKey, List.find?_cons, e']
      rw [valV_pos e, b]; exact h2
    · have e' : ¬ q.1 = k := fun z => e (h1.trans z)
      have b : atKey (q :: qs) k = atKey qs k := by simp [atKey, List.find?_cons, e']
      rw [valV_neg e, b]; exact ih
theorem KT.repl {H : Hp} {kvs : List (List Key × V)} {xs : List (List Key × Addr × Value)} (r : KT H kvs xs) (k : List Key) {y : V} {u : Value} (ry : RelV y u) :
    KT H (kvs.map fun kv => if kv.1 = k then (kv.1, y) else kv) (xs.map (putAt k u)) := by
  induction r with
  | nil => exact .nil
  | @cons p q ps qs h t ih =>
    rw [List.map_cons, List.map_cons]
    refine .cons ?_ ih
    obtain ⟨h1, h2, h3⟩ := h
    unfold putAt
    by_cases e : p.1 = k
    · rw [if_pos e, if_pos (h1.symm.trans e)]; exact ⟨h1, h2, ry⟩
    · rw [if_neg e, if_neg (fun z => e (h1.trans z))]; exact ⟨h1, h2, h3⟩
theorem KT.put {H : Hp} {kvs : List (List Key × V)} {xs : List (List Key × Addr × Value)} (r : KT H kvs xs) (k : List Key) {b : Addr} {y : V} {u : Value} (hb : H b = some (.tup (k.map kV))) (ry : RelV y u) :
    KT H (putK kvs k y) (storedH xs k b u) := by
  have e : (kvs.any fun kv => decide (kv.1 = k)) = (atKey xs k).isSome := by
    rw [valV_any, (r.val k).isSome_eq, Option.isSome_map]
  unfold putK storedH
  rw [e]
  by_cases q : (atKey xs k).isSome = true
  · rw [if_pos q, if_pos q]; exact r.repl k ry
  · rw [if_neg q, if_neg q]; exact Paired.snoc r ⟨rfl, hb, ry⟩
theorem KT.keeps {H H' : Hp} {kvs : List (List Key × V)} {xs : List (List Key × Addr × Value)} (r : KT H kvs xs) (ht : ∀ b ys, H b = some (.tup ys) -> H' b = some (.tup ys)) : KT H' kvs xs :=
  Paired.mapP r fun _ _ z => ⟨z.1, ht _ _ z.2.1, z.2.2⟩
section
variable {P : Program} {w : World} {H : Hp} {h : Heap} {a : Addr}
theorem rd_of {u : HO} (ok : HOk P w H h) (e : Rd H a u) : ObjOk P w H h a u := e.ok ok
theorem dk_rd {kvs : List (Key × V)} (ok : HOk P w H h) (e : Rd H a (.dK kvs)) : kvs.length <= sizeLine /\ (a == sysModules) = false /\ ∃ vs, KV kvs vs /\ h.DictOf (mixKind P w) a vs :=
  show ObjOk P w H h a (.dK kvs) from rd_of ok e
theorem dk_of {kvs : List (Key × V)} (ok : HOk P w H h) (e : H a = some (.dK kvs)) : kvs.length <= sizeLine /\ (a == sysModules) = false /\ ∃ vs, KV kvs vs /\ h.DictOf (mixKind P w) a vs := dk_rd ok (.inl e)
theorem key_of {ks : List Key} (ok : HOk P w H h) (e : H a = some (.tup (ks.map kV))) : (tupleKind (mixKind P w)).is h ks a := by
  obtain ⟨_, its, r, o, h1, h2, n, h3⟩ := (show ObjOk P w H h a (.tup (ks.map kV)) from ok a _ e)
  exact ⟨o, its.toArray, n, h1, h2, h3, by simpa using items_are r⟩
theorem dt_rd {kvs : List (List Key × V)} (ok : HOk P w H h) (e : Rd H a (.dT kvs)) : kvs.length <= sizeLine /\ (a == sysModules) = false /\
    ∃ xs, KT H kvs xs /\ h.DictOfH (tupleKind (mixKind P w)) a xs := by
  obtain ⟨z, y, xs, r, o, es, ep, h1, h2, h3, h4, h5⟩ := (show ObjOk P w H h a (.dT kvs) from rd_of ok e)
  refine ⟨z, y, xs, r, o, es, ep, h1, h2, h3, h4, fun x hx => ?_, h5⟩
  have all : ∀ {l : List (List Key × V)} {m : List (List Key × Addr × Value)}, KT H l m -> ∀ x ∈ m, (tupleKind (mixKind P w)).is h x.1 x.2.1 := by
    intro l m q
    induction q with
    | nil => intro x hx; exact nomatch hx
    | @cons p q ps qs hq t ih =>
      intro x hx
      rcases List.mem_cons.mp hx with e | hx
      · subst e
        exact key_of ok (by rw [<- hq.1]; exact hq.2.1)
      · exact ih x hx
  exact all r x hx
theorem dt_of {kvs : List (List Key × V)} (ok : HOk P w H h) (e : H a = some (.dT kvs)) : kvs.length <= sizeLine /\ (a == sysModules) = false /\
    ∃ xs, KT H kvs xs /\ h.DictOfH (tupleKind (mixKind P w)) a xs := dt_rd ok (.inl e)
end
noncomputable def DGet (H : Hp) (a : Addr) (y : V) (r : Option V) : Prop :=
  (∃ kvs k, Rd H a (.dK kvs) /\ y = kV k /\ r = valV kvs k) \/ ∃ kvs k b, Rd H a (.dT kvs) /\ y = .ref b /\ H b = some (.tup (k.map kV)) /\ r = valV kvs k
noncomputable def DPut (H : Hp) (a : Addr) (y v : V) (H' : Hp) : Prop :=
  (∃ kvs k, H a = some (.dK kvs) /\ y = kV k /\ kvs.length < sizeLine /\ H' = upd H a (.dK (putK kvs k v))) \/
  ∃ kvs k b, H a = some (.dT kvs) /\ y = .ref b /\ H b = some (.tup (k.map kV)) /\ kvs.length < sizeLine /\ H' = upd H a (.dT (putK kvs k v))
theorem DGet.k {H : Hp} {a : Addr} {kvs : List (Key × V)} {k : Key} (e : H a = some (.dK kvs)) : DGet H a (kV k) (valV kvs k) := .inl ⟨kvs, k, .inl e, rfl, rfl⟩
section
variable {X : Cx} {pins : List (Addr × Obj)} {σ : St} {H : Hp} {s : Shared} {a : Addr} {y v : V} {u r : Value} {o : Option V} {A : Around} {E : Value -> Shared -> Prop}
theorem Inv.big (I : Inv X pins σ H s) : sysModules < s.heap.objs.size := by
  have h : mainGlobals < s.heap.objs.size := (I.mod.glob.keeps I.bk).lt
  exact Nat.lt_trans (by decide) h
theorem d_getItem {Q : Value -> Shared -> Prop} (hu : A.units + 1 < cLine) (I : Inv X pins σ H s) (g : DGet H a y (some v)) (ry : RelV y u) (h : ∀ w' s', Inv X pins σ H s' -> RelV v w' -> Q w' s') :
    wpAny (model X.prog X.w) A (getItem (.ref a) u) Q E s := by
  rcases g with ⟨kvs, k, e, ey, l⟩ | ⟨kvs, k, b, e, ey, eb, l⟩
  · subst ey
    obtain ⟨z, hd, vs, rel, dd⟩ := dk_rd I.hok e
    obtain ⟨w', hw, rw'⟩ := RelO.some_of (v := v) (o := valueAt vs k) (by rw [l]; exact rel.val k)
    exact wpAny_getItem_of (kV_is ry) dd.mapOf hw (h w' _ (I.tok _) rw')
  · subst ey
    cases (show u = Value.ref b from ry)
    obtain ⟨z, hd, xs, rel, dd⟩ := dt_rd I.hok e
    obtain ⟨w', hw, rw'⟩ := RelO.some_of (v := v) (o := (atKey xs k).map (·.2)) (by rw [l]; exact rel.val k)
    obtain ⟨p, hp, hp2⟩ := Option.map_eq_some_iff.mp hw
    refine wpAny_getItem_heap (tupleKind_room_in1 hu) (key_of I.hok eb) dd hp ?_
    rw [hp2]
    exact h w' _ (I.tok _) rw'
theorem d_write {h' : Heap} {t' : Nat} {ob : HO} (I : Inv X pins σ H s) (mu : Mut (H a)) (hs : Heap.SameBut a s.heap h') (he : ∃ q, h'.get? a = some q) (new : ObjOk X.prog X.w (upd H a ob) h' a ob) :
    Inv X pins σ (upd H a ob) { s with heap := h', toks := t' } :=
  I.write (x := a) (e := a) mu (.inl rfl) (fun b q hb z => (hs.2 b hb).trans z) he new
theorem dk_new {P : Program} {w : World} {H' : Hp} {h' : Heap} {kvs : List (Key × V)} {vs : List (Key × Value)} (z : kvs.length <= sizeLine) (hd : (a == sysModules) = false) (rel : KV kvs vs) (dd : h'.DictOf (mixKind P w) a vs) :
    ObjOk P w H' h' a (.dK kvs) := ⟨z, hd, vs, rel, dd⟩
theorem d_setItem {H' : Hp} {Q : Unit -> Shared -> Prop} (hu : A.units + 1 < cLine) (I : Inv X pins σ H s) (g : DPut H a y v H') (ry : RelV y u) (rv : RelV v r) (h : ∀ s', Inv X pins σ H' s' -> Q () s') :
    wpAny (model X.prog X.w) A (setItem (.ref a) u r) Q E s := by
  rcases g with ⟨kvs, k, e, ey, l, eH⟩ | ⟨kvs, k, b, e, ey, eb, l, eH⟩
  · subst ey eH
    obtain ⟨z, hd, vs, rel, dd⟩ := dk_of I.hok e
    have hz : vs.length <= sizeLine := by rw [<- rel.length]; exact z
    have hl : (putK kvs k v).length <= sizeLine := by have := length_putK kvs k v; lia
    refine wpAny_setItem_pairs (hsz := hz) (kV_is ry) dd fun h' dd' hs => h _ ?_
    have he : ∃ q, h'.get? a = some q := let ⟨q, _, _, hq, _⟩ := dd'; ⟨q, hq⟩
    exact d_write I (by rw [e]; exact True.intro) hs he (dk_new hl hd (rel.put k rv) dd')
  · subst ey eH
    cases (show u = Value.ref b from ry)
    obtain ⟨z, hd, xs, rel, dd⟩ := dt_of I.hok e
    have hz : xs.length <= sizeLine := by rw [<- Paired.length rel]; exact z
    have hl : (putK kvs k v).length <= sizeLine := by have := length_putK kvs k v; lia
    refine wpAny_setItem_heap (hsz := hz) (tupleKind_room_in1 hu) (key_of I.hok eb) dd fun h' dd' hs => h _ ?_
    obtain ⟨q, es, ep, hq, h2, h3, h4, _, h5⟩ := dd'
    refine d_write I (by rw [e]; exact True.intro) hs ⟨q, hq⟩ ⟨hl, hd, _, (rel.put k eb rv).keeps fun c ys ec => ?_, q, es, ep, hq, h2, h3, h4, h5⟩
    rw [upd_ne (ne_of ec e (fun z => nomatch z))]
    exact ec
end
section
variable {X : Cx} {pins : List (Addr × Obj)} {σ : St} {H : Hp} {s : Shared} {a : Addr} {kvs : List (Key × V)} {k : Key} {u : Value} {A : Around} {E : Value -> Shared -> Prop}
end
theorem dict_typeIs {X : Cx} {pins : List (Addr × Obj)} {σ : St} {H : Hp} {s : Shared} {a : Addr} {y : V} {o : Option V} (I : Inv X pins σ H s) (g : DGet H a y o) : s.TypeIs (.ref a) "dict" := by
  rcases g with ⟨kvs, k, e, _, _⟩ | ⟨kvs, k, b, e, _, _, _⟩
  · obtain ⟨_, _, vs, _, dd⟩ := dk_rd I.hok e
    exact dd.typeIs
  · obtain ⟨_, _, xs, _, dd⟩ := dt_rd I.hok e
    exact dd.typeIs
section
variable {X : Cx} {o i e value : Expr} {pos pos' tpos : Pos} {td ty tv : TE}
end
section
variable {X : Cx} {pos : Pos}
end
structure M1 (X : Cx) (o : Expr) (m : Str) (apos : Pos) (e : Expr) (cpos : Pos) : Prop where
  base : attributeBase o m X.env (eval o X.env) = eval o X.env
  few : ((backTo cpos (starEach [e] X.env)).all (fun x => !x.1) && (backToKw cpos (keywordEach [] X.env)).all (fun x => x.1.isSome)
    && decide (([e] : List Expr).length + ([] : List Keyword).length + (if ([] : List Keyword).isEmpty then 0 else 1) < 30)) = true
  line : (apos.endLine == cpos.line) = true
  trees : backTo cpos (starEach [e] X.env) = [(false, eval e X.env)]
structure M2 (X : Cx) (o : Expr) (m : Str) (apos : Pos) (e f : Expr) (cpos : Pos) : Prop where
  base : attributeBase o m X.env (eval o X.env) = eval o X.env
  few : ((backTo cpos (starEach [e, f] X.env)).all (fun x => !x.1) && (backToKw cpos (keywordEach [] X.env)).all (fun x => x.1.isSome)
    && decide (([e, f] : List Expr).length + ([] : List Keyword).length + (if ([] : List Keyword).isEmpty then 0 else 1) < 30)) = true
  line : (apos.endLine == cpos.line) = true
  trees : backTo cpos (starEach [e, f] X.env) = [(false, eval e X.env), (false, eval f X.env)]
noncomputable def IsD (H : Hp) (a : Addr) : Prop := (∃ kvs, Rd H a (.dK kvs)) \/ ∃ kvs, Rd H a (.dT kvs)
theorem isD_at {X : Cx} {pins : List (Addr × Obj)} {σ : St} {H : Hp} {s : Shared} {a : Addr} (I : Inv X pins σ H s) (d : IsD H a) :
    s.TypeIs (.ref a) "dict" /\ (∀ b, Value.ref a = .ref b -> ∃ ob, s.heap.get? b = some ob /\ ob.dict = none) /\ (a == sysModules) = false := by
  rcases d with ⟨kvs, e⟩ | ⟨kvs, e⟩
  · obtain ⟨_, hd, vs, _, dd⟩ := dk_rd I.hok e
    refine ⟨dd.typeIs, fun b q => ?_, hd⟩
    cases q
    obtain ⟨ob, _, _, h1, h2, _⟩ := dd
    exact ⟨ob, h1, h2.2.1⟩
  · obtain ⟨_, hd, xs, _, dd⟩ := dt_rd I.hok e
    refine ⟨dd.typeIs, fun b q => ?_, hd⟩
    cases q
    obtain ⟨ob, _, _, h1, h2, _⟩ := dd
    exact ⟨ob, h1, h2.2.1⟩
section
variable {X : Cx} {pins : List (Addr × Obj)} {σ : St} {H : Hp} {s : Shared} {a : Addr} {y d : V} {u r : Value} {o : Option V} {A : Around} {E : Value -> Shared -> Prop}
theorem d_get1 {Q : Value -> Shared -> Prop} (hu : A.units + 1 < cLine) (I : Inv X pins σ H s) (g : DGet H a y o) (ry : RelV y u) (h : ∀ w' s', Inv X pins σ H s' -> RelV (o.getD .non) w' -> Q w' s') :
    wpAny (model X.prog X.w) A (call (.builtin "dict.get") [.ref a, u]) Q E s := by
  rcases g with ⟨kvs, k, e, ey, l⟩ | ⟨kvs, k, b, e, ey, eb, l⟩
  · subst ey
    obtain ⟨z, hd, vs, rel, dd⟩ := dk_rd I.hok e
    refine call_meetsIn PySem.F.slot_dict_get dd.typeIs PySem.F.entry_dict_get (PySem.F.args_dict_get_2 _ _) (meets_dict_get (mixKind X.prog X.w) a (kV_is ry) hd) ⟨_, dd.mapOf, h _ _ (I.tok _) ?_⟩
    rw [l]
    exact (rel.val k).getD rfl
  · subst ey
    cases (show u = Value.ref b from ry)
    obtain ⟨z, hd, xs, rel, dd⟩ := dt_rd I.hok e
    refine call_meetsIn PySem.F.slot_dict_get dd.typeIs PySem.F.entry_dict_get (PySem.F.args_dict_get_2 _ _) (meetsH_dict_get (tupleKind (mixKind X.prog X.w)) a b hd) ⟨tupleKind_room_in1 hu, k, xs, key_of I.hok eb, dd, h _ _ (I.tok _) ?_⟩
    rw [l]
    exact (rel.val k).getD rfl
theorem d_get2 {Q : Value -> Shared -> Prop} (hu : A.units + 1 < cLine) (I : Inv X pins σ H s) (g : DGet H a y o) (ry : RelV y u) (rd : RelV d r) (h : ∀ w' s', Inv X pins σ H s' -> RelV (o.getD d) w' -> Q w' s') :
    wpAny (model X.prog X.w) A (call (.builtin "dict.get") [.ref a, u, r]) Q E s := by
  rcases g with ⟨kvs, k, e, ey, l⟩ | ⟨kvs, k, b, e, ey, eb, l⟩
  · subst ey
    obtain ⟨z, hd, vs, rel, dd⟩ := dk_rd I.hok e
    refine call_meetsIn PySem.F.slot_dict_get dd.typeIs PySem.F.entry_dict_get (PySem.F.args_dict_get_3 _ _ _) (meets_dict_get_default (mixKind X.prog X.w) a (kV_is ry) hd r) ⟨_, dd.mapOf, h _ _ (I.tok _) ?_⟩
    rw [l]
    exact (rel.val k).getD rd
  · subst ey
    cases (show u = Value.ref b from ry)
    obtain ⟨z, hd, xs, rel, dd⟩ := dt_rd I.hok e
    refine call_meetsIn PySem.F.slot_dict_get dd.typeIs PySem.F.entry_dict_get (PySem.F.args_dict_get_3 _ _ _) (meetsH_dict_get_default (tupleKind (mixKind X.prog X.w)) a b hd r) ⟨tupleKind_room_in1 hu, k, xs, key_of I.hok eb, dd, h _ _ (I.tok _) ?_⟩
    rw [l]
    exact (rel.val k).getD rd
end
noncomputable def tDGet1 (td ty : TE) : TE := fun σ H Q => td σ H fun x H1 => ∃ a, x = .ref a /\ IsD H1 a /\ ty σ H1 fun y H2 => ∃ o, DGet H2 a y o /\ Q (o.getD .non) H2
noncomputable def tDGet2 (td ty tx : TE) : TE := fun σ H Q => td σ H fun x H1 => ∃ a, x = .ref a /\ IsD H1 a /\ ty σ H1 fun y H2 => tx σ H2 fun z H3 => ∃ o, DGet H3 a y o /\ Q (o.getD z) H3
section
variable {X : Cx} {o e f : Expr} {apos cpos : Pos} {td ty tx : TE}
theorem pe_dget1 (hu : X.A.units + 1 < cLine) (ho : PE X o td) (he : PE X e ty) (m : M1 X o "get" apos e cpos) : PE X (.Call (.Attribute o "get" apos) [e] [] cpos) (tDGet1 td ty) := by
  intro pins s σ H Q I h
  refine wpAny_Call_method m.base m.few m.line PySem.F.plainAttrs_dict PySem.F.slot_dict_get PySem.F.type_dict_get (thn (ho pins s σ H _ I h) fun u s1 ⟨x, H1, I1, rx, a, ex, d, q1⟩ => ?_)
  subst ex
  obtain rfl : u = Value.ref a := rx
  obtain ⟨t1, t2, _⟩ := isD_at I1 d
  refine ⟨t1, t2, ?_⟩
  rw [m.trees]
  refine Calls.callWith_builtin rfl (Calls.evalArgs_plain (Calls.spliced_cons (thn (he pins s1 σ H1 _ I1 q1) fun iv s2 ⟨y, H2, I2, ry, ov, g, q2⟩ => Calls.spliced_nil ?_)))
  exact d_get1 hu I2 g ry fun w' s3 I3 rw' => ⟨_, H2, I3, rw', q2⟩
theorem pe_dget2 (hu : X.A.units + 1 < cLine) (ho : PE X o td) (he : PE X e ty) (hf : PE X f tx) (m : M2 X o "get" apos e f cpos) : PE X (.Call (.Attribute o "get" apos) [e, f] [] cpos) (tDGet2 td ty tx) := by
  intro pins s σ H Q I h
  refine wpAny_Call_method m.base m.few m.line PySem.F.plainAttrs_dict PySem.F.slot_dict_get PySem.F.type_dict_get (thn (ho pins s σ H _ I h) fun u s1 ⟨x, H1, I1, rx, a, ex, d, q1⟩ => ?_)
  subst ex
  obtain rfl : u = Value.ref a := rx
  obtain ⟨t1, t2, _⟩ := isD_at I1 d
  refine ⟨t1, t2, ?_⟩
  rw [m.trees]
  refine Calls.callWith_builtin rfl (Calls.evalArgs_plain (Calls.spliced_cons (thn (he pins s1 σ H1 _ I1 q1) fun iv s2 ⟨y, H2, I2, ry, q2⟩ =>
    Calls.spliced_cons (thn (hf pins s2 σ H2 _ I2 q2) fun fv s3 ⟨z, H3, I3, rz, ov, g, q3⟩ => Calls.spliced_nil ?_))))
  exact d_get2 hu I3 g ry rz fun w' s4 I4 rw' => ⟨_, H3, I4, rw', q3⟩
end
section
variable {X : Cx} {pins : List (Addr × Obj)} {σ : St} {H : Hp} {s : Shared} {a : Addr} {kvs : List (Key × V)} {A : Around} {E : Value -> Shared -> Prop}
end
section
variable {X : Cx} {pins : List (Addr × Obj)} {σ : St} {H : Hp} {s : Shared} {a : Addr} {y : V} {u : Value} {A : Around} {E : Value -> Shared -> Prop}
end
end L2
namespace HT
open PySem PyProof.Rows
theorem rcLt_int (A : Around) (s : Shared) (a : Int) (t : Tok) (c : Int) (u : Tok) (prog : Program) (w : World) (E : Value -> Shared -> Prop) (Q : Value -> Shared -> Prop) (h : Q (.bool (decide (a < c))) s) :
    wpAny (model prog w) A (richCompare .Lt (.int a t) (.int c u)) Q E s :=
  (PyProof.Rows.lt_int h : wpAny (model prog w) A (compareOp .Lt (.int a t) (.int c u)) Q E s)
section
open PySem.SeqAt
open PySem.AutoSeq1 (wpAny_loadPart')
open PySem.MeetsSeq PySem.MeetsSeq2 PySem.MeetsSeq3
end
section
variable {prog : Program} {w : World} {A : Around} {E : Value -> Shared -> Prop} {s : Shared}
theorem cat_tup {t b : Addr} {vs ws : List Value} {Q : Value -> Shared -> Prop} (ht : IsTup s.heap t vs.toArray) (hb : IsTup s.heap b ws.toArray) (hv : vs ≠ [])
    (h1 : ws = [] -> Q (.ref t) s) (h2 : ws ≠ [] -> Q (.ref s.heap.objs.size) { s with heap := s.heap.push { cls := .type "tuple", data := .seq (vs ++ ws).toArray } })
    (hsz : vs.length + ws.length <= sizeLine) : wpAny (model prog w) A (binaryOp .Add (.ref t) (.ref b)) Q E s := by
  obtain ⟨⟨cls, dd, data, sl⟩, ho, hc, n, hd⟩ := id ht
  obtain ⟨⟨cls2, dd2, data2, sl2⟩, ho2, hc2, n2, hd2⟩ := id hb
  simp only at hc hd hc2 hd2
  subst hc hd hc2 hd2
  have e : vs.toArray ++ ws.toArray = (vs ++ ws).toArray := by simp
  by_cases hw : ws = []
  · exact concat_meets ⟨_, ho, rfl⟩ ⟨_, ho2, rfl⟩ noFill_tuple_add seq_tuple_add PySem.F.slot_tuple_add PySem.F.entry_tuple_add (PySem.F.args_tuple_add_2 _ _)
      (tuple_addW1 t b vs.toArray ws.toArray n n2 dd dd2 sl sl2 (by simpa using hv) (by simp [hw])) ⟨ho, ho2, h1 hw⟩
  · refine concat_meets ⟨_, ho, rfl⟩ ⟨_, ho2, rfl⟩ noFill_tuple_add seq_tuple_add PySem.F.slot_tuple_add PySem.F.entry_tuple_add (PySem.F.args_tuple_add_2 _ _)
      (tuple_addW2 t b vs.toArray ws.toArray n n2 dd dd2 sl sl2 (by simpa using hv) (by simpa using hw) (by rw [List.size_toArray, List.size_toArray]; exact hsz)) ⟨ho, ho2, ?_⟩
    rw [e]
    exact h2 hw
noncomputable def sIx (n d : Nat) : Option Int -> Nat
  | none => d
  | some v => if v < 0 then (v + (n : Int)).toNat else min v.toNat n
theorem sIx_nat (n d k : Nat) : sIx n d (some (k : Int)) = min k n := by
  show (if (k : Int) < 0 then ((k : Int) + (n : Int)).toNat else min (k : Int).toNat n) = min k n
  rw [if_neg (by lia), Int.toNat_natCast]
theorem sIx_le (n d : Nat) (hd : d <= n) (o : Option Int) : sIx n d o <= n := by
  cases o with
  | none => exact hd
  | some v =>
    show (if v < 0 then (v + (n : Int)).toNat else min v.toNat n) <= n
    by_cases hv : v < 0
    · rw [if_pos hv]; lia
    · rw [if_neg hv]; exact Nat.min_le_right _ _
theorem clip_eq (v : Int) (n d : Nat) : (if v < 0 then max (v + (n : Int)) 0 else min v (n : Int)) = ((sIx n d (some v) : Nat) : Int) := by
  show (if v < 0 then max (v + (n : Int)) 0 else min v (n : Int)) = (((if v < 0 then (v + (n : Int)).toNat else min v.toNat n) : Nat) : Int)
  by_cases hv : v < 0
  · simp only [if_pos hv]; lia
  · simp only [if_neg hv]; lia
theorem adjust_gen (lo hi : Option Int) (n : Nat) : Builtin.Slice.sliceAdjust lo hi 1 (n : Int) = (((sIx n 0 lo : Nat) : Int), ((sIx n n hi : Nat) : Int)) := by
  have h1 : ¬ ((1 : Int) < 0) := by lia
  unfold Builtin.Slice.sliceAdjust
  simp only [h1, if_false]
  refine Prod.ext ?_ ?_
  · cases lo with
    | none => rfl
    | some v => exact clip_eq v n 0
  · cases hi with
    | none => rfl
    | some v => exact clip_eq v n n
theorem places_gen (i j : Nat) : Builtin.Slice.slicePlaces (i : Int) (j : Int) 1 = j - i := by
  unfold Builtin.Slice.slicePlaces
  have h1 : (1 : Int) > 0 := by lia
  simp only [h1, if_true, Int.ediv_one]
  split <;> lia
theorem slicePart_ {v : Value} {o : Option Int} {Q : Option Int -> Shared -> Prop} (p : IsPart v o) (h : Q o s) : wpAny (model prog w) A (Builtin.Slice.slicePartIndex v) Q E s := by
  cases p with
  | none => exact slicePart_none h
  | int i t => exact slicePart_int h
theorem sliceApplied_gen {sl : Addr} {vl vu : Value} {lo hi : Option Int} {n : Nat} {Q : Int × Int × Nat -> Shared -> Prop} (hs : s.heap.IsSliceOf sl vl vu .none) (pl : IsPart vl lo) (pu : IsPart vu hi)
    (h : Q (((sIx n 0 lo : Nat) : Int), 1, sIx n n hi - sIx n 0 lo) s) : wpAny (model prog w) A (Builtin.Slice.sliceApplied (.ref sl) (pure (n : Int))) Q E s := by
  obtain ⟨os, hos, hcs, hds⟩ := id hs
  unfold Builtin.Slice.sliceApplied Builtin.Slice.sliceFields
  refine wpAny_bind (wpAny_bind (wpAny_field hos hds (x := vl) rfl (wpAny_bind (wpAny_field hos hds (x := vu) rfl (wpAny_bind (wpAny_field hos hds (x := .none) rfl (wpAny_pure ?_)))))))
  refine wpAny_bind (slicePart_none ?_)
  show wpAny _ _ (if ((1 : Int) == 0) = true then _ else _) _ _ s
  rw [if_neg (by decide)]
  refine wpAny_bind (slicePart_ pl (wpAny_bind (slicePart_ pu (wpAny_bind (wpAny_pure ?_)))))
  show wpAny _ _ (match Builtin.Slice.sliceAdjust lo hi 1 (n : Int) with | (lo, hi) => pure (lo, (1 : Int), Builtin.Slice.slicePlaces lo hi 1)) _ _ s
  rw [adjust_gen lo hi n]
  show wpAny _ _ (pure (((sIx n 0 lo : Nat) : Int), (1 : Int), Builtin.Slice.slicePlaces ((sIx n 0 lo : Nat) : Int) ((sIx n n hi : Nat) : Int) 1)) _ _ s
  rw [places_gen]
  exact wpAny_pure h
theorem pick_gen (xs : Array Value) (i k : Nat) : ((List.range k).filterMap fun (m : Nat) => xs[((i : Int) + (m : Int) * 1).toNat]?).toArray = ((xs.toList.drop i).take k).toArray := by
  have e : (fun (m : Nat) => xs[((i : Int) + (m : Int) * 1).toNat]?) = fun m => xs[i + m]? := by
    funext m
    have : ((i : Int) + (m : Int) * 1).toNat = i + m := by lia
    rw [this]
  rw [e]
  have := pick_run xs i k
  rw [List.filterMap_map] at this
  have e2 : ((fun x => xs[x]?) ∘ fun x => i + x) = fun m => xs[i + m]? := rfl
  rw [e2] at this
  rw [this]
theorem getItem_tuple_cut {t sl : Addr} {items : Array Value} {vl vu : Value} {lo hi : Option Int} {Q : Value -> Shared -> Prop} (ht : IsTup s.heap t items) (hs : s.heap.IsSliceOf sl vl vu .none) (pl : IsPart vl lo) (pu : IsPart vu hi)
    (hw : ¬ (sIx items.size 0 lo = 0 /\ sIx items.size items.size hi = items.size))
    (h : Q (.ref s.heap.objs.size) { s with heap := s.heap.push { cls := .type "tuple", data := .seq ((items.toList.drop (sIx items.size 0 lo)).take (sIx items.size items.size hi - sIx items.size 0 lo)).toArray } })
    (hsz : items.size <= sizeLine) : wpAny (model prog w) A (getItem (.ref t) (.ref sl)) Q E s := by
  have htake : sizeOk (.seq ((items.toList.drop (sIx items.size 0 lo)).take (sIx items.size items.size hi - sIx items.size 0 lo)).toArray) := by
    show ((items.toList.drop (sIx items.size 0 lo)).take (sIx items.size items.size hi - sIx items.size 0 lo)).toArray.size <= sizeLine
    rw [List.size_toArray, List.length_take, List.length_drop, Array.length_toList]
    lia
  have hj : sIx items.size items.size hi <= items.size := sIx_le _ _ (Nat.le_refl _) hi
  obtain ⟨os, hos, hcs, hds⟩ := id hs
  have hTs : s.TypeIs (.ref sl) "slice" := ⟨os, hos, hcs⟩
  unfold getItem
  try with_reducible refine wpAny_holding ?_
  first | refine wpAny_bind (wpAny_pure ?_) | skip
  refine wpAny_bind (wpAny_sequenceKey ht.typeIs (by decide) ?_)
  refine wpAny_bind (wpAny_callSpecial?_slot (name := Str.ofString "__getitem__") ht.typeIs PyProof.Rows.slot_tuple_getitem
    (wpAny_call_entry PyProof.Rows.slot_tuple_getitem ht.typeIs entry_tuple_getitem ?_ (args_tuple_getitem _ _)))
  show wpAny _ _ (Builtin.Tuple.tupleItemsOf (.ref t) >>= _) _ _ s
  refine wpAny_bind (tupleItemsOf_ ht ?_)
  refine wpAny_bind (wpAny_typeOf hTs ?_)
  rw [if_pos (by decide)]
  refine wpAny_bind (sliceApplied_gen hs pl pu ?_)
  have hno : ¬ ((((sIx items.size 0 lo : Nat) : Int) == 0 && (1 : Int) == 1 && (sIx items.size items.size hi - sIx items.size 0 lo) == items.size) = true) := by
    intro q
    rw [Bool.and_eq_true, Bool.and_eq_true] at q
    have q1 : ((sIx items.size 0 lo : Nat) : Int) = 0 := eq_of_beq q.1.1
    have q2 : sIx items.size items.size hi - sIx items.size 0 lo = items.size := eq_of_beq q.2
    exact hw ⟨by lia, by lia⟩
  show wpAny _ _ (if (((sIx items.size 0 lo : Nat) : Int) == 0 && (1 : Int) == 1 && (sIx items.size items.size hi - sIx items.size 0 lo) == items.size) = true then _ else _) _ _ s
  rw [if_neg hno, pick_gen]
  first
    | exact wpAny_bind (m := Builtin.Tuple.tupleExact _) (wpAny_newObj_type (wpAny_pure ⟨_, rfl, wpAny_pure h⟩) htake)
    | exact wpAny_bind (m := Builtin.Tuple.tupleExact _) (wpAny_newObj_type (wpAny_bind (wpAny_pure (wpAny_pure ⟨_, rfl, wpAny_pure h⟩))) htake)
    | exact wpAny_bind (wpAny_bind (m := Builtin.Tuple.tupleExact _) (wpAny_newObj_type (wpAny_pure (wpAny_pure ⟨_, rfl, wpAny_pure h⟩)) htake))
    | exact wpAny_bind (wpAny_bind (m := Builtin.Tuple.tupleExact _) (wpAny_newObj_type (wpAny_pure ⟨_, rfl, wpAny_pure h⟩) htake))
end
end HT
namespace L2
open PySem PySem.Spec PyProof.Rows
noncomputable abbrev TO := St -> Hp -> (Option Int -> Hp -> Prop) -> Prop
noncomputable def PO (X : Cx) (e : Option Expr) (t : TO) : Prop :=
  ∀ (pins : List (Addr × Obj)) (s : Shared) (σ : St) (H : Hp) (Q : Option Int -> Hp -> Prop), Inv X pins σ H s -> t σ H Q ->
    wpAny (model X.prog X.w) X.A (evalPart e X.env) (fun u s' => ∃ o H', Inv X pins σ H' s' /\ IsPart u o /\ Q o H') X.xe s
noncomputable def tNoPart : TO := fun _ H Q => Q none H
noncomputable def tPart (t : TE) : TO := fun σ H Q => t σ H fun x H1 => ∃ i, x = .int i /\ Q (some i) H1
theorem intsAre_of {ns : List Int} : ∀ {us : List Value}, Vals (ns.map V.int) us -> IntsAre us ns := by
  induction ns with
  | nil => intro us r; rw [List.map_nil] at r; cases r; exact .nil
  | cons n ns ih =>
    intro us r
    rw [List.map_cons] at r
    cases r with
    | cons r1 r2 =>
      obtain ⟨t, e⟩ := r1
      subst e
      exact .cons n t (ih r2)
section
variable {X : Cx} {e : Expr} {te : TE} {lo hi : Option Expr} {tl th : TO} {pos p2 : Pos}
theorem po_none : PO X none tNoPart := by
  intro pins s σ H Q I h
  rw [evalPart_none]
  exact wpAny_pure ⟨none, H, I, .none, h⟩
theorem po_some (h : PE X e te) : PO X (some e) (tPart te) := by
  intro pins s σ H Q I hw
  rw [evalPart_some]
  refine thn (h pins s σ H _ I hw) fun u s1 ⟨x, H1, I1, r1, q1⟩ => ?_
  obtain ⟨i, rfl, q⟩ := q1
  obtain ⟨t, rfl⟩ := r1
  exact ⟨some i, H1, I1, .int i t, q⟩
noncomputable def SlR (X : Cx) (r : V -> Option Int -> Option Int -> Hp -> VK -> Prop) : Prop :=
  ∀ (pins : List (Addr × Obj)) (s : Shared) (σ : St) (H : Hp) (x : V) (v vl vu : Value) (lo hi : Option Int) (sl : Addr) (Q : VK), Inv X pins σ H s -> RelV x v -> s.heap.IsSliceOf sl vl vu .none -> IsPart vl lo -> IsPart vu hi -> r x lo hi H Q ->
    ∃ T id, typeLookup (.type T) "__getitem__" = pure (some (.builtin id)) /\ s.TypeIs v T /\ wpAny (model X.prog X.w) X.A (getItem v (.ref sl)) (EP X pins σ Q) X.xe s
theorem SlR.or {r r' : V -> Option Int -> Option Int -> Hp -> VK -> Prop} (h : SlR X r) (h' : SlR X r') : SlR X (fun x lo hi H Q => r x lo hi H Q \/ r' x lo hi H Q) := by
  intro pins s σ H x v vl vu lo hi sl Q I rx hs pl pu q
  rcases q with q | q
  · exact h pins s σ H x v vl vu lo hi sl Q I rx hs pl pu q
  · exact h' pins s σ H x v vl vu lo hi sl Q I rx hs pl pu q
noncomputable def tSl (r : V -> Option Int -> Option Int -> Hp -> VK -> Prop) (te : TE) (tl th : TO) : TE := fun σ H Q => te σ H fun x H1 => tl σ H1 fun l H2 => th σ H2 fun u H3 => r x l u H3 Q
theorem pe_slice {r : V -> Option Int -> Option Int -> Hp -> VK -> Prop} (hr : SlR X r) (he : PE X e te) (hl : PO X lo tl) (hu : PO X hi th) : PE X (.Subscript e (.Slice lo hi none p2) pos) (tSl r te tl th) := by
  intro pins s σ H Q I h
  refine Subscript_ (thn (he pins s σ H _ I h) fun v s1 ⟨x, H1, I1, r1, q1⟩ => ?_)
  refine wpAny_Slice (thn (hl pins s1 σ H1 _ I1 q1) fun vl s2 ⟨l, H2, I2, pl, q2⟩ => thn (hu pins s2 σ H2 _ I2 q2) fun vu s3 ⟨u, H3, I3, pu, q3⟩ => ?_)
  rw [evalPart_none]
  refine wpAny_pure ?_
  have I4 : Inv X pins σ H3 { s3 with heap := s3.heap.push { cls := .type "slice", data := .fields #[vl, vu, .none] } } := I3.kept (t' := s3.toks) fun b ob q => Heap.get?_push_of_some _ q
  obtain ⟨T, id, hT, ht, hg⟩ := hr pins { s3 with heap := s3.heap.push { cls := .type "slice", data := .fields #[vl, vu, .none] } } σ H3 x v vl vu l u s3.heap.objs.size Q I4 r1 (Heap.IsSliceOf.new ..) pl pu q3
  show wpAny (model X.prog X.w) X.A (subscriptTail e (.Slice lo hi none p2) v (.ref s3.heap.objs.size)) (EP X pins σ Q) X.xe { s3 with heap := s3.heap.push { cls := .type "slice", data := .fields #[vl, vu, .none] } }
  exact tail_any (ops := [.ref s3.heap.objs.size, v]) ht hT hg (by with_unfolding_all rfl)
noncomputable def cutV (xs : List V) (lo hi : Option Int) : List V := (xs.drop (HT.sIx xs.length 0 lo)).take (HT.sIx xs.length xs.length hi - HT.sIx xs.length 0 lo)
theorem cutV_length (xs : List V) (lo hi : Option Int) : (cutV xs lo hi).length <= xs.length := by
  unfold cutV
  rw [List.length_take, List.length_drop]
  lia
noncomputable def rSlT (K : PySem.W.Frag) : V -> Option Int -> Option Int -> Hp -> VK -> Prop := fun x lo hi H Q => ∃ a xs, x = .ref a /\ SqT K H a xs /\
  ¬ (HT.sIx xs.length 0 lo = 0 /\ HT.sIx xs.length xs.length hi = xs.length) /\ ∀ p, H p = none -> Q (.ref p) (upd H p (.tup (cutV xs lo hi)))
theorem sl_tup : SlR X (rSlT X.K) := by
  intro pins s σ H x v vl vu lo hi sl Q I rx hs pl pu h
  obtain ⟨a, xs, rfl, hx, hw, q⟩ := h
  cases rx
  obtain ⟨its, r, ht, hz⟩ := I.tuple hx
  have hlen : its.toArray.size = xs.length := by rw [List.size_toArray]; exact r.length.symm
  refine ⟨"tuple", _, PyProof.Rows.slot_tuple_getitem.lookup, ht.typeIs, ?_⟩
  refine HT.getItem_tuple_cut ht hs pl pu (by rw [hlen]; exact hw) ?_ (by rw [hlen]; exact hz)
  rw [hlen]
  refine ⟨.ref s.heap.objs.size, _, I.laid (t' := s.toks) (o := .tup (cutV xs lo hi)) (fun b ob q => Heap.get?_push_of_some _ q) (Nat.le_refl _) ?_, rfl, q _ (I.hok.fresh (Nat.le_refl _))⟩
  exact ⟨tupD_new (Nat.le_trans (cutV_length xs lo hi) hz), _, (r.drop (HT.sIx xs.length 0 lo)).take (HT.sIx xs.length xs.length hi - HT.sIx xs.length 0 lo), IsTup.new _ _⟩
noncomputable def rCatT (K : PySem.W.Frag) : R2 := fun x y H Q => ∃ a b xs ys, x = .ref a /\ y = .ref b /\ SqT K H a xs /\ SqT K H b ys /\ xs ≠ [] /\ xs.length + ys.length <= sizeLine /\
  (ys = [] -> Q (.ref a) H) /\ (ys ≠ [] -> ∀ p, H p = none -> Q (.ref p) (upd H p (.tup (xs ++ ys))))
theorem Vals.nil_iff {xs : List V} {us : List Value} (r : Vals xs us) : us = [] ↔ xs = [] := by
  cases r with
  | nil => simp
  | cons _ _ => simp
theorem op_catT : OpR X (binaryOp .Add) (rCatT X.K) := by
  intro pins s σ H x y v u Q I rx ry h
  obtain ⟨a, b, xs, ys, rfl, rfl, ha, hb, hx, hz, q1, q2⟩ := h
  cases rx
  cases ry
  obtain ⟨its, r1, p1, _⟩ := I.tuple ha
  obtain ⟨its2, r2, p2, _⟩ := I.tuple hb
  refine HT.cat_tup p1 p2 (fun z => hx (r1.nil_iff.mp z)) (fun z => ⟨.ref a, H, I, rfl, q1 (r2.nil_iff.mp z)⟩) (fun z => ?_) (by rw [<- r1.length, <- r2.length]; exact hz)
  refine ⟨.ref s.heap.objs.size, _, I.laid (t' := s.toks) (o := .tup (xs ++ ys)) (fun b ob q => Heap.get?_push_of_some _ q) (Nat.le_refl _) ?_, rfl, q2 (fun w => z (r2.nil_iff.mpr w)) _ (I.hok.fresh (Nat.le_refl _))⟩
  exact ⟨tupD_new (by rw [List.length_append]; exact hz), _, r1.append r2, IsTup.new _ _⟩
end
end L2
namespace L2
open PySem PySem.Spec PyProof.Rows
noncomputable def ixN (n : Nat) (i : Int) : Option Nat := if 0 <= i then (if i < n then some i.toNat else none) else if -(n : Int) <= i then some (i + n).toNat else none
noncomputable def atI {α : Type} (xs : List α) (i : Int) : Option α := (ixN xs.length i).bind fun j => xs[j]?
theorem ixN_seq {n : Nat} {i : Int} {j : Nat} (h : ixN n i = some j) : seqIndex? i n = some j /\ j < n /\ -(n : Int) <= i /\ i < n := by
  unfold ixN at h
  by_cases h0 : 0 <= i
  · rw [if_pos h0] at h
    by_cases h1 : i < n
    · rw [if_pos h1] at h
      have e : i.toNat = j := Option.some.inj h
      exact ⟨by rw [seqIndex_of h0 h1, e], by lia, by lia, h1⟩
    · rw [if_neg h1] at h; cases h
  · rw [if_neg h0] at h
    by_cases h1 : -(n : Int) <= i
    · rw [if_pos h1] at h
      have e : (i + n).toNat = j := Option.some.inj h
      exact ⟨by rw [seqIndex_neg (by lia) h1, e], by lia, h1, by lia⟩
    · rw [if_neg h1] at h; cases h
theorem atI_get {α : Type} {xs : List α} {i : Int} {v : α} (h : atI xs i = some v) : ∃ j, seqIndex? i xs.length = some j /\ xs[j]? = some v /\ j < xs.length /\ -(xs.length : Int) <= i /\ i < xs.length := by
  unfold atI at h
  cases e : ixN xs.length i with
  | none => rw [e] at h; cases h
  | some j =>
    rw [e] at h
    obtain ⟨h1, h2, h3, h4⟩ := ixN_seq e
    exact ⟨j, h1, h, h2, h3, h4⟩
theorem atI_nat {α : Type} {xs : List α} {j : Nat} {v : α} (h : xs[j]? = some v) : atI xs (j : Int) = some v := by
  have hj : j < xs.length := (List.getElem?_eq_some_iff.mp h).1
  have e : ixN xs.length (j : Int) = some j := by
    unfold ixN
    rw [if_pos (by lia), if_pos (by lia)]; simp
  unfold atI; rw [e]; exact h
theorem atI_last {α : Type} (xs : List α) (v : α) : atI (xs ++ [v]) (-1) = some v := by
  have hl : (xs ++ [v]).length = xs.length + 1 := by simp
  have e : ixN (xs ++ [v]).length (-1) = some xs.length := by
    unfold ixN
    rw [hl, if_neg (by decide), if_pos (by lia)]
    congr 1
    lia
  unfold atI
  rw [e]
  show (xs ++ [v])[xs.length]? = some v
  simp
noncomputable def PlainIx (b : Expr) : Prop := ∀ o i, subscripted b false o i = operate [o, i] (getItem o i)
noncomputable def IxR (X : Cx) (r : R2) : Prop :=
  ∀ (value slice : Expr) (pins : List (Addr × Obj)) (s : Shared) (σ : St) (H : Hp) (x y : V) (v u : Value) (Q : VK), Inv X pins σ H s -> RelV x v -> RelV y u -> r x y H Q ->
    subscripted slice false v u = operate [v, u] (getItem v u) -> wpAny (model X.prog X.w) X.A (subscriptTail value slice v u) (EP X pins σ Q) X.xe s
noncomputable def MtR (X : Cx) (id : String) (r : V -> List V -> Hp -> VK -> Prop) : Prop :=
  ∀ (pins : List (Addr × Obj)) (s : Shared) (σ : St) (H : Hp) (x : V) (xs : List V) (v : Value) (us : List Value) (Q : VK), Inv X pins σ H s -> RelV x v -> Vals xs us -> r x xs H Q ->
    wpAny (model X.prog X.w) X.A (call (.builtin id) (v :: us)) (EP X pins σ Q) X.xe s
section
variable {X : Cx} {a b : Expr} {ta tb : TE} {pos : Pos}
theorem IxR.or {r r' : R2} (h : IxR X r) (h' : IxR X r') : IxR X (fun x y H Q => r x y H Q \/ r' x y H Q) := by
  intro value slice pins s σ H x y v u Q I rx ry q hs
  rcases q with q | q
  · exact h value slice pins s σ H x y v u Q I rx ry q hs
  · exact h' value slice pins s σ H x y v u Q I rx ry q hs
theorem pe_ix {r : R2} (hr : IxR X r) (ha : PE X a ta) (hb : PE X b tb) (hs : PlainIx b) : PE X (.Subscript a b pos) (tOp r ta tb) := by
  intro pins s σ H Q I h
  exact Subscript_ (binT ha hb I h fun v u s2 x y H2 I2 rx ry q => hr a b pins s2 σ H2 x y v u Q I2 rx ry q (hs _ _))
noncomputable def rIxL (K : PySem.W.Frag) : R2 := fun x y H Q => ∃ p xs i v, x = .ref p /\ y = .int i /\ SqL K H p xs /\ atI xs i = some v /\ Q v H
noncomputable def rIxT (K : PySem.W.Frag) : R2 := fun x y H Q => ∃ p xs i v, x = .ref p /\ y = .int i /\ SqT K H p xs /\ atI xs i = some v /\ Q v H
noncomputable def rIxS : R2 := fun x y H Q => ∃ z i c, x = .str z /\ y = .int i /\ z.length <= sizeLine /\ atI z.cps.toList i = some c /\ Q (.str ⟨#[c]⟩) H
theorem ix_list : IxR X (rIxL X.K) := by
  intro value slice pins s σ H x y v u Q I rx ry h hs
  obtain ⟨p, xs, i, z, rfl, rfl, hq, he, q⟩ := h
  cases rx
  obtain ⟨t, rfl⟩ := ry
  obtain ⟨its, r, pl, hz⟩ := I.list hq
  obtain ⟨j, h1, h2, h3, h4, h5⟩ := atI_get he
  obtain ⟨w, ew, rw'⟩ := r.get h2
  have hl := r.length
  have hn := line63
  have fin : EP X pins σ Q w s := ⟨z, H, I, rw', q⟩
  by_cases h0 : 0 <= i
  · have hj : i.toNat = j := by
      rw [seqIndex_of h0 h5] at h1
      exact Option.some.inj h1
    exact item_listR pl.isList h0 (by lia) (by rw [hj]; simpa using ew) fin hs
  · have hj : (i + (its.toArray.size : Int)).toNat = j := by
      rw [seqIndex_neg (by lia) h4] at h1
      rw [List.size_toArray, <- hl]
      exact Option.some.inj h1
    exact subscriptTail_builtinR (x := w) pl.isList.typeIs slot_list_getitem.lookup
      (wpAny_getItem_list_neg (Q := fun r s' => r = w /\ EP X pins σ Q r s') pl.isList (by lia) (by rw [List.size_toArray] <;> lia) (by lia) (by rw [hj]; simpa using ew) ⟨rfl, fin⟩) hs
theorem ix_tup : IxR X (rIxT X.K) := by
  intro value slice pins s σ H x y v u Q I rx ry h hs
  obtain ⟨p, xs, i, z, rfl, rfl, hq, he, q⟩ := h
  cases rx
  obtain ⟨t, rfl⟩ := ry
  obtain ⟨its, r, pl, hz⟩ := I.tuple hq
  obtain ⟨j, h1, h2, h3, h4, h5⟩ := atI_get he
  obtain ⟨w, ew, rw'⟩ := r.get h2
  have hl := r.length
  have hn := line63
  have fin : EP X pins σ Q w s := ⟨z, H, I, rw', q⟩
  exact subscriptTail_builtinR (x := w) pl.typeIs slot_tuple_getitem.lookup
    (getItem_tuple (j := j) (Q := fun r s' => r = w /\ EP X pins σ Q r s') pl (by lia) (by lia) (by rw [List.size_toArray, <- hl]; exact h1) (by simpa using ew) ⟨rfl, fin⟩) hs
theorem ix_str : IxR X rIxS := by
  intro value slice pins s σ H x y v u Q I rx ry h hs
  obtain ⟨z, i, c, rfl, rfl, hz, he, q⟩ := h
  obtain ⟨t, rfl⟩ := rx
  obtain ⟨t', rfl⟩ := ry
  obtain ⟨j, h1, h2, h3, h4, h5⟩ := atI_get he
  have hl : z.cps.toList.length = z.length := by simp [Str.length]
  rw [hl] at h1 h4 h5
  have hn := line63
  exact tail_any (typeIs_str s z t) slot_str_getitem.lookup (getItem_str (c := c) (by
    have e1 : decide (i < -(2 ^ 63 : Int)) = false := decide_eq_false (by lia)
    have e2 : decide (i ≥ 2 ^ 63) = false := decide_eq_false (by lia)
    rw [e1, e2, Bool.or_false]) (by rw [h1]; simpa using h2) ⟨.str ⟨#[c]⟩, H, I.tok _, ⟨_, rfl⟩, q⟩) hs
theorem mapSeq_set (its : List Value) (n j : Nat) (u : Value) : Obj.mapSeq (·.setIfInBounds j u) { cls := .type "list", data := .seq its.toArray n } = { cls := .type "list", data := .seq (its.set j u).toArray n } := by
  simp [Obj.mapSeq]
theorem Inv.lst {pins : List (Addr × Obj)} {σ : St} {H : Hp} {s : Shared} {p : Addr} {xs : List V} (I : Inv X pins σ H s) (h : H p = some (.lst xs)) :
    ∃ (its : List Value) (n : Nat), Vals xs its /\ s.heap.get? p = some { cls := .type "list", data := .seq its.toArray n } /\ xs.length <= sizeLine := by
  obtain ⟨z, its, n, r, e⟩ := I.hok p _ h
  exact ⟨its, n, r, e, z⟩
theorem Inv.lstUpd {pins : List (Addr × Obj)} {σ : St} {H : Hp} {s : Shared} {p : Addr} {xs ys : List V} {its its' : List Value} {n n' : Nat} {f : Obj -> Obj} (I : Inv X pins σ H s) (h : H p = some (.lst xs))
    (ho : s.heap.get? p = some { cls := .type "list", data := .seq its.toArray n }) (hf : f { cls := .type "list", data := .seq its.toArray n } = { cls := .type "list", data := .seq its'.toArray n' }) (r : Vals ys its') (hz : ys.length <= sizeLine) (t : Nat) :
    Inv X pins σ (upd H p (.lst ys)) { s with heap := s.heap.update p f, toks := t } := by
  have e : (s.heap.update p f).get? p = some { cls := .type "list", data := .seq its'.toArray n' } := by
    rw [Heap.get?_update_self f ho (by rw [hf] <;> rfl), hf]
  refine I.write (x := p) (e := p) (by rw [h]; trivial) (.inl rfl) (fun b u hb q => (Heap.get?_update_other _ _ (Ne.symm hb)).trans q) ⟨_, e⟩ ?_
  exact ⟨hz, its', n', r, e⟩
noncomputable def rSetL : V -> V -> V -> Hp -> (Hp -> Prop) -> Prop := fun o i v H Q => ∃ p xs k j, o = .ref p /\ i = .int k /\ H p = some (.lst xs) /\ ixN xs.length k = some j /\ Q (upd H p (.lst (xs.set j v)))
theorem set_list : PSet X rSetL := by
  intro pins s σ H o i v ov iv u Q I ro ri rv h
  obtain ⟨p, xs, k, j, rfl, rfl, hp, hj, q⟩ := h
  cases ro
  obtain ⟨t, rfl⟩ := ri
  obtain ⟨its, n, r, ho, hz⟩ := I.lst hp
  obtain ⟨h1, h2, h3, h4⟩ := ixN_seq hj
  have hl := r.length
  have hn := line63
  have I' : Inv X pins σ (upd H p (.lst (xs.set j v))) { s with heap := s.heap.update p (Obj.mapSeq (·.setIfInBounds j u)) } :=
    I.lstUpd hp ho (mapSeq_set its n j u) (r.set rv j) (by rw [List.length_set]; exact hz) s.toks
  by_cases h0 : 0 <= k
  · have hk : k.toNat = j := by
      rw [seqIndex_of h0 h4] at h1
      exact Option.some.inj h1
    exact PySem.W.ki_setAt ho h0 (by lia) (by rw [List.size_toArray, <- hl]; exact h4) (by rw [hk]; exact ⟨_, I', q⟩)
  · have hk : (k + (its.toArray.size : Int)).toNat = j := by
      rw [seqIndex_neg (by lia) h3] at h1
      rw [List.size_toArray, <- hl]
      exact Option.some.inj h1
    exact PySem.W.ki_setBack ho (by lia) (by rw [List.size_toArray, <- hl]; exact h3) (by lia) (by rw [hk]; exact ⟨_, I', q⟩)
theorem slice_bounds (lo hi : Option Int) (n : Nat) : (sliceBounds lo hi none n).1 = ((HT.sIx n 0 lo : Nat) : Int) /\ (sliceBounds lo hi none n).2.1 = ((HT.sIx n n hi : Nat) : Int) /\ (sliceBounds lo hi none n).2.2 = 1 := by
  refine ⟨?_, ?_, rfl⟩
  · cases lo with
    | none => simp [sliceBounds, HT.sIx]
    | some i =>
      simp only [sliceBounds, HT.sIx, Option.getD_none, show (1 : Int) > 0 by decide, if_true]
      by_cases h : i < 0
      · simp only [h, if_true] <;> lia
      · simp only [h, if_false] <;> lia
  · cases hi with
    | none => simp [sliceBounds, HT.sIx]
    | some i =>
      simp only [sliceBounds, HT.sIx, Option.getD_none, show (1 : Int) > 0 by decide, if_true]
      by_cases h : i < 0
      · simp only [h, if_true] <;> lia
      · simp only [h, if_false] <;> lia
theorem slicePick_cut (its : List Value) (lo hi : Option Int) : slicePick its.toArray lo hi none = ((its.drop (HT.sIx its.length 0 lo)).take (HT.sIx its.length its.length hi - HT.sIx its.length 0 lo)).toArray := by
  obtain ⟨h1, h2, h3⟩ := slice_bounds lo hi its.toArray.size
  unfold slicePick
  rw [h1, h2, h3]
  simp only [sliceRange_one, pick_run, List.size_toArray] <;> rfl
noncomputable def rSlL (K : PySem.W.Frag) : V -> Option Int -> Option Int -> Hp -> VK -> Prop := fun x lo hi H Q => ∃ a xs, x = .ref a /\ SqL K H a xs /\ ∀ p, H p = none -> Q (.ref p) (upd H p (.lst (cutV xs lo hi)))
theorem sl_list : SlR X (rSlL X.K) := by
  intro pins s σ H x v vl vu lo hi sl Q I rx hs pl pu h
  obtain ⟨a, xs, rfl, hx, q⟩ := h
  cases rx
  obtain ⟨its, r, ht, hz⟩ := I.list hx
  have hlen := r.length
  refine ⟨"list", _, slot_list_getitem.lookup, ht.isList.typeIs, ?_⟩
  refine wpAny_getItem_list_slice ht.isList hs pl pu .none (by simp) ?_ (by rw [List.size_toArray] <;> lia)
  rw [slicePick_cut, <- hlen]
  refine ⟨.ref s.heap.objs.size, _, I.laid (t' := s.toks) (o := .lst (cutV xs lo hi)) (fun b ob q => Heap.get?_push_of_some _ q) (Nat.le_refl _) ?_, rfl, q _ (I.hok.fresh (Nat.le_refl _))⟩
  exact ⟨Nat.le_trans (cutV_length xs lo hi) hz, _, 0, (r.drop (HT.sIx xs.length 0 lo)).take (HT.sIx xs.length xs.length hi - HT.sIx xs.length 0 lo), Heap.get?_push_size _ rfl⟩
noncomputable def flatV : V -> Bool
  | .non => true
  | .bl _ => true
  | .int _ => true
  | .str _ => true
  | _ => false
noncomputable def eqV : V -> V -> Bool
  | .non, .non => true
  | .bl a, .bl b => a == b
  | .bl a, .int b => (if a then 1 else 0) == b
  | .int a, .bl b => a == (if b then 1 else 0)
  | .int a, .int b => a == b
  | .str a, .str b => a == b
  | _, _ => false
theorem eqAt_V {A : Around} {s : Shared} {y x : V} {u v : Value} (ry : RelV y u) (rx : RelV x v) (fy : flatV y = true) (fx : flatV x = true) : SeqAt.EqAt A s u v (eqV y x) := by
  cases y with
  | non =>
    cases ry
    cases x with
    | non => cases rx; exact SeqAt.EqAt.same _
    | bl b => cases rx; exact SeqAt.EqAt.none_bool b
    | int b => obtain ⟨t, rfl⟩ := rx; exact SeqAt.EqAt.none_int b t
    | str b => obtain ⟨t, rfl⟩ := rx; exact SeqAt.EqAt.none_str b t
    | _ => exact absurd (show false = true from fx) Bool.false_ne_true
  | bl a =>
    cases ry
    cases x with
    | non => cases rx; exact SeqAt.EqAt.bool_none a
    | bl b => cases rx; exact SeqAt.EqAt.bool_bool a b
    | int b => obtain ⟨t, rfl⟩ := rx; exact SeqAt.EqAt.bool_int a b t
    | str b => obtain ⟨t, rfl⟩ := rx; exact SeqAt.EqAt.bool_str a b t
    | _ => exact absurd (show false = true from fx) Bool.false_ne_true
  | int a =>
    obtain ⟨t', rfl⟩ := ry
    cases x with
    | non => cases rx; exact SeqAt.EqAt.int_none a t'
    | bl b => cases rx; exact SeqAt.EqAt.int_bool a t' b
    | int b => obtain ⟨t, rfl⟩ := rx; exact SeqAt.EqAt.int_int a t' b t
    | str b => obtain ⟨t, rfl⟩ := rx; exact SeqAt.EqAt.int_str a t' b t
    | _ => exact absurd (show false = true from fx) Bool.false_ne_true
  | str a =>
    obtain ⟨t', rfl⟩ := ry
    cases x with
    | non => cases rx; exact SeqAt.EqAt.str_none a t'
    | bl b => cases rx; exact SeqAt.EqAt.str_bool a t' b
    | int b => obtain ⟨t, rfl⟩ := rx; exact SeqAt.EqAt.str_int a t' b t
    | str b => obtain ⟨t, rfl⟩ := rx; exact SeqAt.EqAt.str_str a t' b t
    | _ => exact absurd (show false = true from fx) Bool.false_ne_true
  | _ => exact absurd (show false = true from fy) Bool.false_ne_true
noncomputable def eqU (x : V) (u : Value) : Bool := match u with
  | .none => eqV .non x
  | .bool b => eqV (.bl b) x
  | .int i _ => eqV (.int i) x
  | .str z _ => eqV (.str z) x
  | _ => false
theorem eqU_of {x y : V} {u : Value} (r : RelV y u) (f : flatV y = true) : eqU x u = eqV y x := by
  cases y with
  | non => cases r; rfl
  | bl b => cases r; rfl
  | int i => obtain ⟨t, rfl⟩ := r; rfl
  | str z => obtain ⟨t, rfl⟩ := r; rfl
  | _ => exact absurd (show false = true from f) Bool.false_ne_true
theorem any_eqU {x : V} : ∀ {xs : List V} {us : List Value}, Vals xs us -> xs.all flatV = true -> us.any (eqU x) = xs.any fun y => eqV y x
  | _, _, .nil, _ => rfl
  | y :: xs, u :: us, .cons r t, f => by
    rw [List.all_cons, Bool.and_eq_true] at f
    rw [List.any_cons, List.any_cons, eqU_of r f.1, any_eqU t f.2]
theorem mem_eqAt {A : Around} {s : Shared} {x : V} {v : Value} (rx : RelV x v) (fx : flatV x = true) : ∀ {xs : List V} {us : List Value}, Vals xs us -> xs.all flatV = true -> ∀ u ∈ us, SeqAt.EqAt A s u v (eqU x u)
  | _, _, .nil, _ => fun u hu => by cases hu
  | y :: xs, u :: us, .cons r t, f => fun u' hu => by
    rw [List.all_cons, Bool.and_eq_true] at f
    rcases List.mem_cons.mp hu with rfl | hu
    · rw [eqU_of r f.1]; exact eqAt_V r rx f.1 fx
    · exact mem_eqAt rx fx t f.2 u' hu
noncomputable def inV (x : V) (xs : List V) : Bool := xs.any fun y => eqV y x
noncomputable def rIn (K : PySem.W.Frag) (neg : Bool) : R2 := fun x y H Q => ∃ p xs, y = .ref p /\ (SqL K H p xs \/ SqT K H p xs) /\ flatV x = true /\ xs.all flatV = true /\ Q (.bl (if neg then !inV x xs else inV x xs)) H
theorem op_in_seq : OpR X (compareOp .In) (rIn X.K false) := by
  intro pins s σ H x y v u Q I rx ry h
  obtain ⟨p, xs, rfl, hq, fx, fs, q⟩ := h
  cases ry
  rcases hq with hq | hq
  · obtain ⟨its, r, pl, hz⟩ := I.list hq
    refine SeqAt.in_listAt (eqU x) pl.isList (fun w hw => mem_eqAt rx fx r fs w (by simpa using hw)) ⟨.bl _, H, I, rfl, ?_⟩
    rw [show its.toArray.any (eqU x) = its.any (eqU x) by simp, any_eqU r fs]
    exact q
  · obtain ⟨its, r, pl, hz⟩ := I.tuple hq
    refine SeqAt.in_tupleAt (eqU x) pl (fun w hw => mem_eqAt rx fx r fs w (by simpa using hw)) ⟨.bl _, H, I, rfl, ?_⟩
    rw [show its.toArray.any (eqU x) = its.any (eqU x) by simp, any_eqU r fs]
    exact q
theorem op_notIn_seq : OpR X (compareOp .NotIn) (rIn X.K true) := by
  intro pins s σ H x y v u Q I rx ry h
  obtain ⟨p, xs, rfl, hq, fx, fs, q⟩ := h
  cases ry
  rcases hq with hq | hq
  · obtain ⟨its, r, pl, hz⟩ := I.list hq
    refine SeqAt.notIn_listAt (eqU x) pl.isList (fun w hw => mem_eqAt rx fx r fs w (by simpa using hw)) ⟨.bl _, H, I, rfl, ?_⟩
    rw [show its.toArray.any (eqU x) = its.any (eqU x) by simp, any_eqU r fs]
    exact q
  · obtain ⟨its, r, pl, hz⟩ := I.tuple hq
    refine SeqAt.notIn_tupleAt (eqU x) pl (fun w hw => mem_eqAt rx fx r fs w (by simpa using hw)) ⟨.bl _, H, I, rfl, ?_⟩
    rw [show its.toArray.any (eqU x) = its.any (eqU x) by simp, any_eqU r fs]
    exact q
theorem call_len_seq : CallR X (.builtin "len") (fun xs H Q => ∃ p ys, xs = [.ref p] /\ (SqL X.K H p ys \/ SqT X.K H p ys) /\ Q (.int ys.length) H) := by
  intro pins s σ H xs us Q I r h
  obtain ⟨p, ys, rfl, hq, q⟩ := h
  obtain ⟨u, rfl, rx⟩ := vals1 r
  cases rx
  have hn := line63
  rcases hq with hq | hq
  · obtain ⟨its, r', pl, hz⟩ := I.list hq
    have hlen := r'.length
    exact Calls.call_len_list pl.isList (by simp only [List.size_toArray] <;> lia) ⟨.int ys.length, H, I.tok _, ⟨s.toks + 1, by rw [List.size_toArray, hlen]⟩, q⟩
  · obtain ⟨its, r', pl, hz⟩ := I.tuple hq
    have hlen := r'.length
    exact len_tuple pl (by simp only [List.size_toArray] <;> lia) ⟨.int ys.length, H, I.tok _, ⟨s.toks + 1, by rw [List.size_toArray, hlen]⟩, q⟩
theorem call_len_str : CallR X (.builtin "len") (fun xs H Q => ∃ z, xs = [.str z] /\ z.length <= sizeLine /\ Q (.int z.length) H) := by
  intro pins s σ H xs us Q I r h
  obtain ⟨z, rfl, hz, q⟩ := h
  obtain ⟨u, rfl, t, rfl⟩ := vals1 r
  have hn := line63
  exact len_str (by lia) ⟨.int z.length, H, I.tok _, ⟨_, rfl⟩, q⟩
theorem CallR.or {f : Value} {r r' : List V -> Hp -> VK -> Prop} (h : CallR X f r) (h' : CallR X f r') : CallR X f (fun xs H Q => r xs H Q \/ r' xs H Q) := by
  intro pins s σ H xs us Q I rs q
  rcases q with q | q
  · exact h pins s σ H xs us Q I rs q
  · exact h' pins s σ H xs us Q I rs q
theorem call_tuple_of : CallR X (.type "tuple") (fun xs H Q => ∃ p ys, xs = [.ref p] /\ ((SqL X.K H p ys /\ ∀ l, H l = none -> Q (.ref l) (upd H l (.tup ys))) \/ (SqT X.K H p ys /\ Q (.ref p) H))) := by
  intro pins s σ H xs us Q I r h
  obtain ⟨p, ys, rfl, h⟩ := h
  obtain ⟨u, rfl, rx⟩ := vals1 r
  cases rx
  rcases h with ⟨hq, q⟩ | ⟨hq, q⟩
  · obtain ⟨its, r', pl, hz⟩ := I.list hq
    have hlen := r'.length
    refine call_tuple_list pl.isList (fun h' kp => ?_) (by simp only [List.size_toArray] <;> lia)
    have I1 : Inv X pins σ H { s with heap := h' } := I.kept (t' := s.toks) kp
    have I2 : Inv X pins σ (upd H h'.objs.size (.tup ys)) { s with heap := h'.push { cls := .type "tuple", data := .seq its.toArray } } :=
      I1.laid (t' := s.toks) (fun b o e => Heap.get?_push_of_some _ e) (Nat.le_refl _) (show ObjOk X.prog X.w _ _ _ (.tup ys) from ⟨tupD_new hz, its, r', IsTup.new _ _⟩)
    exact ⟨.ref h'.objs.size, _, I2, rfl, q _ (I1.hok.fresh (Nat.le_refl _))⟩
  · obtain ⟨its, r', pl, hz⟩ := I.tuple hq
    exact call_tuple_same pl ⟨.ref p, H, I, rfl, q⟩
noncomputable def tyV (K : PySem.W.Frag) (T : String) (x : V) (H : Hp) : Prop := match x with
  | .str _ => T = "str"
  | .int _ => T = "int"
  | .ref p => (T = "list" /\ ∃ xs, SqL K H p xs) \/ (T = "tuple" /\ ∃ o, K.lookup p = some o /\ o.cls = .type "tuple" /\ o.dict = none) \/
      (T = "dict" /\ ((∃ kvs, H p = some (.dK kvs)) \/ ∃ kvs, H p = some (.dT kvs))) \/ (T = "set" /\ ∃ S n, H p = some (.set S n))
  | _ => False
theorem tyV_is {pins : List (Addr × Obj)} {σ : St} {H : Hp} {s : Shared} {T : String} {x : V} {v : Value} (I : Inv X pins σ H s) (r : RelV x v) (ty : tyV X.K T x H) :
    s.TypeIs v T /\ ∀ a, v = .ref a -> ∃ ob, s.heap.get? a = some ob /\ ob.dict = none := by
  cases x with
  | str z =>
    obtain ⟨t, rfl⟩ := r
    cases (show T = "str" from ty)
    exact ⟨typeIs_str s z t, fun _ e => nomatch e⟩
  | int i =>
    obtain ⟨t, rfl⟩ := r
    cases (show T = "int" from ty)
    exact ⟨typeIs_int s i t, fun _ e => nomatch e⟩
  | ref p =>
    cases r
    rcases ty with ⟨rfl, xs, hq⟩ | ⟨rfl, o, hk, hc, hd⟩ | ⟨rfl, hk⟩ | ⟨rfl, S, n, hk⟩
    · obtain ⟨its, _, pl, _⟩ := I.list hq
      refine ⟨pl.isList.typeIs, fun a e => ?_⟩
      cases e
      obtain ⟨o, n, e, c, hd, _⟩ := pl
      exact ⟨o, e, hd⟩
    · refine ⟨⟨o, I.kIn p o hk, hc⟩, fun a e => ?_⟩
      cases e
      exact ⟨o, I.kIn _ o hk, hd⟩
    · have z : ∃ o, s.heap.get? p = some o /\ o.ExactDict := by
        rcases hk with ⟨kvs, hk⟩ | ⟨kvs, hk⟩
        · obtain ⟨_, _, _, _, o, _, _, e, ex, _⟩ := I.hok p _ hk
          exact ⟨o, e, ex⟩
        · obtain ⟨_, _, _, _, o, _, _, e, ex, _⟩ := I.hok p _ hk
          exact ⟨o, e, ex⟩
      obtain ⟨o, e, ex⟩ := z
      refine ⟨⟨o, e, ex.1⟩, fun a e2 => ?_⟩
      cases e2
      exact ⟨o, e, ex.2.1⟩
    · obtain ⟨o, _, _, _, e, ex, _⟩ := I.hok p _ hk
      refine ⟨⟨o, e, ex.1⟩, fun a e2 => ?_⟩
      cases e2
      exact ⟨o, e, ex.2.1⟩
  | _ => exact False.elim ty
noncomputable def tBM0 (K : PySem.W.Frag) (T : String) (r : V -> List V -> Hp -> VK -> Prop) (to : TE) : TE := fun σ H Q => to σ H fun x H1 => tyV K T x H1 /\ r x [] H1 Q
noncomputable def tBM (K : PySem.W.Frag) (T : String) (r : V -> List V -> Hp -> VK -> Prop) (to : TE) (t : TA) : TE := fun σ H Q => to σ H fun x H1 => tyV K T x H1 /\ t σ H1 fun xs H2 => r x xs H2 Q
variable {o e : Expr} {es : List Expr} {to : TE} {t : TA} {name : Str} {apos cpos : Pos} {T id : String} {r : V -> List V -> Hp -> VK -> Prop}
theorem pe_bm0 (pa : PlainAttrs T) (slot : Slot T name id) (hty : typeOf (.builtin id) = pure (.type "method_descriptor")) (hm : MtR X id r) (ho : PE X o to)
    (hbase : attributeBase o name X.env (eval o X.env) = eval o X.env := by rfl) (hline : (apos.endLine == cpos.line) = true := by rfl) : PE X (.Call (.Attribute o name apos) [] [] cpos) (tBM0 X.K T r to) := by
  intro pins s σ H Q I h
  refine wpAny_Call_method0_late hbase hline (thn (ho pins s σ H _ I h) fun v s1 ⟨x, H1, I1, r1, ty, q1⟩ => ?_)
  obtain ⟨h1, h2⟩ := tyV_is I1 r1 ty
  exact ⟨T, id, pa, slot, hty, h1, h2, Calls.callWith_builtin rfl (PySem.evalArgs_none (hm pins s1 σ H1 x [] v [] Q I1 r1 .nil q1))⟩
theorem pe_bm (pa : PlainAttrs T) (slot : Slot T name id) (hty : typeOf (.builtin id) = pure (.type "method_descriptor")) (hm : MtR X id r) (ho : PE X o to) (ha : PA X (e :: es) t)
    (hbase : attributeBase o name X.env (eval o X.env) = eval o X.env := by rfl)
    (hfew : ((backTo cpos (starEach (e :: es) X.env)).all (fun x => !x.1) && (backToKw cpos (keywordEach [] X.env)).all (fun x => x.1.isSome)
      && decide ((e :: es).length + ([] : List Keyword).length + (if ([] : List Keyword).isEmpty then 0 else 1) < 30)) = true := by rfl)
    (hline : (apos.endLine == cpos.line) = true := by rfl) (hs : starEach (e :: es) X.env = (false, eval e X.env) :: starEach es X.env := by rfl) (hplain : (backTo cpos (starEach es X.env)).any (·.1) = false := by rfl) :
    PE X (.Call (.Attribute o name apos) (e :: es) [] cpos) (tBM X.K T r to t) := by
  intro pins s σ H Q I h
  refine wpAny_Call_method_late hbase hfew hline rfl (thn (ho pins s σ H _ I h) fun v s1 ⟨x, H1, I1, r1, ty, q1⟩ => ?_)
  obtain ⟨h1, h2⟩ := tyV_is I1 r1 ty
  refine ⟨T, id, pa, slot, hty, h1, h2, ?_⟩
  have hA := ha cpos pins s1 σ H1 _ I1 q1
  rw [hs] at hA ⊢
  refine Calls.callWith_builtin (by show (false || (backTo cpos (starEach es X.env)).any (·.1)) = false; rw [hplain] <;> rfl) (Calls.evalArgs_plain ?_)
  exact thn hA fun us s2 ⟨vs, H2, I2, r2, q2⟩ => hm pins s2 σ H2 x vs v us Q I2 r1 r2 q2
/- xs.append(e), list.index on a module's tuple .. are MtR facts of 06m -/
end
end L2
namespace L2
open PySem PySem.Spec PyProof.Rows
noncomputable def MtM (X : Cx) (id : String) (r : V -> List V -> Hp -> VK -> Prop) : Prop :=
  ∀ (pins : List (Addr × Obj)) (s : Shared) (σ : St) (H : Hp) (x : V) (xs : List V) (v : Value) (us : List Value) (Q : VK), Inv X pins σ H s -> RelV x v -> Vals xs us -> r x xs H Q ->
    wpAny (model X.prog X.w) X.A (call (.builtin id) (v :: us)) (EP X pins σ Q) X.xe s
theorem Vals.one {x : V} {us : List Value} (h : Vals [x] us) : ∃ u, us = [u] /\ RelV x u := by
  cases h with
  | cons r t => cases t; exact ⟨_, rfl, r⟩
theorem Vals.two {x y : V} {us : List Value} (h : Vals [x, y] us) : ∃ u v, us = [u, v] /\ RelV x u /\ RelV y v := by
  cases h with
  | cons r t =>
    obtain ⟨v, rfl, q⟩ := Vals.one t
    exact ⟨_, _, rfl, r, q⟩
theorem Vals.zero : ∀ {us : List Value}, Vals [] us -> us = []
  | _, .nil => rfl
theorem Vals.dropLast {xs : List V} {us : List Value} (h : Vals xs us) : Vals xs.dropLast us.dropLast := by
  induction h with
  | nil => exact .nil
  | cons r t ih =>
    cases t with
    | nil => exact .nil
    | cons q t' => exact .cons r ih
theorem Vals.reverse {xs : List V} {us : List Value} (h : Vals xs us) : Vals xs.reverse us.reverse := by
  induction h with
  | nil => exact .nil
  | cons r t ih => rw [List.reverse_cons, List.reverse_cons]; exact Vals.append ih (.cons r .nil)
theorem erase_last {α : Type} (l : List α) : l.eraseIdx (l.length - 1) = l.dropLast := by
  induction l with
  | nil => rfl
  | cons a r ih =>
    cases r with
    | nil => rfl
    | cons b r =>
      have e : (a :: b :: r).length - 1 = ((b :: r).length - 1) + 1 := by
        have h1 : (a :: b :: r).length = r.length + 2 := rfl
        have h2 : (b :: r).length = r.length + 1 := rfl
        lia
      rw [e, List.eraseIdx_cons_succ, ih]
      all_goals rfl
section
variable {X : Cx} {pins : List (Addr × Obj)} {σ : St} {H : Hp} {s : Shared} {l b : Addr} {xs ys zs : List V}
theorem Inv.lset {its its' : List Value} {n : Nat} {f : Array Value -> Array Value} {t' : Nat} (I : Inv X pins σ H s) (hH : H l = some (.lst xs))
    (e : s.heap.get? l = some { cls := .type "list", data := .seq its.toArray n }) (hf : f its.toArray = its'.toArray) (hv : Vals ys its') (hz : ys.length <= sizeLine) :
    Inv X pins σ (upd H l (.lst ys)) { s with heap := s.heap.update l (Obj.mapSeq f), toks := t' } := by
  have q := PySem.IsL.update e f
  rw [hf] at q
  refine I.write (x := l) (e := l) (by rw [hH]; exact trivial) (.inl rfl) (fun b' u hb hu => (Heap.get?_update_other s.heap (Obj.mapSeq f) (Ne.symm hb)).trans hu) ⟨_, q⟩ ?_
  exact ⟨hz, its', _, hv, q⟩
theorem Inv.lnew {its : List Value} {t' : Nat} (I : Inv X pins σ H s) (hv : Vals ys its) (hz : ys.length <= sizeLine) :
    Inv X pins σ (upd H s.heap.objs.size (.lst ys)) { s with heap := s.heap.push { cls := .type "list", data := .seq its.toArray }, toks := t' } :=
  I.laid (fun _ _ q => Heap.get?_push_of_some _ q) (Nat.le_refl _) ⟨hz, its, 0, hv, Heap.get?_push_size _ rfl⟩
theorem Inv.fresh (I : Inv X pins σ H s) : H s.heap.objs.size = none := I.hok.fresh (Nat.le_refl _)
theorem Inv.lstM (I : Inv X pins σ H s) (hH : H l = some (.lst xs)) : xs.length <= sizeLine /\ ∃ (its : List Value) (n : Nat), Vals xs its /\ xs.length = its.length /\ s.heap.get? l = some { cls := .type "list", data := .seq its.toArray n } := by
  obtain ⟨z, its, n, r, e⟩ := I.hok l _ hH
  exact ⟨z, its, n, r, r.length, e⟩
theorem notLongL {n : Nat} (h : n <= sizeLine) : Builtin.List.listTooLong n = false := by
  unfold Builtin.List.listTooLong
  exact decide_eq_false (by lia)
end
section
variable {X : Cx}
noncomputable def rAppend : V -> List V -> Hp -> VK -> Prop := fun x vs H Q => ∃ l xs y, x = .ref l /\ vs = [y] /\ H l = some (.lst xs) /\ xs.length < sizeLine /\ Q .non (upd H l (.lst (xs ++ [y])))
theorem mt_append : MtM X "list.append" rAppend := by
  intro pins s σ H x vs v us Q I rx rv h
  obtain ⟨l, xs, y, rfl, rfl, hH, hz, q⟩ := h
  cases rx
  obtain ⟨u, rfl, ru⟩ := rv.one
  obtain ⟨z, its, n, r, hl, e⟩ := I.lstM hH
  refine call_meets F.slot_list_append ⟨_, e, rfl⟩ F.entry_list_append (F.args_list_append_2 _ _) (PySem.list_append l its.toArray n u (by rw [List.size_toArray]; lia)) ⟨e, ?_⟩
  refine ⟨.non, _, I.lset (its' := its ++ [u]) hH e (by simp) (r.append (.cons ru .nil)) ?_, rfl, q⟩
  rw [List.length_append, List.length_singleton]
  lia
noncomputable def rExtend : V -> List V -> Hp -> VK -> Prop := fun x vs H Q => ∃ l b xs zs, x = .ref l /\ vs = [.ref b] /\ H l = some (.lst xs) /\ H b = some (.lst zs) /\ xs.length + zs.length <= sizeLine /\ Q .non (upd H l (.lst (xs ++ zs)))
theorem mt_extend : MtM X "list.extend" rExtend := by
  intro pins s σ H x vs v us Q I rx rv h
  obtain ⟨l, b, xs, zs, rfl, rfl, hH, hB, hz, q⟩ := h
  cases rx
  obtain ⟨u, rfl, ru⟩ := rv.one
  cases ru
  obtain ⟨z, its, n, r, hl, e⟩ := I.lstM hH
  obtain ⟨z2, its2, n2, r2, hl2, e2⟩ := I.lstM hB
  have hsz : its.toArray.size + its2.toArray.size <= sizeLine := by rw [List.size_toArray, List.size_toArray]; lia
  have hlong : ¬ (!its.toArray.isEmpty && Builtin.List.listTooLong (its.toArray.size + its2.toArray.size)) = true := by
    rw [notLongL hsz, Bool.and_false]
    exact Bool.false_ne_true
  refine call_meets F.slot_list_extend ⟨_, e, rfl⟩ F.entry_list_extend (F.args_list_extend_2 _ _)
    (AutoSeq1.list_extend_list_list_0 l its.toArray n b its2.toArray n2 hlong (by rw [List.size_toArray]; lia) (by lia)) ⟨e, e2, ?_⟩
  refine ⟨.non, _, I.lset (its' := its ++ its2) hH e (by simp) (r.append r2) ?_, rfl, q⟩
  rw [List.length_append]
  lia
noncomputable def rPop : V -> List V -> Hp -> VK -> Prop := fun x vs H Q => ∃ l xs y, x = .ref l /\ vs = [] /\ H l = some (.lst xs) /\ xs[xs.length - 1]? = some y /\ Q y (upd H l (.lst xs.dropLast))
theorem mt_pop : MtM X "list.pop" rPop := by
  intro pins s σ H x vs v us Q I rx rv h
  obtain ⟨l, xs, y, rfl, rfl, hH, hy, q⟩ := h
  cases rx
  have hus := rv.zero
  subst hus
  obtain ⟨z, its, n, r, hl, e⟩ := I.lstM hH
  obtain ⟨u, hu, ru⟩ := r.get hy
  have hy' : its.toArray[its.toArray.size - 1]? = some u := by
    show its.toArray[its.length - 1]? = some u
    rw [<- Array.getElem?_toList, <- hl]
    exact hu
  refine call_meets F.slot_list_pop ⟨_, e, rfl⟩ F.entry_list_pop (F.args_list_pop_1 _) (MeetsSeq.list_pop_last l its.toArray n u hy' (by rw [List.size_toArray]; lia)) ⟨e, ?_⟩
  refine ⟨y, _, I.lset (its' := its.dropLast) hH e ?_ r.dropLast ?_, ru, q⟩
  · show its.toArray.eraseIdxIfInBounds (its.toArray.size - 1) = its.dropLast.toArray
    rw [List.size_toArray, List.eraseIdxIfInBounds_toArray, erase_last]
  · rw [List.length_dropLast]
    lia
noncomputable def rCat : R2 := fun x y H Q => ∃ l b xs zs, x = .ref l /\ y = .ref b /\ H l = some (.lst xs) /\ H b = some (.lst zs) /\ xs.length + zs.length <= sizeLine /\ ∀ p, H p = none -> Q (.ref p) (upd H p (.lst (xs ++ zs)))
theorem op_cat : OpR X (binaryOp .Add) rCat := by
  intro pins s σ H x y v u Q I rx ry h
  obtain ⟨l, b, xs, zs, rfl, rfl, hH, hB, hz, q⟩ := h
  cases rx
  cases ry
  obtain ⟨z, its, n, r, hl, e⟩ := I.lstM hH
  obtain ⟨z2, its2, n2, r2, hl2, e2⟩ := I.lstM hB
  refine PySem.P.add_list e e2 ?_ (by rw [List.size_toArray, List.size_toArray]; lia)
  have ea : its.toArray ++ its2.toArray = (its ++ its2).toArray := by simp
  rw [ea]
  exact ⟨.ref _, _, I.lnew (t' := s.toks) (r.append r2) (by rw [List.length_append]; lia), rfl, q _ I.fresh⟩
end
section
variable {prog : Program} {w : World} {A : Around} {E : Value -> Shared -> Prop} {s : Shared}
set_option maxRecDepth 100000 in
end
section
variable {X : Cx}
end
end L2
namespace Att
open PySem PySem.W PySem.Calls PyProof.Rows
theorem ints_of_wellAll {P : Params} {h : Heap} : ∀ (ns : List Int) (vs : List Value), WellAll P h vs (ns.map WData.int) -> IntsAre vs ns := by
  intro ns
  induction ns with
  | nil =>
    intro vs w
    rw [List.map_nil] at w
    cases w
    exact .nil
  | cons n ns ih =>
    intro vs w
    rw [List.map_cons] at w
    cases w with
    | cons a b =>
      cases a
      exact .cons _ _ (ih _ b)
theorem script_of {l : OpenLaw} {n : Nat} (hn : l.most = some n) {P : Params} {h : Heap} {args : List WData} {vals : List Value}
    (hpre : l.row.toRowW.claim.pre args = true) (hwl : WellAll P h vals args) :
    ∃ a vs ns, vals = [Value.ref a] /\ args = [WData.list (ns.map WData.int)] /\ h.get? a = some { cls := .type "list", data := .seq vs.toArray } /\ IntsAre vs ns /\ ns.length <= n := by
  have hsh : WShape.hasAll [] args [.list .int] = true := (pre_splitW hpre).1
  have hc : l.pre.holds [] { args := args } = true := (pre_splitW hpre).2
  obtain ⟨d, r, rfl, h1, h2⟩ := hasAllW_cons hsh
  obtain rfl := hasAllW_nil h2
  obtain ⟨xs, rfl, h3⟩ := hasW_list h1
  obtain ⟨ns, rfl⟩ := items_int h3
  have hlen : ns.length <= n := by
    unfold OpenLaw.pre at hc
    have h4 : (WTm.not (.lt (.lit (.int (n : Int))) (.len (.arg 0)))).holds [] { args := [.list (ns.map .int)] } = true := by
      have h4 := (holds_andW hc).1
      rw [hn] at h4
      exact h4
    have h5 := condW_of h4 (w_not (w_lt w_lit (w_len_list (w_arg rfl))))
    rw [List.length_map] at h5
    refine Nat.le_of_not_lt fun q => ?_
    have q' : (n : Int) < ((ns.length : Nat) : Int) := by lia
    first
      | (rw [decide_eq_true q'] at h5; exact absurd h5 (by decide))
      | (simp at h5; lia)
  cases hwl with
  | cons w1 w2 =>
    cases w2
    cases w1 with
    | list ho hall => exact ⟨_, _, ns, rfl, rfl, ho, ints_of_wellAll ns _ hall, hlen⟩
theorem post_true (l : OpenLaw) (args : List WData) : l.row.toRowW.claim.post args (.bool true) args = true :=
  postW_of (r := l.row.toRowW) (X := (true == true))
    (show WShape.has [] (.bool true) .bool = true by first | rfl | decide | simp [WShape.has, WShape.arms, WShape.armsAll])
    (show (WTm.eq .res (.lit (.bool true))).value [] { args := args, res := some (.bool true), after := args } = some (.bool (true == true)) from w_eq_bool (w_res rfl) w_lit) rfl
theorem attach_call {l : OpenLaw} {n : Nat} {q : Program} {loose : List Str} {XP : (Str -> Option Value) -> Heap -> Prop} {YP : World -> Heap -> Prop} {d : DefRec}
    (hn : l.most = some n) (hdf : d.params.defaults = [])
    (call : ∀ (w : World) (s₀ s₁ : Shared) (mg mb : Str -> Option Value) (fa : Addr) (o : Obj) (pm cd doc : Value) (a : Addr) (vs : List Value) (ns : List Int),
      Ground q loose [] XP w s₀ mg mb s₁.heap -> YP w s₁.heap ->
      s₁.heap.get? fa = some o -> o.data = .func (docDef d.name d.params d.body d.scope pm cd doc) -> s₁.heap.CodeRec cd d.name -> mg d.name = some (.ref fa) ->
      s₁.heap.get? a = some { cls := .type "list", data := .seq vs.toArray } -> IntsAre vs ns -> ns.length <= n -> s₁.gens = #[] ->
      codeAny (model l.prog w) callerA (.call (.ref fa) ⟨[.ref a], []⟩) (fun r s' => r = .ok (.ret (.bool true)) /\ OldK s₁.heap s'.heap /\ s'.os = s₁.os /\ AllBare s'.gens) s₁) :
    WalkO q loose XP YP l.row.toRowW d [] (fun f vs => PySem.call f vs) := by
  intro w s₀ s₁ mg mb G Y fa o pm cd doc dV kV ho hd hcd hD hmg hg args vals as hpre hlay hrd hwl hlo
  obtain rfl : dV = .none := Dflts.none hD hdf
  obtain rfl : kV = .none := Dflts.noKw hD
  obtain ⟨a, vs, ns, rfl, rfl, hobj, hints, hlen⟩ := script_of hn hpre hwl
  refine enter_call (codeAny_mono (call w s₀ s₁ mg mb fa o pm cd doc a vs ns G Y ho (fd_plain hd) hcd hmg hobj hints hlen hg) fun r s' hq => ?_)
  obtain ⟨rfl, h2, h3, h4⟩ := hq
  exact ⟨.inl ⟨.bool true, .bool true, [], rfl, fun _ => rfl, .bool true, post_true l _, fun _ => ⟨List.Pairwise.nil, fun _ hm => (nomatch hm)⟩⟩, h2, h3, h4⟩
section
variable {prog : Program} {w : World} {A : Around} {E : Value -> Shared -> Prop} {s : Shared} {K : Frag}
end
end Att
namespace L2
open PySem PySem.Spec PyProof.Rows
theorem vals_ints : ∀ {vs : List Value} {ns : List Int}, IntsAre vs ns -> Vals (ns.map V.int) vs
  | _, _, .nil => .nil
  | _, _, .cons n t h => .cons ⟨t, rfl⟩ (vals_ints h)
noncomputable def Only (H : Hp) : Prop := ∀ b, H b = none \/ ∃ o xs, H b = some (.frz o (.lst xs))
theorem law_call {P : Program} {w : World} {K : PySem.W.Frag} {mg mb : Str -> Option Value} {CX : CXT} {k : Nat} {fa a : Addr} {fd : FuncData} {x : Str} {sp : Sp} {s₁ : Shared} {vs : List Value} {ns : List Int}
    (KX : K.In s₁.heap) (hns : s₁.heap.Ns mainGlobals mg) (hb : s₁.heap.Ns builtinsNs mb) (hbb : ∀ x : Str, x ≠ "__name__" -> mb x = bootBuiltins x) (hlim : s₁.heap.NoLimit) (hg : s₁.gens = #[])
    (ha : s₁.heap.get? a = some { cls := .type "list", data := .seq vs.toArray }) (hi : IntsAre vs ns) (hl : ns.length <= sizeLine) (hr : Room k callerA)
    (F : ∀ base : Heap, K.In base -> base.Ns mainGlobals mg -> FnOk P w K mg base CX k fa fd [x] sp) (hbind : ∀ (s : Shared) (u : Value), BindsTo s fd ⟨[u], []⟩ [(x, u)])
    (hsp : ∀ H : Hp, Only H -> SqL K H a (ns.map V.int) -> sp [.ref a] H (fun v _ => v = .bl true) fun _ _ _ => False)
    (hCX : ∀ H e s', CX [] H s₁ (fun _ _ _ => False) e s' -> False) :
    codeAny (model P w) callerA (.call (.ref fa) ⟨[.ref a], []⟩) (fun r s' => r = .ok (.ret (.bool true)) /\ OldK s₁.heap s'.heap /\ s'.os = s₁.os /\ AllBare s'.gens) s₁ := by
  have rv := vals_ints hi
  have lenV := hi.length
  -- from an abstract heap in which nothing but the script may be tracked
  have core : ∀ H : Hp, Only H -> SqL K H a (ns.map V.int) -> HOk P w H s₁.heap -> (∀ b, H b ≠ none -> b = a) -> (H a ≠ none -> K.lookup a = none) ->
      codeAny (model P w) callerA (.call (.ref fa) ⟨[.ref a], []⟩) (fun r s' => r = .ok (.ret (.bool true)) /\ OldK s₁.heap s'.heap /\ s'.os = s₁.os /\ AllBare s'.gens) s₁ := by
    intro H hO hS hok hA hK
    have base_of : ∀ {b : Addr} {o : Obj}, s₁.heap.get? b = some o -> H b = none -> (hidT s₁.heap H).get? b = some o := fun e n => hidT_get e n
    have noA : ∀ {b : Addr} {o : Obj} {es : Array DictEntry} {ep : Nat}, s₁.heap.get? b = some o -> o.data = .dict es ep -> H b = none := fun {b o es ep} e d => by
      cases q : H b with
      | none => rfl
      | some u =>
        have e' : b = a := hA b (by rw [q]; simp)
        subst e'
        rw [ha] at e; cases e
        have d' : Data.seq vs.toArray _ = Data.dict es ep := d
        cases d'
    have nsK : ∀ {b : Addr} {m : Str -> Option Value}, s₁.heap.Ns b m -> (hidT s₁.heap H).Ns b m := fun {b m} ⟨o, es, ep, e, d, r⟩ => ⟨o, es, ep, base_of e (noA e d), d, r⟩
    have hKb : K.In (hidT s₁.heap H) := fun b o e => base_of (KX b o e) (by
      cases q : H b with
      | none => rfl
      | some u =>
        have e' : b = a := hA b (by rw [q]; simp)
        subst e'
        rw [hK (by rw [q]; simp)] at e; cases e)
    have hM : Mod K mg (hidT s₁.heap H) := ⟨hKb, nsK hns, ⟨mb, nsK hb, hbb⟩, let ⟨mc, h1, h2⟩ := hlim; ⟨mc, nsK h1, h2⟩⟩
    have e0 : Env0 P w K mg (hidT s₁.heap H) callerA [] s₁ H := ⟨rfl, hM, fun b o e => of_hidT e, Nat.le_of_eq (hidT_size _ _), trivial, fun b hb => absurd (show b ∈ ([] : List Addr) from hb) (by simp), hok, .of_eq hg⟩
    refine codeAny_mono ((F _ hKb (nsK hns)).run callerA [] s₁ H ⟨[.ref a], []⟩ [.ref a] [.ref a] _ _ hr e0 (hbind s₁ (.ref a)) (.cons rfl .nil) (hsp H hO hS)) fun r s' h => ?_
    cases r with
    | error e => exact (hCX H e s' h).elim
    | ok fl =>
      cases fl with
      | next => exact False.elim h
      | brk => exact False.elim h
      | cont => exact False.elim h
      | ret u =>
        obtain ⟨v, H', os, bare, un, hok', r', q⟩ := h
        have q' : v = .bl true := q
        subst q'
        obtain rfl : u = Value.bool true := r'
        refine ⟨rfl, OldK.of_keep fun b o e => ?_, os, bare⟩
        cases q : H b with
        | none => exact un.keep b o e q (by intro z; exact absurd (show b ∈ ([] : List Addr) from z) (by simp)) (by simp)
        | some u =>
          rcases hO b with z | ⟨ob, xs, z⟩
          · rw [q] at z; cases z
          · have z2 := un.frzs b ob _ z
            obtain ⟨e1, _⟩ := hok b _ z
            obtain ⟨e2, _⟩ := hok' b _ z2
            rw [e] at e1; cases e1
            exact e2
  cases hk : K.lookup a with
  | some o =>
    -- the script is one of the module's own objects
    have e := KX a o hk
    rw [ha] at e
    cases e
    refine core (fun _ => none) (fun _ => .inl rfl) (.inr ⟨_, vs.toArray, _, hk, rfl, rfl, rfl, by rw [List.size_toArray, lenV]; exact hl, by simpa using rv⟩) (fun b u z => by have z' : (none : Option HO) = some u := z; cases z') (fun b z => absurd rfl z) fun z => absurd rfl z
  | none =>
    refine core (fun b => if b = a then some (.frz { cls := .type "list", data := .seq vs.toArray } (.lst (ns.map V.int))) else none) (fun b => ?_) (.inl (.inr ⟨{ cls := .type "list", data := .seq vs.toArray }, if_pos rfl⟩)) (fun b u z => ?_) (fun b z => ?_) fun _ => hk
    · by_cases hb : b = a
      · exact .inr ⟨_, _, if_pos hb⟩
      · exact .inl (if_neg hb)
    · by_cases hb : b = a
      · have z' := (if_pos hb).symm.trans z
        cases z'
        subst hb
        exact ⟨ha, by rw [List.length_map]; exact hl, vs, _, rv, ha⟩
      · have z' := (if_neg hb).symm.trans z
        cases z'
    · by_cases hb : b = a
      · exact hb
      · exact absurd (if_neg hb) z
end L2
namespace L2
open PySem PySem.Spec PyProof.Rows
noncomputable abbrev KOf {K : PySem.W.Frag} {h : Heap} (_ : K.In h) : PySem.W.Frag := K
theorem walk_of {l : PySem.W.OpenLaw} {n k : Nat} {q : Program} {loose : List Str} {XP : (Str -> Option Value) -> Heap -> Prop} {YP : World -> Heap -> Prop} {d : DefRec} {K : Params -> PySem.W.Frag} {CX : World -> CXT} {sp : World -> Sp} {x : Str}
    (hn : l.most = some n) (hn2 : n <= sizeLine) (hdf : d.params.defaults = []) (hr : Room k callerA)
    (hY : ∀ (w : World) (h : Heap), YP w h -> (K w.params).In h)
    (F : ∀ (w : World) (mg : Str -> Option Value) (fa : Addr) (h : Heap), (K w.params).In h -> h.Ns mainGlobals mg -> mg d.name = some (.ref fa) ->
      ∃ fd : FuncData, (∀ (s : Shared) (u : Value), BindsTo s fd ⟨[u], []⟩ [(x, u)]) /\
        ∀ base : Heap, (K w.params).In base -> base.Ns mainGlobals mg -> FnOk l.prog w (K w.params) mg base (CX w) k fa fd [x] (sp w))
    (hsp : ∀ (w : World) (H : Hp) (a : Addr) (ns : List Int), ns.length <= n -> Only H -> SqL (K w.params) H a (ns.map V.int) -> sp w [.ref a] H (fun v _ => v = .bl true) fun _ _ _ => False)
    (hCX : ∀ (w : World) (H : Hp) (s : Shared) (e : Value) (s' : Shared), CX w [] H s (fun _ _ _ => False) e s' -> False) :
    PySem.W.WalkO q loose XP YP l.row.toRowW d [] (fun f vs => PySem.call f vs) := by
  refine Att.attach_call hn hdf fun w s₀ s₁ mg mb fa o pm cd doc a vs ns G Y ho hd hcd hmg hobj hints hlen hg => ?_
  have KX := hY w _ Y
  obtain ⟨fd, hb, hF⟩ := F w mg fa _ KX G.T.g hmg
  exact law_call KX G.T.g G.T.b G.T.builtins G.T.nolimit hg hobj hints (Nat.le_trans hlen hn2) hr hF hb (fun H hO hS => hsp w H a ns hlen hO hS) fun H e s' => hCX w H s₁ e s'
end L2
/- THE LAST THEOREM (shape; LID, My.* are yours):
   My.Adr: a structure of the addresses that your layer names (classes, functions); My.Txt K t: a structure (Prop) of the equations over K;
   My.txt_mk : {K} {implicit addresses ..} (e1 : nsIn K mainGlobals "law" = some (some (.ref f))) (e2 : K.lookup f = some ⟨oc, od, .func (fnOf "law" "law" params body scope dV kV doc pm an cdv ct), sl⟩) (e3 : codeIn K cdv "law" = true) .. : ∃ t, My.Txt K t
set_option maxRecDepth 100000 in
set_option maxHeartbeats 0 in
theorem PySem.Challenge.cw_LID_holds : PySem.Challenge.rw_LID.Holds := by
  w_on; o_law; k_head; (case hw => w_witness2)
  k_fill
  refine L2.walk_of (l := PySem.Challenge.rw_LID) (n := 63) (k := 40) (x := "script") (CX := fun w => ..) (sp := fun _ => My.sp_law) rfl (by decide) rfl ⟨rfl, by decide, by decide⟩ (fun w h Y => PySem.W.kIn_of Y) ?F ?S ?C
  case F =>
    intro w mg fa h KX G hmg
    have T : ∃ t, My.Txt (L2.KOf KX) t := by
      dsimp only [L2.KOf]                          -- K must stand as «<heap const> w.params» for k_is
      refine' My.txt_mk ?e1 ?e2 ?e3 ..
      (case e1 => PySem.W.k_is)                    -- in the order: a name -> its address -> its object -> its parts
      (case e2 => PySem.W.k_is)
      ..
    obtain ⟨t, T⟩ := T
    have e0 := hmg.symm.trans (PySem.W.mg_of KX G T.law)
    cases e0                                       -- fa is the law's own address
    exact ⟨_, fun s u => .of_eq rfl, fun base kb nb => My.law_fn T kb nb⟩     -- if «.of_eq rfl» comes too early: refine' ⟨_, ?b, fun base kb nb => My.law_fn T kb nb⟩; exact fun s u => .of_eq rfl
  case S => exact fun w H a ns hl hO hS => ..
  case C => exact ..
(the tactic k_is has no namespace: write k_is) -/
namespace L2
open PySem PySem.Spec PyProof.Rows
noncomputable def defArgs (s : Stmt) : Arguments := match s with
  | .FunctionDef _ a _ _ _ _ _ _ _ _ => a
  | _ => { posonlyargs := [], args := [], vararg := none, kwonlyargs := [], kw_defaults := [], kwarg := none, defaults := [] }
noncomputable def defBody (s : Stmt) : List Stmt := match s with
  | .FunctionDef _ _ b _ _ _ _ _ _ _ => b
  | _ => []
noncomputable def defScope (s : Stmt) : Scope := match s with
  | .FunctionDef _ _ _ _ _ _ sc _ _ _ => sc
  | _ => { kind := .function, names := [], isGenerator := false, isCoroutine := false }
noncomputable abbrev CX0 : CXT := fun _ _ _ _ _ _ => False
noncomputable abbrev E0 : XK := fun _ _ _ => False
theorem pass0 {X : Cx} : Passes CX0 X E0 := fun _ _ _ _ _ _ _ h => h.elim
structure Fun (K : PySem.W.Frag) (x qual : Str) (st : Stmt) (f : Addr) (fd : FuncData) : Prop where
  ex : ∃ (oc : Value) (od : Option Addr) (kV doc pm : Value) (an : Option Addr) (cdv ct : Value) (osl : Array (Option Value)),
    fd = PySem.W.fnOf x qual (defArgs st) (defBody st) (defScope st) .none kV doc pm an cdv ct /\ K.lookup f = some ⟨oc, od, .func fd, osl⟩ /\ PySem.W.codeIn K cdv qual = true
  kp : PySem.W.keepIn K (.ref f) = true
section
variable {P : Program} {w : World} {K : PySem.W.Frag} {mg : Str -> Option Value} {base : Heap}
theorem Fun.ok {x qual : Str} {st : Stmt} {f : Addr} {fd : FuncData} {N ps : List Str} {k : Nat} {sp : Sp} (F : Fun K x qual st f fd) (S : FnScope N ps (defScope st)) (len : ∀ vs H Q E, sp vs H Q E -> vs.length = ps.length)
    (hbody : ∀ (cdv : Value) (A : Around) (outer : List Env) (s : Shared) (H : Hp) (vs : List V) (Q : VK) (E : XK), Room k (A.deeper (envOfC qual (defScope st) s.heap.objs.size f cdv)) -> sp vs H Q E ->
      ∃ t, PSs (cxOf CX0 P w K mg base N qual (defScope st) f cdv A outer s H E).nox (defBody st) t /\ t { nx := fun _ H' => Q .non H', rt := Q } (start N vs) H) : FnOk P w K mg base CX0 (k + 1) f fd ps sp := by
  obtain ⟨oc, od, kV, doc, pm, an, cdv, ct, osl, rfl, lk, hcd⟩ := F.ex
  refine fn_of lk hcd S len fun A outer s H vs Q E hr hsp => ?_
  obtain ⟨t, h, q⟩ := hbody cdv A outer s H vs Q E hr hsp
  exact ⟨t, h.nox, q⟩
theorem Fun.binds {x qual : Str} {st : Stmt} {f : Addr} {fd : FuncData} {ps : List Str} (F : Fun K x qual st f fd)
    (h : ∀ (kV doc pm : Value) (an : Option Addr) (cdv ct : Value) (us : List Value), us.length = ps.length -> bindArgs (PySem.W.fnOf x qual (defArgs st) (defBody st) (defScope st) .none kV doc pm an cdv ct) ⟨us, []⟩ = pure (ps.zip us)) : Binds K fd ps [] := by
  obtain ⟨oc, od, kV, doc, pm, an, cdv, ct, osl, rfl, lk, hcd⟩ := F.ex
  exact .all (h kV doc pm an cdv ct)
theorem fun_mk {x qual : Str} {st : Stmt} {f : Addr} {oc : Value} {od an : Option Addr} {osl : Array (Option Value)} {kV doc pm cdv ct : Value} (l : K.lookup f = some ⟨oc, od, .func (PySem.W.fnOf x qual (defArgs st) (defBody st) (defScope st) .none kV doc pm an cdv ct), osl⟩)
    (c : PySem.W.codeIn K cdv qual = true) (k : PySem.W.keepIn K (.ref f) = true) : Fun K x qual st f (PySem.W.fnOf x qual (defArgs st) (defBody st) (defScope st) .none kV doc pm an cdv ct) := ⟨⟨oc, od, kV, doc, pm, an, cdv, ct, osl, rfl, l, c⟩, k⟩
end
theorem hu_of {A : Around} {k : Nat} (hr : Room k A) : A.units + 1 < cLine := Nat.lt_of_le_of_lt (Nat.add_le_add_left (by decide : 1 <= 64) _) hr.units
section
variable {X : Cx}
theorem pv (i : Nat) {x : Str} {pos : Pos} (hN : X.N[i]? = some x := by rfl) (hv : Vis X.env.scope x := by first | exact Or.inl rfl | exact Or.inr (Or.inl rfl) | exact Or.inr (Or.inr rfl)) (hd : (x == ("__debug__" : Str)) = false := by decide)
    (hcd : (x == ("__classdict__" : Str)) = false := by decide) : PE X (.Name x pos) (tVar i) := pe_var hN hv hd hcd
end
theorem iteF {A B : Prop} (h : B) : if false = true then A else B := by
  rw [if_neg Bool.false_ne_true]
  exact h
theorem ite2 {c A B : Prop} [Decidable c] (h1 : c -> A) (h2 : ¬ c -> B) : if c then A else B := by
  by_cases h : c
  · rw [if_pos h]
    exact h1 h
  · rw [if_neg h]
    exact h2 h
noncomputable def Same (H H' : Hp) : Prop := ∀ b o, H b = some o -> H' b = some o
theorem Same.refl (H : Hp) : Same H H := fun _ _ h => h
theorem Same.trans {H H1 H2 : Hp} (a : Same H H1) (b : Same H1 H2) : Same H H2 := fun c o h => b c o (a c o h)
end L2
namespace L2
open PySem PySem.Spec PyProof.Rows
section
variable {X : Cx}
end
end L2
namespace L2
open PySem PySem.Spec PyProof.Rows
section
variable {κ : Type} [DecidableEq κ]
end
end L2
end
section
namespace L2
open PySem
section
variable {prog : Program} {w : World} {A : Around} {E : Value -> Shared -> Prop} {s : Shared}
end
end L2
end
section
namespace Kn
open PySem
inductive Val where
  | num (i : Int)
  | word (s : Str)
  | row (ps : List (Str × Val))
  | bag (ps : List (Val × Int))
inductive KE where
  | i (n : Int)
  | s (x : Str)
noncomputable instance : DecidableEq Val := fun a b => Classical.propDecidable (a = b)
noncomputable instance : DecidableEq KE := fun a b => Classical.propDecidable (a = b)
noncomputable def sLt (a b : Str) : Bool := decide (a.cps.toList < b.cps.toList)
noncomputable def rank : Val -> Int
  | .num _ => 0
  | .word _ => 1
  | .row _ => 2
  | .bag _ => 3
mutual
noncomputable def key : Val -> List KE
  | .num i => [.i 0, .i i]
  | .word s => [.i 1, .s s]
  | .row ps => .i 2 :: keyR ps
  | .bag ps => .i 3 :: keyB ps
noncomputable def keyR : List (Str × Val) -> List KE
  | [] => [.i 0]
  | p :: ps => .i 1 :: .s p.1 :: (key p.2 ++ keyR ps)
noncomputable def keyB : List (Val × Int) -> List KE
  | [] => [.i 0]
  | p :: ps => .i 1 :: (key p.1 ++ .i p.2 :: keyB ps)
end
mutual
noncomputable def ltV : Val -> Val -> Bool
  | .num i, .num j => decide (i < j)
  | .word s, .word t => sLt s t
  | .row ps, .row qs => ltR ps qs
  | .bag ps, .bag qs => ltB ps qs
  | x, y => decide (rank x < rank y)
noncomputable def ltR : List (Str × Val) -> List (Str × Val) -> Bool
  | [], [] => false
  | [], _ :: _ => true
  | _ :: _, [] => false
  | p :: ps, q :: qs => if p = q then ltR ps qs else if p.1 = q.1 then ltV p.2 q.2 else sLt p.1 q.1
noncomputable def ltB : List (Val × Int) -> List (Val × Int) -> Bool
  | [], [] => false
  | [], _ :: _ => true
  | _ :: _, [] => false
  | p :: ps, q :: qs => if p = q then ltB ps qs else if p.1 = q.1 then decide (p.2 < q.2) else ltV p.1 q.1
end
noncomputable def kEl : KE -> KE -> Option Bool
  | .i m, .i n => some (decide (m < n))
  | .s x, .s y => some (sLt x y)
  | _, _ => none
noncomputable def cmpK : List KE -> List KE -> Option Bool
  | [], [] => some false
  | [], _ :: _ => some true
  | _ :: _, [] => some false
  | a :: as, b :: bs => if a = b then cmpK as bs else kEl a b
noncomputable def aheadB (x y : Val) : Bool := if x = y then false else ltV x y
end Kn
end
section
namespace L2
open PySem PySem.Spec PyProof.Rows
inductive Dt where
  | int (i : Int)
  | str (x : Str)
  | tup (ds : List Dt)
noncomputable instance : DecidableEq Dt := fun a b => Classical.propDecidable (a = b)
mutual
noncomputable def Dt.dep : Dt -> Nat
  | .int _ => 0
  | .str _ => 0
  | .tup ds => depL ds + 1
noncomputable def depL : List Dt -> Nat
  | [] => 0
  | d :: ds => max d.dep (depL ds)
end
theorem dep_mem : ∀ {ds : List Dt} {d : Dt}, d ∈ ds -> d.dep <= depL ds
  | d :: ds, e, h => by
    rw [depL]
    rcases List.mem_cons.mp h with rfl | h
    · exact Nat.le_max_left _ _
    · exact Nat.le_trans (dep_mem h) (Nat.le_max_right _ _)
mutual
noncomputable def IsDt (H : Hp) : Dt -> V -> Prop
  | .int i, v => v = .int i
  | .str x, v => v = .str x
  | .tup ds, v => ∃ a xs, v = .ref a /\ H a = some (.tup xs) /\ IsDts H ds xs
noncomputable def IsDts (H : Hp) : List Dt -> List V -> Prop
  | [], xs => xs = []
  | d :: ds, xs => ∃ y ys, xs = y :: ys /\ IsDt H d y /\ IsDts H ds ys
end
noncomputable def Tups (H H' : Hp) : Prop := ∀ b xs, H b = some (.tup xs) -> H' b = some (.tup xs)
theorem Same.tups {H H' : Hp} (h : Same H H') : Tups H H' := fun b xs e => h b _ e
theorem Tups.new {H : Hp} {p : Addr} (h : H p = none) (o : HO) : Tups H (upd H p o) := fun b xs e => by rw [upd_ne (ne_of_none e h)]; exact e
theorem Tups.lst {H : Hp} {p : Addr} {xs ys : List V} (h : H p = some (.lst xs)) : Tups H (upd H p (.lst ys)) := fun b zs e => by
  rw [upd_ne (ne_of e h (by intro z; cases z))]; exact e
mutual
theorem IsDt.mono {H H' : Hp} (t : Tups H H') : ∀ {d : Dt} {v : V}, IsDt H d v -> IsDt H' d v
  | .int i, v, h => by rw [IsDt] at h ⊢; exact h
  | .str x, v, h => by rw [IsDt] at h ⊢; exact h
  | .tup ds, v, h => by
    rw [IsDt] at h ⊢
    obtain ⟨a, xs, e, h1, h2⟩ := h
    exact ⟨a, xs, e, t a xs h1, IsDts.mono t h2⟩
theorem IsDts.mono {H H' : Hp} (t : Tups H H') : ∀ {ds : List Dt} {xs : List V}, IsDts H ds xs -> IsDts H' ds xs
  | [], xs, h => by rw [IsDts] at h ⊢; exact h
  | d :: ds, xs, h => by
    rw [IsDts] at h ⊢
    obtain ⟨y, ys, e, h1, h2⟩ := h
    exact ⟨y, ys, e, IsDt.mono t h1, IsDts.mono t h2⟩
end
mutual
theorem IsDt.inj {H : Hp} : ∀ {d e : Dt} {v : V}, IsDt H d v -> IsDt H e v -> d = e
  | .int i, e, v, h, h' => by
    rw [IsDt] at h; subst h
    cases e with
    | int j => rw [IsDt] at h'; cases h'; rfl
    | str y => rw [IsDt] at h'; cases h'
    | tup es => rw [IsDt] at h'; obtain ⟨_, _, z, _⟩ := h'; cases z
  | .str i, e, v, h, h' => by
    rw [IsDt] at h; subst h
    cases e with
    | int j => rw [IsDt] at h'; cases h'
    | str y => rw [IsDt] at h'; cases h'; rfl
    | tup es => rw [IsDt] at h'; obtain ⟨_, _, z, _⟩ := h'; cases z
  | .tup ds, e, v, h, h' => by
    rw [IsDt] at h
    obtain ⟨a, xs, rfl, h1, h2⟩ := h
    cases e with
    | int j => rw [IsDt] at h'; cases h'
    | str y => rw [IsDt] at h'; cases h'
    | tup es =>
      rw [IsDt] at h'
      obtain ⟨b, ys, z, g1, g2⟩ := h'
      cases z
      rw [h1] at g1
      cases g1
      rw [IsDts.inj h2 g2]
theorem IsDts.inj {H : Hp} : ∀ {ds es : List Dt} {xs : List V}, IsDts H ds xs -> IsDts H es xs -> ds = es
  | [], es, xs, h, h' => by
    rw [IsDts] at h; subst h
    cases es with
    | nil => rfl
    | cons e es => rw [IsDts] at h'; obtain ⟨_, _, z, _⟩ := h'; cases z
  | d :: ds, es, xs, h, h' => by
    rw [IsDts] at h
    obtain ⟨y, ys, rfl, h1, h2⟩ := h
    cases es with
    | nil => rw [IsDts] at h'; cases h'
    | cons e es =>
      rw [IsDts] at h'
      obtain ⟨y', ys', z, g1, g2⟩ := h'
      cases z
      rw [IsDt.inj h1 g1, IsDts.inj h2 g2]
end
theorem IsDts.length {H : Hp} : ∀ {ds : List Dt} {xs : List V}, IsDts H ds xs -> xs.length = ds.length
  | [], xs, h => by rw [IsDts] at h; subst h; rfl
  | d :: ds, xs, h => by
    rw [IsDts] at h
    obtain ⟨y, ys, rfl, h1, h2⟩ := h
    simp [IsDts.length h2]
theorem IsDts.get {H : Hp} : ∀ {ds : List Dt} {xs : List V} {i : Nat} {d : Dt}, IsDts H ds xs -> ds[i]? = some d -> ∃ y, xs[i]? = some y /\ IsDt H d y
  | [], xs, i, d, h, e => by simp at e
  | c :: ds, xs, 0, d, h, e => by
    rw [IsDts] at h
    obtain ⟨y, ys, rfl, h1, h2⟩ := h
    simp at e; subst e
    exact ⟨y, rfl, h1⟩
  | c :: ds, xs, i + 1, d, h, e => by
    rw [IsDts] at h
    obtain ⟨y, ys, rfl, h1, h2⟩ := h
    obtain ⟨z, q, r⟩ := IsDts.get (i := i) h2 (by simpa using e)
    exact ⟨z, by simpa using q, r⟩
theorem IsDts.append {H : Hp} : ∀ {ds es : List Dt} {xs ys : List V}, IsDts H ds xs -> IsDts H es ys -> IsDts H (ds ++ es) (xs ++ ys)
  | [], es, xs, ys, h, h' => by rw [IsDts] at h; subst h; exact h'
  | d :: ds, es, xs, ys, h, h' => by
    rw [IsDts] at h
    obtain ⟨z, zs, rfl, h1, h2⟩ := h
    rw [List.cons_append, List.cons_append, IsDts]
    exact ⟨z, zs ++ ys, rfl, h1, IsDts.append h2 h'⟩
theorem IsDts.one {H : Hp} {d : Dt} {v : V} (h : IsDt H d v) : IsDts H [d] [v] := by
  rw [IsDts]; exact ⟨v, [], rfl, h, by rw [IsDts]⟩
theorem IsDts.cons {H : Hp} {d : Dt} {v : V} {ds : List Dt} {vs : List V} (h : IsDt H d v) (h' : IsDts H ds vs) : IsDts H (d :: ds) (v :: vs) := by
  rw [IsDts]; exact ⟨v, vs, rfl, h, h'⟩
theorem IsDts.nil {H : Hp} : IsDts H [] [] := by rw [IsDts]
theorem isDt_int {H : Hp} (i : Int) : IsDt H (.int i) (.int i) := by rw [IsDt]
theorem isDt_str {H : Hp} (x : Str) : IsDt H (.str x) (.str x) := by rw [IsDt]
theorem isDt_tup {H : Hp} {a : Addr} {xs : List V} {ds : List Dt} (h : H a = some (.tup xs)) (h' : IsDts H ds xs) : IsDt H (.tup ds) (.ref a) := by rw [IsDt]; exact ⟨a, xs, rfl, h, h'⟩
section
variable {P : Program} {w : World} {H : Hp}
theorem all_eq (ds es : List Dt) : ((List.range (min ds.length es.length)).all (fun j => decide (ds[j]? = es[j]?)) && ds.length == es.length) = decide (ds = es) := by
  rw [Bool.eq_iff_iff]
  simp only [Bool.and_eq_true, List.all_eq_true, List.mem_range, decide_eq_true_eq, beq_iff_eq]
  constructor
  · rintro ⟨h1, h2⟩
    refine List.ext_getElem? fun i => ?_
    by_cases hi : i < min ds.length es.length
    · exact h1 i hi
    · rw [List.getElem?_eq_none (by lia), List.getElem?_eq_none (by lia)]
  · rintro rfl
    exact ⟨fun _ _ => rfl, rfl⟩
theorem eqAt_D : ∀ (n : Nat) (A : Around) (s : Shared) (d e : Dt) (v u : V) (x y : Value), HOk P w H s.heap -> d.dep <= n -> A.units + n < cLine -> IsDt H d v -> IsDt H e u -> RelV v x -> RelV u y -> SeqAt.EqAt A s x y (decide (d = e)) := by
  intro n
  induction n with
  | zero =>
    intro A s d e v u x y ok hd hu iv iu rv ru
    cases d with
    | int i =>
      rw [IsDt] at iv; subst iv
      obtain ⟨t, rfl⟩ := rv
      cases e with
      | int j =>
        rw [IsDt] at iu; subst iu
        obtain ⟨t', rfl⟩ := ru
        have z : decide (Dt.int i = Dt.int j) = (i == j) := by rw [Bool.eq_iff_iff]; simp
        rw [z]; exact SeqAt.EqAt.int_int i t j t'
      | str z =>
        rw [IsDt] at iu; subst iu
        obtain ⟨t', rfl⟩ := ru
        rw [decide_eq_false (by intro q; cases q)]; exact SeqAt.EqAt.int_str i t z t'
      | tup es =>
        rw [IsDt] at iu
        obtain ⟨a, xs, rfl, h1, h2⟩ := iu
        cases ru
        obtain ⟨hz, its, r, p⟩ := ok a _ h1
        rw [decide_eq_false (by intro q; cases q)]; exact SeqAt.EqAt.int_tuple i t p (by lia)
    | str i =>
      rw [IsDt] at iv; subst iv
      obtain ⟨t, rfl⟩ := rv
      cases e with
      | int j =>
        rw [IsDt] at iu; subst iu
        obtain ⟨t', rfl⟩ := ru
        rw [decide_eq_false (by intro q; cases q)]; exact SeqAt.EqAt.str_int i t j t'
      | str z =>
        rw [IsDt] at iu; subst iu
        obtain ⟨t', rfl⟩ := ru
        have q : decide (Dt.str i = Dt.str z) = (i == z) := by rw [Bool.eq_iff_iff]; simp
        rw [q]; exact SeqAt.EqAt.str_str i t z t'
      | tup es =>
        rw [IsDt] at iu
        obtain ⟨a, xs, rfl, h1, h2⟩ := iu
        cases ru
        obtain ⟨hz, its, r, p⟩ := ok a _ h1
        rw [decide_eq_false (by intro q; cases q)]; exact SeqAt.EqAt.str_tuple i t p (by lia)
    | tup ds => rw [Dt.dep] at hd; lia
  | succ n ih =>
    intro A s d e v u x y ok hd hu iv iu rv ru
    cases d with
    | int i => exact ih A s _ e v u x y ok (by rw [Dt.dep]; lia) (by lia) iv iu rv ru
    | str i => exact ih A s _ e v u x y ok (by rw [Dt.dep]; lia) (by lia) iv iu rv ru
    | tup ds =>
      rw [IsDt] at iv
      obtain ⟨a, xs, rfl, h1, h2⟩ := iv
      cases rv
      obtain ⟨hz, its, r, p⟩ := ok a _ h1
      cases e with
      | int j =>
        rw [IsDt] at iu; subst iu
        obtain ⟨t', rfl⟩ := ru
        rw [decide_eq_false (by intro q; cases q)]; exact SeqAt.EqAt.tuple_int j t' p (by lia)
      | str z =>
        rw [IsDt] at iu; subst iu
        obtain ⟨t', rfl⟩ := ru
        rw [decide_eq_false (by intro q; cases q)]; exact SeqAt.EqAt.tuple_str z t' p (by lia)
      | tup es =>
        have iu' := iu
        rw [IsDt] at iu
        obtain ⟨b, ys, rfl, g1, g2⟩ := iu
        cases ru
        obtain ⟨hz2, its2, r2, p2⟩ := ok b _ g1
        by_cases hab : a = b
        · subst hab
          rw [h1] at g1
          cases g1
          rw [IsDts.inj h2 g2, decide_eq_true rfl]
          exact SeqAt.EqAt.same _
        · have l1 : its.toArray.size = ds.length := by rw [List.size_toArray, <- r.length, h2.length]
          have l2 : its2.toArray.size = es.length := by rw [List.size_toArray, <- r2.length, g2.length]
          have q := SeqAt.RcAt.tuples (s := s) (A := A) (e := fun j => decide (ds[j]? = es[j]?)) p p2 (by lia) fun j hj1 hj2 => by
            have k1 : j < ds.length := by rw [<- l1]; exact hj1
            have k2 : j < es.length := by rw [<- l2]; exact hj2
            obtain ⟨y1, e1, i1⟩ := h2.get (i := j) (List.getElem?_eq_getElem k1)
            obtain ⟨y2, e2, i2⟩ := g2.get (i := j) (List.getElem?_eq_getElem k2)
            obtain ⟨u1, f1, q1⟩ := r.get e1
            obtain ⟨u2, f2, q2⟩ := r2.get e2
            have w1 : its.toArray[j] = u1 := by
              have := (List.getElem?_eq_some_iff.mp f1).2
              simpa using this
            have w2 : its2.toArray[j] = u2 := by
              have := (List.getElem?_eq_some_iff.mp f2).2
              simpa using this
            rw [w1, w2, List.getElem?_eq_getElem k1, List.getElem?_eq_getElem k2]
            have z : decide (some ds[j] = some es[j]) = decide (ds[j] = es[j]) := by rw [Bool.eq_iff_iff]; simp
            rw [z]
            have hdep : ds[j].dep <= n := by
              have := dep_mem (List.getElem_mem k1)
              rw [Dt.dep] at hd
              lia
            exact ih A.in1 s _ _ y1 y2 u1 u2 ok hdep (by show A.units + 1 + n < cLine; lia) i1 i2 q1 q2
          rw [l1, l2, all_eq] at q
          have z : decide (Dt.tup ds = Dt.tup es) = decide (ds = es) := by rw [Bool.eq_iff_iff]; simp
          rw [z]
          exact SeqAt.EqAt.of_refs hab q
end
section
variable {X : Cx}
noncomputable def depMax : Nat := 100
noncomputable def rEqD : R2 := fun x y H Q => ∃ d e, IsDt H d x /\ IsDt H e y /\ d.dep <= depMax /\ Q (.bl (decide (d = e))) H
theorem items_eq {P : Program} {w : World} {H : Hp} {s : Shared} {A : Around} {ds es : List Dt} {xs ys : List V} {its its2 : List Value} {n : Nat} (ok : HOk P w H s.heap) (hd : depL ds <= n) (hu : A.units + n < cLine) (h2 : IsDts H ds xs) (g2 : IsDts H es ys) (r : Vals xs its) (r2 : Vals ys its2) :
    ∀ j (h1 : j < its.toArray.size) (h2 : j < its2.toArray.size), SeqAt.EqAt A s its.toArray[j] its2.toArray[j] (decide (ds[j]? = es[j]?)) := fun j hj1 hj2 => by
  have l1 : its.toArray.size = ds.length := by rw [List.size_toArray, <- r.length, h2.length]
  have l2 : its2.toArray.size = es.length := by rw [List.size_toArray, <- r2.length, g2.length]
  have k1 : j < ds.length := by rw [<- l1]; exact hj1
  have k2 : j < es.length := by rw [<- l2]; exact hj2
  obtain ⟨y1, e1, i1⟩ := h2.get (i := j) (List.getElem?_eq_getElem k1)
  obtain ⟨y2, e2, i2⟩ := g2.get (i := j) (List.getElem?_eq_getElem k2)
  obtain ⟨u1, f1, q1⟩ := r.get e1
  obtain ⟨u2, f2, q2⟩ := r2.get e2
  have w1 : its.toArray[j] = u1 := by
    have := (List.getElem?_eq_some_iff.mp f1).2
    simpa using this
  have w2 : its2.toArray[j] = u2 := by
    have := (List.getElem?_eq_some_iff.mp f2).2
    simpa using this
  rw [w1, w2, List.getElem?_eq_getElem k1, List.getElem?_eq_getElem k2]
  have z : decide (some ds[j] = some es[j]) = decide (ds[j] = es[j]) := by rw [Bool.eq_iff_iff]; simp
  rw [z]
  exact eqAt_D n A s _ _ y1 y2 u1 u2 ok (Nat.le_trans (dep_mem (List.getElem_mem k1)) hd) hu i1 i2 q1 q2
theorem op_eqD (hu : X.A.units + 110 < cLine) : OpR X (compareOp .Eq) rEqD := by
  intro pins s σ H x y v u Q I rx ry h
  obtain ⟨d, e, ix, iy, hd, q⟩ := h
  cases d with
  | int i =>
    rw [IsDt] at ix; subst ix
    cases e with
    | int j =>
      rw [IsDt] at iy; subst iy
      refine op_eq pins s σ H _ _ v u Q I rx ry ⟨rfl, ?_⟩
      have z : decide (V.int i = V.int j) = decide (Dt.int i = Dt.int j) := by rw [Bool.eq_iff_iff]; simp
      rw [z]; exact q
    | str j =>
      rw [IsDt] at iy; subst iy
      refine op_eq pins s σ H _ _ v u Q I rx ry ⟨rfl, ?_⟩
      have z : decide (V.int i = V.str j) = decide (Dt.int i = Dt.str j) := by rw [Bool.eq_iff_iff]; simp
      rw [z]; exact q
    | tup es =>
      rw [IsDt] at iy
      obtain ⟨a, xs, rfl, h1, h2⟩ := iy
      cases ry
      obtain ⟨t, rfl⟩ := rx
      obtain ⟨hz, its, r, p⟩ := I.hok a _ h1
      rw [decide_eq_false (by intro q; cases q)] at q
      exact SeqAt.RcAt.int_tuple i t p (by lia) _ _ _ _ ⟨.bl false, H, I, rfl, q⟩
  | str i =>
    rw [IsDt] at ix; subst ix
    cases e with
    | int j =>
      rw [IsDt] at iy; subst iy
      refine op_eq pins s σ H _ _ v u Q I rx ry ⟨rfl, ?_⟩
      have z : decide (V.str i = V.int j) = decide (Dt.str i = Dt.int j) := by rw [Bool.eq_iff_iff]; simp
      rw [z]; exact q
    | str j =>
      rw [IsDt] at iy; subst iy
      refine op_eq pins s σ H _ _ v u Q I rx ry ⟨rfl, ?_⟩
      have z : decide (V.str i = V.str j) = decide (Dt.str i = Dt.str j) := by rw [Bool.eq_iff_iff]; simp
      rw [z]; exact q
    | tup es =>
      rw [IsDt] at iy
      obtain ⟨a, xs, rfl, h1, h2⟩ := iy
      cases ry
      obtain ⟨t, rfl⟩ := rx
      obtain ⟨hz, its, r, p⟩ := I.hok a _ h1
      rw [decide_eq_false (by intro q; cases q)] at q
      exact SeqAt.RcAt.str_tuple i t p (by lia) _ _ _ _ ⟨.bl false, H, I, rfl, q⟩
  | tup ds =>
    rw [IsDt] at ix
    obtain ⟨a, xs, rfl, h1, h2⟩ := ix
    cases rx
    obtain ⟨hz, its, r, p⟩ := I.hok a _ h1
    cases e with
    | int j =>
      rw [IsDt] at iy; subst iy
      obtain ⟨t, rfl⟩ := ry
      rw [decide_eq_false (by intro q; cases q)] at q
      exact SeqAt.RcAt.tuple_int j t p (by lia) _ _ _ _ ⟨.bl false, H, I, rfl, q⟩
    | str j =>
      rw [IsDt] at iy; subst iy
      obtain ⟨t, rfl⟩ := ry
      rw [decide_eq_false (by intro q; cases q)] at q
      exact SeqAt.RcAt.tuple_str j t p (by lia) _ _ _ _ ⟨.bl false, H, I, rfl, q⟩
    | tup es =>
      rw [IsDt] at iy
      obtain ⟨b, ys, rfl, g1, g2⟩ := iy
      cases ry
      obtain ⟨hz2, its2, r2, p2⟩ := I.hok b _ g1
      have l1 : its.toArray.size = ds.length := by rw [List.size_toArray, <- r.length, h2.length]
      have l2 : its2.toArray.size = es.length := by rw [List.size_toArray, <- r2.length, g2.length]
      rw [Dt.dep] at hd
      have z : decide (Dt.tup ds = Dt.tup es) = decide (ds = es) := by rw [Bool.eq_iff_iff]; simp
      rw [z] at q
      refine SeqAt.RcAt.tuples (s := s) (A := X.A) (e := fun j => decide (ds[j]? = es[j]?)) p p2 (by lia) (items_eq (n := depMax) (A := X.A.in1) I.hok (by lia) (by show X.A.units + 1 + depMax < cLine; unfold depMax; lia) h2 g2 r r2) _ _ _ _ ?_
      rw [l1, l2, all_eq]
      exact ⟨.bl _, H, I, rfl, q⟩
theorem op_neD (hu : X.A.units + 110 < cLine) : OpR X (compareOp .NotEq) (fun x y H Q => ∃ ds es, IsDt H (.tup ds) x /\ IsDt H (.tup es) y /\ depL ds <= depMax /\ Q (.bl (!decide (ds = es))) H) := by
  intro pins s σ H x y v u Q I rx ry h
  obtain ⟨ds, es, ix, iy, hd, q⟩ := h
  rw [IsDt] at ix iy
  obtain ⟨a, xs, rfl, h1, h2⟩ := ix
  obtain ⟨b, ys, rfl, g1, g2⟩ := iy
  cases rx
  cases ry
  obtain ⟨hz, its, r, p⟩ := I.hok a _ h1
  obtain ⟨hz2, its2, r2, p2⟩ := I.hok b _ g1
  have l1 : its.toArray.size = ds.length := by rw [List.size_toArray, <- r.length, h2.length]
  have l2 : its2.toArray.size = es.length := by rw [List.size_toArray, <- r2.length, g2.length]
  refine SeqAt.RcNeAt.tuples (s := s) (A := X.A) (e := fun j => decide (ds[j]? = es[j]?)) p p2 (by lia) (items_eq (n := depMax) (A := X.A.in1) I.hok (by lia) (by show X.A.units + 1 + depMax < cLine; unfold depMax; lia) h2 g2 r r2) _ _ _ _ ?_
  rw [l1, l2, all_eq]
  exact ⟨.bl _, H, I, rfl, q⟩
noncomputable def eqDv (H : Hp) (d : Dt) (u : Value) : Bool := @decide (∃ v, RelV v u /\ IsDt H d v) (Classical.propDecidable _)
theorem relV_inj {v v' : V} {u : Value} (h : RelV v u) (h' : RelV v' u) : v = v' := by
  cases v <;> cases v' <;> simp only [RelV] at h h' <;> first
    | rfl
    | (obtain ⟨t, rfl⟩ := h; obtain ⟨t', h'⟩ := h'; injection h' with h' _; subst h'; rfl)
    | (obtain ⟨t, rfl⟩ := h; obtain ⟨t', h'⟩ := h'; cases h'; done)
    | (subst h; cases h'; rfl)
    | (subst h; obtain ⟨t', h'⟩ := h'; cases h')
    | (obtain ⟨t, rfl⟩ := h; cases h')
theorem eqDv_of {H : Hp} {d e : Dt} {v : V} {u : Value} (r : RelV v u) (i : IsDt H e v) : eqDv H d u = decide (e = d) := by
  unfold eqDv
  rw [Bool.eq_iff_iff]
  simp only [decide_eq_true_eq]
  constructor
  · rintro ⟨v', r', i'⟩
    rw [relV_inj r' r] at i'
    exact i.inj i'
  · rintro rfl
    exact ⟨v, r, i⟩
theorem mem_eqD {P : Program} {w : World} {H : Hp} {s : Shared} {A : Around} {d : Dt} {x : V} {v : Value} {n : Nat} (ok : HOk P w H s.heap) (hu : A.units + n < cLine) (rx : RelV x v) (ix : IsDt H d x) :
    ∀ {ds : List Dt} {xs : List V} {us : List Value}, depL ds <= n -> IsDts H ds xs -> Vals xs us -> (∀ u ∈ us, SeqAt.EqAt A s u v (eqDv H d u)) /\ us.map (eqDv H d) = ds.map fun e => decide (e = d)
  | [], xs, us, hd, hi, r => by
    rw [IsDts] at hi; subst hi; cases r
    exact ⟨fun u hu => (nomatch hu), rfl⟩
  | e :: ds, xs, us, hd, hi, r => by
    rw [IsDts] at hi
    obtain ⟨y, ys, rfl, h1, h2⟩ := hi
    cases r with
    | cons r1 r2 =>
      rw [depL] at hd
      obtain ⟨m1, m2⟩ := mem_eqD ok hu rx ix (by lia) h2 r2
      have e1 := eqDv_of (d := d) r1 h1
      refine ⟨fun u hu' => ?_, by rw [List.map_cons, List.map_cons, e1, m2]⟩
      rcases List.mem_cons.mp hu' with rfl | hu'
      · rw [e1]; exact eqAt_D n A s e d y x _ v ok (by lia) hu h1 ix r1 rx
      · exact m1 u hu'
theorem any_map_of {α : Type} {us : List α} {f : α -> Bool} {ds : List Dt} {d : Dt} (h : us.map f = ds.map fun e => decide (e = d)) : us.any f = decide (d ∈ ds) := by
  have e1 : us.any f = (us.map f).any id := by simp
  have e2 : (ds.map fun e => decide (e = d)).any id = decide (d ∈ ds) := by
    rw [Bool.eq_iff_iff]
    simp
  rw [e1, h, e2]
noncomputable def rInD (K : PySem.W.Frag) (neg : Bool) : R2 := fun x y H Q => ∃ p xs d ds, y = .ref p /\ SqL K H p xs /\ IsDt H d x /\ IsDts H ds xs /\ depL ds <= depMax /\ Q (.bl (if neg then !decide (d ∈ ds) else decide (d ∈ ds))) H
theorem op_notInD (hu : X.A.units + 110 < cLine) : OpR X (compareOp .NotIn) (rInD X.K true) := by
  intro pins s σ H x y v u Q I rx ry h
  obtain ⟨p, xs, d, ds, rfl, hq, ix, is, hd, q⟩ := h
  cases ry
  obtain ⟨its, r, pl, hz⟩ := I.list hq
  obtain ⟨m1, m2⟩ := mem_eqD (A := X.A.in1) I.hok (by show X.A.units + 1 + depMax < cLine; unfold depMax; lia) rx ix hd is r
  refine SeqAt.notIn_listAt (eqDv H d) pl.isList (fun w hw => m1 w (by simpa using hw)) ⟨.bl _, H, I, rfl, ?_⟩
  rw [show its.toArray.any (eqDv H d) = its.any (eqDv H d) by simp, any_map_of m2]
  exact q
theorem op_inD (hu : X.A.units + 110 < cLine) : OpR X (compareOp .In) (rInD X.K false) := by
  intro pins s σ H x y v u Q I rx ry h
  obtain ⟨p, xs, d, ds, rfl, hq, ix, is, hd, q⟩ := h
  cases ry
  obtain ⟨its, r, pl, hz⟩ := I.list hq
  obtain ⟨m1, m2⟩ := mem_eqD (A := X.A.in1) I.hok (by show X.A.units + 1 + depMax < cLine; unfold depMax; lia) rx ix hd is r
  refine SeqAt.in_listAt (eqDv H d) pl.isList (fun w hw => m1 w (by simpa using hw)) ⟨.bl _, H, I, rfl, ?_⟩
  rw [show its.toArray.any (eqDv H d) = its.any (eqDv H d) by simp, any_map_of m2]
  exact q
end
end L2
end
section
namespace L2
open PySem PySem.Spec PyProof.Rows
open Kn (KE cmpK kEl sLt)
noncomputable def kv : KE -> V
  | .i n => .int n
  | .s x => .str x
theorem eqAt_K {A : Around} {s : Shared} {a c : KE} {y x : Value} (ra : RelV (kv a) y) (rc : RelV (kv c) x) : ∃ e, SeqAt.EqAt A s y x e /\ (e = true ↔ a = c) := by
  cases a with
  | i m =>
    obtain ⟨t, rfl⟩ := ra
    cases c with
    | i n => obtain ⟨u, rfl⟩ := rc; exact ⟨(m == n), SeqAt.EqAt.int_int m t n u, by simp⟩
    | s z => obtain ⟨u, rfl⟩ := rc; exact ⟨false, SeqAt.EqAt.int_str m t z u, by simp⟩
  | s w =>
    obtain ⟨t, rfl⟩ := ra
    cases c with
    | i n => obtain ⟨u, rfl⟩ := rc; exact ⟨false, SeqAt.EqAt.str_int w t n u, by simp⟩
    | s z => obtain ⟨u, rfl⟩ := rc; exact ⟨(w == z), SeqAt.EqAt.str_str w t z u, by simp⟩
theorem rcLt_K {A : Around} {s : Shared} {a c : KE} {y x : Value} {r : Bool} (ra : RelV (kv a) y) (rc : RelV (kv c) x) (h : kEl a c = some r) (prog : Program) (w : World) (E : Value -> Shared -> Prop) (Q : Value -> Shared -> Prop) (q : Q (.bool r) s) :
    wpAny (model prog w) A (richCompare .Lt y x) Q E s := by
  cases a with
  | i m =>
    obtain ⟨t, rfl⟩ := ra
    cases c with
    | i n =>
      obtain ⟨u, rfl⟩ := rc
      cases h
      exact HT.rcLt_int A s m t n u prog w E Q q
    | s z => cases h
  | s v =>
    obtain ⟨t, rfl⟩ := ra
    cases c with
    | i n => cases h
    | s z =>
      obtain ⟨u, rfl⟩ := rc
      cases h
      exact (PyProof.Rows.lt_str q : wpAny (model prog w) A (compareOp .Lt (.str v t) (.str z u)) Q E s)
section
open PySem.SeqAt
open PySem.AutoSeq1 (wpAny_loadPart')
open PySem.MeetsSeq PySem.MeetsSeq2 PySem.MeetsSeq3
theorem tuple_ltK (l b : Addr) (items items2 : Array Value) (n n2 : Nat) (dd dd2 : Option Addr) (sl sl2 : Array (Option Value)) (ks js : List KE) (hi : Vals (ks.map kv) items.toList) (hj : Vals (js.map kv) items2.toList) (r : Bool) (hr : cmpK ks js = some r) :
    Meets (Builtin.«tuple.__lt__» ⟨[.ref l, .ref b], []⟩)
      (fun _ R s => s.heap.get? l = some { cls := .type "tuple", dict := dd, data := .seq items n, slots := sl } /\ s.heap.get? b = some { cls := .type "tuple", dict := dd2, data := .seq items2 n2, slots := sl2 } /\
        R (.ok (.ret (.bool r))) s) :=
  .of_wp fun prog w A R s h => by
    obtain ⟨hp, g, d, tk, os⟩ := s; obtain ⟨hl, hb, h⟩ := h
    have f2 := AutoSeq1.sub_tuple_tuple
    have z1 : items.size = ks.length := by have := hi.length; simpa using this.symm
    have z2 : items2.size = js.length := by have := hj.length; simpa using this.symm
    wp_walk using wpAny_loadPart' hl, wpAny_loadPart' hb, wpAny_forIn_list _ (fun rest b s' => b.1 = none /\ s' = ⟨hp, g, d, tk, os⟩ /\ ∃ (vs ws : List Value) (ks' js' : List KE), rest = vs.zip ws /\
      Vals (ks'.map kv) vs /\ Vals (js'.map kv) ws /\ ks'.length + items2.size = js'.length + items.size /\ cmpK ks' js' = some r) _
    case turn =>
      rintro ⟨y, x⟩ rest b s' ⟨hb', rfl, vs, ws, ks', js', hz, hvi, hwi, hlen, hR⟩
      cases ks' with
      | nil => cases hvi; rw [List.zip_nil_left] at hz; cases hz
      | cons a ks' =>
        cases js' with
        | nil => cases hwi; rw [List.zip_nil_right] at hz; cases hz
        | cons c js' =>
          rw [List.map_cons] at hvi hwi
          cases hvi with
          | cons ra hvi' =>
            cases hwi with
            | cons rc hwi' =>
              rw [List.zip_cons_cons] at hz
              injection hz with hyx hrest
              injection hyx with hy hx
              subst hy hx
              rw [Kn.cmpK] at hR
              simp only [List.length_cons] at hlen
              obtain ⟨e, he, hiff⟩ := eqAt_K (A := A.in1) (s := ⟨hp, g, d, tk, os⟩) ra rc
              refine wpAny_bind (he prog w _ _ ?_)
              cases e with
              | true =>
                rw [if_pos (hiff.mp rfl)] at hR
                wp_walk
                exact ⟨rfl, rfl, _, _, _, _, hrest, hvi', hwi', by lia, hR⟩
              | false =>
                rw [if_neg (fun q => absurd (hiff.mpr q) Bool.false_ne_true)] at hR
                have hri := rcLt_K (A := A.in1) (s := ⟨hp, g, d, tk, os⟩) ra rc hR prog w
                wp_walk using hri
                exact ⟨_, rfl, by simpa using h⟩
    case fin =>
      rintro ⟨b1, b2⟩ s' ⟨hb', rfl, vs, ws, ks', js', hz, hvi, hwi, hlen, hR⟩
      simp only at hb'
      subst hb'
      have hv : r = decide (items.size < items2.size) := by
        cases ks' with
        | nil =>
          cases js' with
          | nil =>
            simp only [List.length_nil] at hlen
            cases hR
            exact (decide_eq_false (by lia)).symm
          | cons c js' =>
            simp only [List.length_nil, List.length_cons] at hlen
            cases hR
            exact (decide_eq_true (by lia)).symm
        | cons a ks' =>
          cases js' with
          | nil =>
            simp only [List.length_nil, List.length_cons] at hlen
            cases hR
            exact (decide_eq_false (by lia)).symm
          | cons c js' =>
            rw [List.map_cons] at hvi hwi
            cases hvi
            cases hwi
            rw [List.zip_cons_cons] at hz
            cases hz
      rw [hv] at h
      wp_walk
      exact ⟨_, rfl, by simpa [Builtin.Tuple.tupleCompareSizes] using h⟩
    case h =>
      exact ⟨rfl, rfl, items.toList, items2.toList, ks, js, rfl, hi, hj, by lia, hr⟩
end
section
variable {X : Cx}
noncomputable def rLtK (K : PySem.W.Frag) : R2 := fun x y H Q => ∃ a b ks js r, x = .ref a /\ y = .ref b /\ SqT K H a (ks.map kv) /\ SqT K H b (js.map kv) /\ cmpK ks js = some r /\ Q (.bl r) H
theorem op_ltK (hu : X.A.units < cLine) : OpR X (compareOp .Lt) (rLtK X.K) := by
  intro pins s σ H x y v u Q I rx ry h
  obtain ⟨a, b, ks, js, r, rfl, rfl, ha, hb, hr, q⟩ := h
  cases rx
  cases ry
  obtain ⟨its, r1, p1, _⟩ := I.tuple ha
  obtain ⟨its2, r2, p2, _⟩ := I.tuple hb
  obtain ⟨⟨cls, dd, data, sl⟩, ho, hc, n, hd⟩ := id p1
  obtain ⟨⟨cls2, dd2, data2, sl2⟩, ho2, hc2, n2, hd2⟩ := id p2
  simp only at hc hd hc2 hd2
  subst hc hd hc2 hd2
  exact richCompare_meets_room (op := .Lt) ⟨_, ho, rfl⟩ ⟨_, ho2, rfl⟩ PySem.F.slot_tuple_lt PySem.F.entry_tuple_lt (PySem.F.args_tuple_lt_2 _ _) (tuple_ltK a b its.toArray its2.toArray n n2 dd dd2 sl sl2 ks js (by simpa using r1) (by simpa using r2) r hr)
    ⟨ho, ho2, show Value.bool r ≠ Value.notImplemented /\ EP X pins σ Q (.bool r) s from ⟨(fun x => nomatch x), ⟨.bl r, H, I, rfl, q⟩⟩⟩ hu
noncomputable def rLtE : R2 := fun x y H Q => ∃ a c r, x = kv a /\ y = kv c /\ kEl a c = some r /\ Q (.bl r) H
theorem op_ltE : OpR X (compareOp .Lt) rLtE := by
  intro pins s σ H x y v u Q I rx ry h
  obtain ⟨a, c, r, rfl, rfl, hr, q⟩ := h
  show wpAny (model X.prog X.w) X.A (richCompare .Lt v u) (EP X pins σ Q) X.xe s
  exact rcLt_K rx ry hr X.prog X.w _ _ ⟨.bl r, H, I, rfl, q⟩
noncomputable def isiV (H : Hp) (x : V) (T : String) (b : Bool) : Prop :=
  (T = "tuple" /\ ((∃ i, x = .int i) /\ b = false \/ (∃ z, x = .str z) /\ b = false \/ (∃ a xs, x = .ref a /\ H a = some (.tup xs)) /\ b = true)) \/ (T = "bool" /\ (∃ c, x = .bl c) /\ b = true)
theorem call_isi : CallR X (.builtin "isinstance") (fun xs H Q => ∃ x T b, xs = [x, .ty T] /\ isiV H x T b /\ Q (.bl b) H) := by
  intro pins s σ H xs us Q I r h
  obtain ⟨x, T, b, rfl, hi, q⟩ := h
  obtain ⟨u, v, rfl, ru, rv⟩ := r.two
  cases rv
  rcases hi with ⟨rfl, ⟨⟨i, rfl⟩, rfl⟩ | ⟨⟨z, rfl⟩, rfl⟩ | ⟨⟨a, ys, rfl, ha⟩, rfl⟩⟩ | ⟨rfl, ⟨c, rfl⟩, rfl⟩
  · obtain ⟨t, rfl⟩ := ru
    exact IsiPair.int_tuple ⟨.bl false, H, I.tok _, rfl, q⟩
  · obtain ⟨t, rfl⟩ := ru
    exact IsiPair.str_tuple ⟨.bl false, H, I.tok _, rfl, q⟩
  · cases ru
    obtain ⟨hz, its, r', o, ho, hc, _⟩ := I.hok a _ ha
    exact IsiPair.tuple_tuple ho hc ⟨.bl true, H, I, rfl, q⟩
  · cases ru
    exact IsiPair.bool_bool ⟨.bl true, H, I, rfl, q⟩
theorem ofStrs : ∀ {us : List Value} {ys : List Str}, StrsAre us ys -> Vals (ys.map V.str) us
  | _, _, .nil => .nil
  | _, _, .cons x t r => .cons ⟨t, rfl⟩ (ofStrs r)
noncomputable def rCatT' (K : PySem.W.Frag) : R2 := fun x y H Q => ∃ a b xs ys, x = .ref a /\ y = .ref b /\ H a = some (.tup xs) /\ H b = some (.tup ys) /\ xs.length + ys.length <= sizeLine /\
  ∀ p H', (∀ c o, H c = some o -> H' c = some o) -> H' p = some (.tup (xs ++ ys)) -> Q (.ref p) H'
theorem op_catT' : OpR X (binaryOp .Add) (rCatT' X.K) := by
  intro pins s σ H x y v u Q I rx ry h
  obtain ⟨a, b, xs, ys, rfl, rfl, ha0, hb0, hz, q⟩ := h
  have ha : SqT X.K H a xs := SqT.of ha0
  have hb : SqT X.K H b ys := SqT.of hb0
  by_cases hx : xs = []
  · subst hx
    cases rx
    cases ry
    obtain ⟨its, r1, p1, _⟩ := I.tuple ha
    obtain ⟨its2, r2, p2, _⟩ := I.tuple hb
    cases r1
    obtain ⟨⟨cls, dd, data, sl⟩, ho, hc, n, hd⟩ := id p1
    obtain ⟨⟨cls2, dd2, data2, sl2⟩, ho2, hc2, n2, hd2⟩ := id p2
    simp only at hc hd hc2 hd2
    subst hc hd hc2 hd2
    exact concat_meets ⟨_, ho, rfl⟩ ⟨_, ho2, rfl⟩ noFill_tuple_add seq_tuple_add PySem.F.slot_tuple_add PySem.F.entry_tuple_add (PySem.F.args_tuple_add_2 _ _)
      (tuple_addW0 a b _ its2.toArray n n2 dd dd2 sl sl2 (by simp)) ⟨ho, ho2, ⟨.ref b, H, I, rfl, q b H (fun _ _ z => z) hb0⟩⟩
  · exact op_catT pins s σ H _ _ v u Q I rx ry ⟨a, b, xs, ys, rfl, rfl, ha, hb, hx, hz, fun e => q a H (fun _ _ z => z) (by subst e; rw [List.append_nil]; exact ha0), fun e p hp => q p _ (fun c o z => by rw [upd_ne (ne_of_none z hp)]; exact z) upd_same⟩
end
end L2
end
section
namespace L2
open PySem PySem.Spec PyProof.Rows
open PySem.W (kdu_collect kdl_dict)
theorem kv_get : ∀ {kvs : List (Key × V)} {vs : List (Key × Value)} {i : Nat} {p : Key × V}, KV kvs vs -> kvs[i]? = some p -> ∃ q, vs[i]? = some q /\ p.1 = q.1
  | _, _, _, _, .nil, e => by simp at e
  | _, _, 0, _, .cons r _, e => by simp at e; subst e; exact ⟨_, rfl, r.1⟩
  | _, _, i + 1, p, .cons _ t, e => by
    obtain ⟨q, h1, h2⟩ := kv_get (i := i) (p := p) t (by simpa using e)
    exact ⟨q, by simpa using h1, h2⟩
section
variable {X : Cx}
noncomputable def rSortD : List V -> Hp -> VK -> Prop := fun xs H Q => ∃ a kvs, xs = [.ref a] /\ H a = some (.dK kvs) /\ (∀ kv ∈ kvs, ∃ s, kv.1 = Sum.inr s) /\ kvs.length < 64 /\
  ∀ (p : Addr) (ys : List Str), H p = none -> (ys.map (Sum.inr : Str -> Key)).Perm (kvs.map (·.1)) -> sortedS ys = true -> Q (.ref p) (upd H p (.lst (ys.map V.str)))
theorem call_sortD (hc : X.calm = true) : CallR X (.builtin "sorted") rSortD := by
  intro pins s σ H xs us Q I r h
  obtain ⟨a, kvs, rfl, ha, hk, h64, q⟩ := h
  obtain ⟨u, rfl, ru⟩ := r.one
  cases ru
  have hh := I.ok.hd hc
  obtain ⟨z, hd, vs, rel, dd⟩ := dk_of I.hok ha
  obtain ⟨ep, hat⟩ := dd.dictAt
  have hlen : kvs.length = vs.length := rel.length
  refine Calls.call_function_entry kind_sorted plain_sorted entry_sorted (args_sorted1 _) ?_
  unfold Builtin.«sorted»
  refine wpAny_bind (m := checkCount "sorted" 1 1 _) (wpAny_pure ?_)
  refine wpAny_bind (kdu_collect (A := X.A.in1) (kdl_dict (knd := mixKind X.prog X.w) (kvs := vs) (ep := ep) hd) hh hat (by rw [<- hlen]; exact z) fun h' tk acc keep items => ?_)
  have hl : acc.toList.length = vs.length := by rw [Array.length_toList]; exact items.1
  refine wpAny_bind (wpAny_newList ?_ (by rw [hl, <- hlen]; exact z))
  -- the keys as texts
  have hss : ∃ ss : List Str, StrsAre acc.toList ss /\ ss.map (Sum.inr : Str -> Key) = kvs.map (·.1) := by
    have key : ∀ (n : Nat), n <= vs.length -> ∃ ss : List Str, StrsAre (acc.toList.drop (vs.length - n)) ss /\ ss.map (Sum.inr : Str -> Key) = (kvs.map (·.1)).drop (vs.length - n) := by
      intro n
      induction n with
      | zero => intro _; exact ⟨[], by rw [List.drop_of_length_le (by lia)]; exact .nil, by rw [List.drop_of_length_le (by rw [List.length_map]; lia)]; rfl⟩
      | succ n ih =>
        intro hn
        obtain ⟨ss, h1, h2⟩ := ih (by lia)
        have e : vs.length - n = (vs.length - (n + 1)) + 1 := by lia
        have hj : vs.length - (n + 1) < acc.toList.length := by lia
        have hj2 : vs.length - (n + 1) < kvs.length := by lia
        obtain ⟨k, x, hx, hkk⟩ := items.2 (vs.length - (n + 1)) (acc.toList[vs.length - (n + 1)]) (by rw [<- Array.getElem?_toList, List.getElem?_eq_getElem hj])
        have ek : kvs[vs.length - (n + 1)].1 = k := by
          obtain ⟨b, hb, hr⟩ := kv_get rel (List.getElem?_eq_getElem hj2)
          rw [hx] at hb
          cases hb
          exact hr
        obtain ⟨sx, hs⟩ := hk _ (List.getElem_mem hj2)
        rw [ek] at hs
        subst hs
        obtain ⟨t, et⟩ : ∃ t, acc.toList[vs.length - (n + 1)] = Value.str sx t := by
          rcases keyIs_shape (show keyIs (Sum.inr sx) _ = true from hkk) with ⟨i, t, e1, _⟩ | ⟨y, t, e1, e2⟩
          · cases e1
          · cases e1; exact ⟨t, e2⟩
        refine ⟨sx :: ss, ?_, ?_⟩
        · rw [List.drop_eq_getElem_cons hj, et, <- e]
          exact .cons sx t h1
        · rw [List.map_cons, h2, List.drop_eq_getElem_cons (i := vs.length - (n + 1)) (by rw [List.length_map]; exact hj2), List.getElem_map, ek, e]
    obtain ⟨ss, h1, h2⟩ := key vs.length (Nat.le_refl _)
    rw [Nat.sub_self, List.drop_zero] at h1
    rw [Nat.sub_self, List.drop_zero] at h2
    exact ⟨ss, h1, h2⟩
  obtain ⟨ss, hS, hmap⟩ := hss
  have hoL : (h'.push { cls := .type "list", data := .seq acc.toList.toArray }).get? h'.objs.size = some (seqObj "list" acc.toList.toArray 0) := Heap.get?_push_size _ rfl
  refine wpAny_bind (wpAny_holding (wpAny_call_entry slot_list_sort ⟨_, hoL, rfl⟩ entry_list_sort (list_sort_treeK strKind_oneLt hoL hS.keysOf (fun v₁ v₂ rest e => keyKind_strs (by rw [<- e]; exact hS)) (by rw [hl, <- hlen]; exact h64) fun st' a1 a2 => ⟨_, rfl, ?_⟩) (args_list_sort _)))
  obtain ⟨ys, b1, b2, b3⟩ := sorted_out_str hS a1 a2
  refine wpAny_pure ⟨_, rfl, ?_⟩
  have I1 : Inv X pins σ H { s with heap := h', toks := tk } := I.kept keep
  obtain ⟨e, hat2⟩ := sortedHeap_at (out := (arrOf st').map (·.2)) hoL
  have hz : (ys.map V.str).length <= sizeLine := by
    rw [List.length_map, b2.length_eq, <- List.length_map (f := (Sum.inr : Str -> Key)), hmap, List.length_map]
    exact z
  refine ⟨.ref h'.objs.size, upd H h'.objs.size (.lst (ys.map V.str)), ?_, rfl, q _ ys (I1.hok.fresh (Nat.le_refl _)) ?_ b3⟩
  · refine I1.laid (t' := tk) (fun b o hb => ?_) (Nat.le_refl _) ⟨hz, _, e, ofStrs b1, ?_⟩
    · have hlt : b < h'.objs.size := Heap.lt_size hb
      rw [sortedHeap_old (Nat.ne_of_lt hlt) (by rw [Heap.size_push]; exact Nat.lt_succ_of_lt hlt)]
      exact Heap.get?_push_of_some _ hb
    · rw [hat2]
  · rw [<- hmap]
    exact b2.map _
end
section
variable {X : Cx}
theorem op_plus : OpR X (binaryOp .Add) (fun x y H Q => rI0 (fun i j => .int (i + j)) x y H Q \/ ((∃ i j, x = .str i /\ y = .str j /\ i.length + j.length <= sizeLine /\ Q (.str (i ++ j)) H) \/ (rCat x y H Q \/ rCatT' X.K x y H Q))) := op_add.or (op_add_str.or (op_cat.or op_catT'))
theorem op_ltU (hu : X.A.units < cLine) : OpR X (compareOp .Lt) (fun x y H Q => rI0 (fun i j => .bl (decide (i < j))) x y H Q \/ (rLtE x y H Q \/ rLtK X.K x y H Q)) := op_lt.or (op_ltE.or (op_ltK hu))
theorem op_eqU (hu : X.A.units + 110 < cLine) : OpR X (compareOp .Eq) (fun x y H Q => rEq x y H Q \/ rEqD x y H Q) := op_eq.or (op_eqD hu)
noncomputable def rNeL : R2 := fun x y H Q => ∃ a b xs, x = .ref a /\ y = .ref b /\ H a = some (.lst xs) /\ H b = some (.lst []) /\ Q (.bl (decide (xs ≠ []))) H
theorem op_neL (hu : X.A.units < cLine) : OpR X (compareOp .NotEq) rNeL := by
  intro pins s σ H x y v u Q I rx ry h
  obtain ⟨a, b, xs, rfl, rfl, ha, hb, q⟩ := h
  cases rx
  cases ry
  obtain ⟨its, r, p, _⟩ := I.list (SqL.of ha)
  obtain ⟨its2, r2, p2, _⟩ := I.list (SqL.of hb)
  cases r2
  by_cases hx : xs = []
  · subst hx
    cases r
    refine SeqAt.RcNeAt.lists (A := X.A) (e := fun _ => true) p.isList p2.isList rfl hu (fun j h1 => by simp at h1) _ _ _ _ ⟨.bl false, H, I, rfl, ?_⟩
    simpa using q
  · refine SeqAt.RcNeAt.lists_lengths (A := X.A) p.isList p2.isList ?_ hu _ _ _ _ ⟨.bl true, H, I, rfl, ?_⟩
    · have := r.length
      have h0 : its ≠ [] := fun z => hx (by subst z; cases xs with | nil => rfl | cons _ _ => simp at this)
      cases its with
      | nil => exact absurd rfl h0
      | cons _ _ => simp
    · rw [decide_eq_true hx] at q
      exact q
theorem op_neU (hu : X.A.units + 110 < cLine) : OpR X (compareOp .NotEq) (fun x y H Q => rNe x y H Q \/ ((∃ ds es, IsDt H (.tup ds) x /\ IsDt H (.tup es) y /\ depL ds <= depMax /\ Q (.bl (!decide (ds = es))) H) \/ rNeL x y H Q)) := op_ne.or ((op_neD hu).or (op_neL (by lia)))
theorem op_inU (hu : X.A.units + 110 < cLine) : OpR X (compareOp .In) (fun x y H Q => rIn X.K false x y H Q \/ rInD X.K false x y H Q) := op_in_seq.or (op_inD hu)
theorem op_notInU (hu : X.A.units + 110 < cLine) : OpR X (compareOp .NotIn) (fun x y H Q => rIn X.K true x y H Q \/ rInD X.K true x y H Q) := op_notIn_seq.or (op_notInD hu)
theorem call_lenU : CallR X (.builtin "len") (fun xs H Q => (∃ p ys, xs = [.ref p] /\ (SqL X.K H p ys \/ SqT X.K H p ys) /\ Q (.int ys.length) H) \/ ∃ z, xs = [.str z] /\ z.length <= sizeLine /\ Q (.int z.length) H) := call_len_seq.or call_len_str
noncomputable def rIxD : R2 := fun x y H Q => ∃ a v, x = .ref a /\ DGet H a y (some v) /\ Q v H
theorem ix_dict (hu : X.A.units + 1 < cLine) : IxR X rIxD := by
  intro value slice pins s σ H x y v u Q I rx ry h hs
  obtain ⟨a, w, rfl, g, q⟩ := h
  cases rx
  exact tail_any (ops := [.ref a, u]) (dict_typeIs I g) PySem.F.slot_dict_getitem.lookup (d_getItem hu I g ry fun w' s3 I3 rw' => ⟨w, H, I3, rw', q⟩) hs
theorem ix_U (hu : X.A.units + 1 < cLine) : IxR X (fun x y H Q => rIxL X.K x y H Q \/ (rIxT X.K x y H Q \/ (rIxS x y H Q \/ rIxD x y H Q))) := ix_list.or (ix_tup.or (ix_str.or (ix_dict hu)))
noncomputable def rSetD : TSet := fun o i v H Q => ∃ a H', o = .ref a /\ DPut H a i v H' /\ Q H'
theorem set_dict (hu : X.A.units + 1 < cLine) : PSet X rSetD := by
  intro pins s σ H o i v ov iv u Q I ro ri rv h
  obtain ⟨a, H', rfl, g, q⟩ := h
  cases ro
  exact d_setItem hu I g ri rv fun s4 I4 => ⟨H', I4, q⟩
theorem PSet.or {r r' : TSet} (h : PSet X r) (h' : PSet X r') : PSet X (fun o i v H Q => r o i v H Q \/ r' o i v H Q) := by
  intro pins s σ H o i v ov iv u Q I ro ri rv q
  rcases q with q | q
  · exact h pins s σ H o i v ov iv u Q I ro ri rv q
  · exact h' pins s σ H o i v ov iv u Q I ro ri rv q
theorem set_U (hu : X.A.units + 1 < cLine) : PSet X (fun o i v H Q => rSetL o i v H Q \/ rSetD o i v H Q) := set_list.or (set_dict hu)
theorem pi_U {tg l : Expr} {tl : TE} (hl : PE X l tl) : PI X tg l (fun σ H R => iList X.K tl σ H R \/ iTup X.K tl σ H R) := by
  intro pins s σ H R I h
  rcases h with h | h
  · exact pi_list hl pins s σ H R I h
  · exact pi_tup hl pins s σ H R I h
end
end L2
end
section
namespace L2
open PySem PySem.Spec PyProof.Rows
structure ZC where
  cl : List (Str × Addr)
  C : Addr
  fp : List Addr
  s : Shared
  H : Hp
noncomputable def cxC (X : Cx) (scope : Scope) (N' : List Str) (z : ZC) : Cx where
  prog := X.prog
  w := X.w
  K := X.K
  mg := X.mg
  base := X.base
  A := X.A
  N := N'
  s₀ := z.s
  H₀ := z.H
  env := compEnvC scope z.cl z.C X.env
  outer := X.stack
  stack := X.stack
  ex := z.fp
  fn := fun _ => false
  calm := X.calm
  pn := []
  xe := fun _ _ => False
theorem clos_loop {env : Env} : ∀ (names : List (Str × NameKind)) (acc : List (Str × Addr)), (∀ y ∈ names, y.2 = .free -> ∃ c, env.cells.lookup y.1 = some c) ->
    (∀ x c, acc.lookup x = some c -> env.cells.lookup x = some c) ->
    ∃ cl, (forIn names acc (fun y cs => if (y.2 == NameKind.free) = true then (cellOf env y.1 >>= fun c => pure (ForInStep.yield ((y.1, c) :: cs))) else pure (ForInStep.yield cs)) : Sem (List (Str × Addr))) = pure cl /\
      (∀ x c, cl.lookup x = some c -> env.cells.lookup x = some c) /\ (∀ y ∈ names, y.2 = .free -> ∃ c, cl.lookup y.1 = some c) /\ ∀ x c, acc.lookup x = some c -> ∃ c', cl.lookup x = some c'
  | [], acc, _, ha => ⟨acc, rfl, ha, fun y hy => (nomatch hy), fun x c h => ⟨c, h⟩⟩
  | (n, k) :: r, acc, h, ha => by
    by_cases hk : k = .free
    · subst hk
      obtain ⟨c, hc⟩ := h (n, .free) List.mem_cons_self rfl
      have hac : ∀ x c', ((n, c) :: acc).lookup x = some c' -> env.cells.lookup x = some c' := fun x c' q => by
        rw [List.lookup_cons] at q
        cases e : x == n with
        | true =>
          rw [e] at q
          cases q
          rw [eq_of_beq e]
          exact hc
        | false =>
          rw [e] at q
          exact ha x c' q
      obtain ⟨cl, e1, e2, e3, e4⟩ := clos_loop r ((n, c) :: acc) (fun y hy => h y (List.mem_cons_of_mem _ hy)) hac
      refine ⟨cl, ?_, e2, fun y hy hf => ?_, fun x c' q => ?_⟩
      · rw [List.forIn_cons]
        have ec : cellOf env n = pure c := by unfold cellOf; rw [hc]
        simp only [beq_self_eq_true, if_true, ec, pure_bind]
        exact e1
      · rcases List.mem_cons.mp hy with rfl | hy
        · exact e4 n c (by simp)
        · exact e3 y hy hf
      · cases e : x == n with
        | true => exact e4 x c (by rw [List.lookup_cons, e])
        | false => exact e4 x c' (by rw [List.lookup_cons, e]; exact q)
    · obtain ⟨cl, e1, e2, e3, e4⟩ := clos_loop r acc (fun y hy => h y (List.mem_cons_of_mem _ hy)) ha
      refine ⟨cl, ?_, e2, fun y hy hf => ?_, e4⟩
      · rw [List.forIn_cons]
        have hb : (k == NameKind.free) = false := by simpa using hk
        simp only [hb, Bool.false_eq_true, if_false, pure_bind]
        exact e1
      · rcases List.mem_cons.mp hy with rfl | hy
        · exact absurd hf hk
        · exact e3 y hy hf
theorem clos_of {scope : Scope} {env : Env} (h : ∀ y ∈ scope.names, y.2 = .free -> ∃ c, env.cells.lookup y.1 = some c) :
    ∃ cl, closureFor scope env = pure cl /\ (∀ x c, cl.lookup x = some c -> env.cells.lookup x = some c) /\ ∀ y ∈ scope.names, y.2 = .free -> ∃ c, cl.lookup y.1 = some c := by
  obtain ⟨cl, e1, e2, e3, _⟩ := clos_loop (env := env) scope.names [] h (fun x c q => by simp at q)
  refine ⟨cl, ?_, e2, e3⟩
  unfold closureFor
  first
    | exact e1
    | (simp only [bind_pure_comp, map_pure, bind_pure] at e1 ⊢; exact e1)
    | (rw [show (forIn scope.names [] _ : Sem (List (Str × Addr))) = pure cl from e1]; rfl)
theorem rel_free {env : Env} : ∀ {names : List (Str × NameKind)} {x : Str}, names.lookup x = some .free ->
    let l := (names.map fun (n, k) => if (k == NameKind.free && env.scope.kind == .function && env.kindOf n == some .cell) then (n, NameKind.cell) else (n, k)).lookup x
    l = some .cell \/ l = some .free
  | [], _, h => by simp at h
  | (n, k) :: r, x, h => by
    have ih := @rel_free env r x
    simp only at ih ⊢
    rw [List.map_cons]
    cases hx : x == n with
    | true =>
      rw [List.lookup_cons, hx] at h
      cases h
      by_cases hc : (NameKind.free == NameKind.free && env.scope.kind == .function && env.kindOf n == some .cell) = true
      · left
        simp only [hc, if_true, List.lookup_cons, hx]
      · right
        simp only [if_neg hc, List.lookup_cons, hx]
    | false =>
      rw [List.lookup_cons, hx] at h
      by_cases hc : (k == NameKind.free && env.scope.kind == .function && env.kindOf n == some .cell) = true
      · simp only [if_pos hc, List.lookup_cons, hx]; exact ih h
      · simp only [if_neg hc, List.lookup_cons, hx]; exact ih h
theorem rel_back {env : Env} : ∀ {names : List (Str × NameKind)} {x : Str} {k' : NameKind}, (∀ y ∈ names, y.2 ≠ .cell) -> (k' = .cell \/ k' = .free) ->
    (names.map fun (n, k) => if (k == NameKind.free && env.scope.kind == .function && env.kindOf n == some .cell) then (n, NameKind.cell) else (n, k)).lookup x = some k' -> (x, NameKind.free) ∈ names
  | [], _, _, _, _, h => by simp at h
  | (n, k) :: r, x, k', hn, hk, h => by
    rw [List.map_cons] at h
    cases hx : x == n with
    | true =>
      have e : x = n := eq_of_beq hx
      subst e
      by_cases hc : (k == NameKind.free && env.scope.kind == .function && env.kindOf x == some .cell) = true
      · have hf : k = .free := by
          simp only [Bool.and_eq_true, beq_iff_eq] at hc
          exact hc.1.1
        subst hf
        exact List.mem_cons_self
      · simp only [if_neg hc, List.lookup_cons, hx] at h
        have e2 : k = k' := Option.some.inj h
        subst e2
        rcases hk with rfl | rfl
        · exact absurd rfl (hn _ List.mem_cons_self)
        · exact List.mem_cons_self
    | false =>
      have ih := @rel_back env r x k' (fun y hy => hn y (List.mem_cons_of_mem _ hy)) hk
      by_cases hc : (k == NameKind.free && env.scope.kind == .function && env.kindOf n == some .cell) = true
      · simp only [if_pos hc, List.lookup_cons, hx] at h
        exact List.mem_cons_of_mem _ (ih h)
      · simp only [if_neg hc, List.lookup_cons, hx] at h
        exact List.mem_cons_of_mem _ (ih h)
theorem comp_loop {prog : Program} {w : World} {A : Around} {s : Shared} {elt tg iter : Expr} {ifs : List Expr} {scope : Scope} {pos : Pos} {it acc : Value} {env : Env} {P : Shared -> Prop} {R : Result -> Shared -> Prop}
    (hR : ∀ s', P s' -> R (.ok .next) s') (J : Nat -> Shared -> Prop)
    (turn : ∀ n s, J n s -> wpAny (model prog w) A (pyNext it) (fun r s1 => match r with
      | none => P s1
      | some v => wpAny (model prog w) A (letOwnedTupleGo tg it v) (fun _ s2 => wpAny (model prog w) A (assign tg env v) (fun _ s3 =>
          wpAny (model prog w) A (forIn ifs true fun c r => if r = true then do let ok <- isTrue c env (eval c env); pure (ForInStep.yield ok) else pure (ForInStep.yield r)) (fun ok s4 =>
            if ok = true then wpAny (model prog w) A (eval elt env) (fun x s5 =>
              wpAny (model prog w) A (call (.builtin "list.append") [acc, x]) (fun _ s6 => ∃ m, m < n /\ J m s6) (fun _ _ => False) s5) (fun _ _ => False) s4
            else ∃ m, m < n /\ J m s4) (fun _ _ => False) s3) (fun _ _ => False) s2) (fun _ _ => False) s1) (fun _ _ => False) s)
    (n : Nat) (h : J n s) : codeAny (model prog w) A (.compLoop (.ListComp elt [⟨tg, iter, ifs, 0⟩] scope pos) 0 it acc env) R s := by
  refine codeAny_loop rfl J (fun n s hJ => ?_) n h
  show wpAny _ A ((compTurn (.ListComp elt [⟨tg, iter, ifs, 0⟩] scope pos) 0 it acc env).onRaise (fun x => do noteFrame x env; theTreesLotGoes x)) _ _ s
  refine wpAny_noted (wpAny_mono (E := fun _ _ => False) ?_ (fun _ _ q => q) fun _ _ q => q.elim)
  rw [compTurn_list]
  refine wpAny_bind (wpAny_standAt (wpAny_bind (thn (turn n s hJ) fun r s1 h1 => ?_)))
  cases r with
  | none => exact wpAny_pure (hR _ h1)
  | some v =>
    refine wpAny_bind (thn h1 fun _ s2 h2 => wpAny_bind (thn h2 fun _ s3 h3 => wpAny_bind (thn h3 fun ok s4 h4 => ?_)))
    cases ok with
    | false => exact wpAny_pure ⟨rfl, h4⟩
    | true => exact wpAny_bind (wpAny_bind (thn h4 fun x s5 h5 => wpAny_bind (thn h5 fun _ s6 h6 => wpAny_pure (wpAny_pure ⟨rfl, h6⟩))))
noncomputable def PIfs (X : Cx) (ifs : List Expr) (t : TT) : Prop :=
  ∀ (pins : List (Addr × Obj)) (s : Shared) (σ : St) (H : Hp) (Q : Bool -> Hp -> Prop), Inv X pins σ H s -> t σ H Q ->
    wpAny (model X.prog X.w) X.A (forIn ifs true fun c r => if r = true then do let ok <- isTrue c X.env (eval c X.env); pure (ForInStep.yield ok) else pure (ForInStep.yield r)) (TP X pins σ Q) X.xe s
noncomputable def tAll : TT := fun _ H Q => Q true H
theorem pif_nil {X : Cx} : PIfs X [] tAll := fun pins s σ H Q I h => wpAny_tests_nil ⟨H, I, h⟩
theorem pif_one {X : Cx} {c : Expr} {t : TT} (h : PT X c t) : PIfs X [c] t := fun pins s σ H Q I q => wpAny_tests_one (h pins s σ H Q I q)
noncomputable def sigC (k : Nat) (fr : List (Str × Nat)) (σ : St) : St := List.replicate k none ++ fr.map fun p => (σ[p.2]?).join
noncomputable def Tgt (k : Nat) (g : TG) : Prop := ∀ x σ H Q, g x σ H Q -> g x σ H fun σ2 H2 => Q σ2 H2 /\ σ2.length = σ.length /\ σ2.drop k = σ.drop k
theorem tgt_name {i k : Nat} (h : i < k) : Tgt k (gName i) := fun x σ H Q q => ⟨q, by simp, by rw [List.drop_set_of_lt h]⟩
theorem tgt_two {K : PySem.W.Frag} {i j k : Nat} (hi : i < k) (hj : j < k) : Tgt k (gTup K 2 (gCons (gName i) (gCons (gName j) gNil))) := fun x σ H Q q => by
  obtain ⟨a, xs, e1, e2, e3, v, r, e4, v2, r2, e5, e6, q⟩ := q
  exact ⟨a, xs, e1, e2, e3, v, r, e4, v2, r2, e5, e6, q, by simp, by rw [List.drop_set_of_lt hj, List.drop_set_of_lt hi]⟩
noncomputable def lcStep (J : It) (k : Nat) (fr : List (Str × Nat)) (g : ZC -> TG) (tc : ZC -> TT) (te : ZC -> TE) (σ : St) (W : Nat -> Nat -> List V -> Hp -> Prop) (fin : List V -> Hp -> Prop) : Prop :=
  ∀ i m ys H, W i m ys H -> ys.length < sizeLine /\ ((J.stop i H /\ fin ys H) \/ (J.go i H /\ ∀ (z : ZC) x H1, J.yld i H x H1 -> g z x (sigC k fr σ) H1 fun σ2 H2 => tc z σ2 H2 fun b H3 =>
    if b = true then te z σ2 H3 fun y H4 => ∃ m', m' < m /\ W (i + 1) m' (ys ++ [y]) H4 else ∃ m', m' < m /\ W (i + 1) m' ys H3))
noncomputable def tLC (wi : TI) (k : Nat) (fr : List (Str × Nat)) (g : ZC -> TG) (tc : ZC -> TT) (te : ZC -> TE) : TE := fun σ H Q => wi σ H fun J H1 =>
  ∃ W : Nat -> Nat -> List V -> Hp -> Prop, (∃ m, W 0 m [] H1) /\ lcStep J k fr g tc te σ W fun ys H2 => ∀ p, H2 p = none -> Q (.ref p) (upd H2 p (.lst ys))
section
variable {X : Cx} {tg elt iter : Expr} {ifs : List Expr} {scope : Scope} {pos : Pos} {k : Nat} {Nt : List Str} {fr : List (Str × Nat)} {g : ZC -> TG} {tc : ZC -> TT} {te : ZC -> TE}
structure LcOk (X : Cx) (scope : Scope) (Nt : List Str) (fr : List (Str × Nat)) : Prop where
  kind : scope.kind = .function
  cell : ∀ y ∈ scope.names, y.2 ≠ .cell
  names : ∀ y ∈ scope.names, y.2 = .local -> scope.names.lookup y.1 = some .local
  free : ∀ y ∈ scope.names, y.2 = .free -> X.env.kindOf y.1 = some .cell
  fr : ∀ p ∈ fr, X.N[p.2]? = some p.1 /\ scope.names.lookup p.1 = some .free
theorem lc_start {pins : List (Addr × Obj)} {σ : St} {H : Hp} {s2 : Shared} {cl : List (Str × Addr)} {fp : List Addr} {h1 : Heap} {t1 : Nat} {C D : Addr} {m : Str -> Option Value} (L : LcOk X scope Nt fr) (I : Inv X pins σ H s2)
    (hcl : ∀ x c, cl.lookup x = some c -> X.env.cells.lookup x = some c) (hcl2 : ∀ y ∈ scope.names, y.2 = .free -> ∃ c, cl.lookup y.1 = some c) (hf : ∀ b ∈ fp, FpOk X pins H b) (hlt : ∀ b ∈ fp, b < s2.heap.objs.size)
    (hC : s2.heap.objs.size <= C) (hD : s2.heap.objs.size <= D) (hCD : D ≠ C) (old : ∀ b o, s2.heap.get? b = some o -> h1.get? b = some o) (hn : h1.Ns C m) (ho : h1.get? D = some { cls := .type "list", data := .seq #[] 0 }) :
    Inv (cxC X scope (Nt ++ fr.map (·.1)) ⟨cl, C, fp, s2, H⟩) [(D, { cls := .type "list", data := .seq #[] 0 })] (sigC Nt.length fr σ) H { s2 with heap := h1, toks := t1 } := by
  have hstk : ∀ b ∈ frs X.stack, b < s2.heap.objs.size := fun b hb => by
    rcases List.mem_cons.mp (I.stkSub b hb) with e | e
    · rw [e]; exact I.lt
    · exact Nat.lt_of_not_le fun z => I.nofs z e
  have cdn : ∀ x c, cl.lookup x = some c -> c < s2.heap.objs.size := fun x c e => by
    obtain ⟨v, q⟩ := I.cell x c (hcl x c e)
    exact q.lt
  refine ⟨⟨I.mod, L.kind, I.ok.glob, I.ok.blt, hC, fun x y c e1 e2 => I.ok.inj x y c (hcl _ _ e1) (hcl _ _ e2), fun x hx => ?_, fun x c hf' _ => (nomatch hf'), I.ok.hd, I.ok.frames, .inl rfl, fun b hb => ⟨Nat.ne_of_lt (Nat.lt_of_lt_of_le (hlt b hb) hC), fun x c e => (hf b hb).2.2.2.2.1 x c (hcl x c e)⟩,
      I.bs, Nat.le_trans I.ok.bsz I.sz, fun b o e hb => ?_, fun b hb z => ?_, I.stack, I.stkFree⟩,
    rfl, I.bare, Un.kept old, ⟨m, hn, fun i x v h1' h2 h3 => ?_⟩, fun x c e => ?_, I.hok.fresh hC, fun x c e => I.freeC x c (hcl x c e), fun p hp => ?_, I.hok.kept old, ?_⟩
  · have hx' : ((relabel scope X.env).names.lookup x = some .cell \/ (relabel scope X.env).names.lookup x = some .free) := hx
    rcases hx' with q | q
    · exact hcl2 _ (rel_back L.cell (.inl rfl) q) rfl
    · exact hcl2 _ (rel_back L.cell (.inr rfl) q) rfl
  · rcases (hf b hb).2.2.2.1 with q | q
    · exact I.ok.noex b o e q
    · exact absurd (Nat.lt_of_lt_of_le (Heap.lt_size e) (Nat.le_trans I.ok.bsz q)) (Nat.lt_irrefl _)
  · rcases List.mem_cons.mp (I.stkSub b z) with e | e
    · exact (hf b hb).2.1 e
    · exact (hf b hb).2.2.1 e
  · have h1'' : (Nt ++ fr.map (·.1))[i]? = some x := h1'
    have hi : ¬ i < Nt.length := fun hi => by
      unfold sigC at h2
      rw [List.getElem?_append_left (by simpa using hi), List.getElem?_replicate] at h2
      split at h2 <;> cases h2
    unfold sigC at h2
    rw [List.getElem?_append_right (by simpa using hi), List.length_replicate, List.getElem?_map] at h2
    rw [List.getElem?_append_right (by lia), List.getElem?_map] at h1''
    cases e : fr[i - Nt.length]? with
    | none => rw [e] at h2; cases h2
    | some p =>
      rw [e] at h2 h1''
      have ex : p.1 = x := Option.some.inj h1''
      have ev : (σ[p.2]?).join = some v := Option.some.inj h2
      obtain ⟨hN, hfr⟩ := L.fr p (List.mem_of_getElem? e)
      have es : σ[p.2]? = some (some v) := by
        cases q : σ[p.2]? with
        | none => rw [q] at ev; cases ev
        | some o => rw [q] at ev; exact congrArg some ev
      have hkc := L.free (p.1, .free) (PySem.mem_of_lookup hfr) rfl
      obtain ⟨mo, hmo, hloc⟩ := I.loc
      obtain ⟨u, ru, lk⟩ := hloc p.2 p.1 v hN es (.inr (.inl hkc))
      refine ⟨u, ru, ?_⟩
      rcases lk with ⟨kk, _⟩ | ⟨_, c, hc, hcell⟩
      · rw [hkc] at kk; cases kk
      · obtain ⟨c', hc'⟩ := hcl2 _ (PySem.mem_of_lookup hfr) rfl
        have hcc := hcl _ _ hc'
        rw [hc] at hcc
        cases hcc
        subst ex
        refine .inr ⟨?_, c, hc', ?_⟩
        · exact rel_free hfr
        · obtain ⟨o, q1, q2⟩ := hcell
          exact ⟨o, old _ _ q1, q2⟩
  · obtain ⟨v, q⟩ := I.cell x c (hcl x c e)
    obtain ⟨o, q1, q2⟩ := q
    exact ⟨v, o, old _ _ q1, q2⟩
  · have hp' : p ∈ ([(D, ({ cls := .type "list", data := .seq #[] 0 } : Obj))] : List (Addr × Obj)) := hp
    rw [List.mem_singleton] at hp'
    subst hp'
    exact ⟨ho, I.hok.fresh hD, hCD, fun z => absurd (Nat.lt_of_lt_of_le (hstk _ z) hD) (Nat.lt_irrefl _), fun v z => by cases z⟩
  · unfold sigC
    show _ = (Nt ++ fr.map (·.1)).length
    simp
structure LcEnd (X : Cx) (fp : List Addr) (H1 : Hp) (s2 : Shared) (fin : List V -> Hp -> Prop) (D C : Addr) (s' : Shared) (ys : List V) (its : List Value) (n : Nat) (H' : Hp) (m' : Str -> Option Value) : Prop where
  ns : s'.heap.Ns C m'
  fc : H' C = none
  fd : H' D = none
  gc : s2.heap.objs.size <= C
  gd : s2.heap.objs.size <= D
  cd : D ≠ C
  un : Un (frs X.stack) fp H1 H' s2.heap s'.heap
  ok : HOk X.prog X.w H' s'.heap
  os : s'.os = s2.os
  bare : AllBare s'.gens
  obj : s'.heap.get? D = some { cls := .type "list", data := .seq its.toArray n }
  vals : Vals ys its
  size : ys.length <= sizeLine
  fin : fin ys H'
theorem lc_close {pins : List (Addr × Obj)} {σ : St} {fp : List Addr} {H1 H' : Hp} {s2 s' : Shared} {fin : List V -> Hp -> Prop} {D C : Addr} {ys : List V} {its : List Value} {n : Nat} {m' : Str -> Option Value} {h' : Heap}
    (I : Inv X pins σ H1 s2) (hf : ∀ b ∈ fp, FpOk X pins H1 b) (e : LcEnd X fp H1 s2 fin D C s' ys its n H' m') (sb : Heap.SameBut C s'.heap h') : Inv X pins σ (upd H' D (.lst ys)) { s' with heap := h' } := by
  have old : ∀ b o, s2.heap.get? b = some o -> b ≠ C /\ b ≠ D := fun b o q => ⟨Nat.ne_of_lt (Nat.lt_of_lt_of_le (Heap.lt_size q) e.gc), Nat.ne_of_lt (Nat.lt_of_lt_of_le (Heap.lt_size q) e.gd)⟩
  have at' : ∀ b, b ≠ C -> h'.get? b = s'.heap.get? b := fun b hb => sb.2 b hb
  refine I.call' (s' := { s' with heap := h' }) (ch := fp) e.os ?_ ?_ e.bare fun b hb => ⟨(hf b hb).2.2.2.1, (hf b hb).2.1, (hf b hb).2.2.2.2.1, (hf b hb).2.2.2.2.2⟩
  · have u := e.un
    refine ⟨fun b o q n hb hx => ?_, fun b o q n hb hx => ?_, fun b o q n hx => ?_, fun b o q hx => ?_, fun b xs q => ?_, fun b o v q => ?_, fun b ps q => ?_⟩
    · exact (at' b (old b o q).1).trans (u.keep b o q n hb hx)
    · obtain ⟨sl, z⟩ := u.slot b o q n hb hx
      exact ⟨sl, (at' b (old b o q).1).trans z⟩
    · rw [upd_ne (old b o q).2]
      exact u.free b o q n hx
    · obtain ⟨o', z⟩ := u.there b o q hx
      exact ⟨o', (at' b (old b o q).1).trans z⟩
    · have z := u.tups b xs q
      rw [upd_ne (ne_of_none z e.fd)]
      exact z
    · have z := u.frzs b o v q
      rw [upd_ne (ne_of_none z e.fd)]
      exact z
    · obtain ⟨more, z⟩ := u.tbls b ps q
      refine ⟨more, ?_⟩
      rw [upd_ne (ne_of_none z e.fd)]
      exact z
  · intro b o q
    by_cases hb : b = D
    · subst hb
      rw [upd_same] at q
      cases q
      exact ⟨e.size, its, n, e.vals, (at' _ e.cd).trans e.obj⟩
    · rw [upd_ne hb] at q
      refine (e.ok b o q).stay (fun c v hc z => ?_) (fun c z => ?_) fun c xs z => ?_
      · have hcC : c ≠ C := by
          rcases hc with rfl | hc
          · exact ne_of_none q e.fc
          · exact ne_of_none hc e.fc
        exact (at' c hcC).trans z
      · rw [upd_ne (ne_of_none z e.fd)]
        exact z
      · rw [upd_ne (ne_of_none z e.fd)]
        exact z
theorem lc_block {pins : List (Addr × Obj)} {σ : St} {H1 : Hp} {s2 : Shared} {cl : List (Str × Addr)} {fp : List Addr} {it : Addr} {tn : Nat -> Heap -> Prop} {J : It} {W : Nat -> Nat -> List V -> Hp -> Prop} {fin : List V -> Hp -> Prop} {E : Value -> Shared -> Prop} {RR : Value -> Addr -> Result -> Shared -> Prop} {m0 : Nat}
    (L : LcOk X scope Nt fr) (hcalm : X.calm = true) (I : Inv X pins σ H1 s2) (hcl : ∀ x c, cl.lookup x = some c -> X.env.cells.lookup x = some c) (hcl2 : ∀ y ∈ scope.names, y.2 = .free -> ∃ c, cl.lookup y.1 = some c)
    (T : Turn X.prog X.w X.K tg J fp it tn) (st0 : tn 0 s2.heap) (hf : ∀ b ∈ fp, FpOk X pins H1 b)
    (hg : ∀ z, PG (cxC X scope (Nt ++ fr.map (·.1)) z) tg (g z)) (hgt : ∀ z, Tgt Nt.length (g z)) (hc : ∀ z, PIfs (cxC X scope (Nt ++ fr.map (·.1)) z) ifs (tc z)) (he : ∀ z, PE (cxC X scope (Nt ++ fr.map (·.1)) z) elt (te z))
    (w0 : W 0 m0 [] H1) (step : lcStep J Nt.length fr g tc te σ W fin)
    (hRR : ∀ D C s' ys its n H' m', LcEnd X fp H1 s2 fin D C s' ys its n H' m' -> RR (.ref D) C (.ok .next) s') :
    wpAny (model X.prog X.w) X.A (newList []) (fun acc s3 => wpAny (model X.prog X.w) X.A (newFunctionEnv scope X.env.globals cl [] X.env.qual none .none (some X.env)) (fun cenv s4 =>
      codeAny (model X.prog X.w) X.A (.compStart (.ListComp elt [⟨tg, iter, ifs, 0⟩] scope pos) 0 (.ref it) acc { cenv with scope := relabel scope X.env }) (RR acc cenv.locals) s4) E s3) E s2 := by
  refine wpAny_newObj_type (wpAny_newFunctionEnv L.cell (by intro y hy; simp at hy) (fun h1 hns hsb => ?_) L.kind)
  dsimp only at hns hsb ⊢
  generalize hH2 : s2.heap.push { cls := .type "list", dict := none, data := .seq ([] : List Value).toArray } = G at hns hsb ⊢
  have hC : G.objs.size = s2.heap.objs.size + 1 := by rw [<- hH2, Heap.size_push]
  have hlt : ∀ b ∈ fp, b < s2.heap.objs.size := fun b hb => by
    obtain ⟨o, q, _⟩ := T.obj 0 _ st0 b hb
    exact Heap.lt_size q
  have old : ∀ b o, s2.heap.get? b = some o -> h1.get? b = some o := fun b o q =>
    hsb.extBut b o (by rw [hC]; exact Nat.ne_of_lt (Nat.lt_succ_of_lt (Heap.lt_size q))) (Heap.get?_push_of_some _ (hH2 ▸ Heap.get?_push_of_some _ q))
  have hDC : s2.heap.objs.size ≠ G.objs.size := by rw [hC]; exact Nat.ne_of_lt (Nat.lt_succ_self _)
  have hacc : h1.get? s2.heap.objs.size = some { cls := .type "list", data := .seq #[] 0 } := hsb.extBut _ _ hDC (Heap.get?_push_of_some _ (hH2 ▸ Heap.get?_push_size _ rfl))
  have hgC : s2.heap.objs.size <= G.objs.size := by rw [hC]; exact Nat.le_succ _
  have I0 := lc_start (t1 := s2.toks + ([] : List (Str × Value)).length) (C := G.objs.size) (D := s2.heap.objs.size) L I hcl hcl2 hf hlt hgC (Nat.le_refl _) hDC old hns hacc
  have st1 : tn 0 h1 := T.keep 0 _ _ st0 fun b _ o q => old b o q
  generalize hX : cxC X scope (Nt ++ fr.map (·.1)) ⟨cl, G.objs.size, fp, s2, H1⟩ = X' at I0
  have hcd : ∀ x c, cl.lookup x = some c -> c < s2.heap.objs.size := fun x c e => by
    obtain ⟨v, q⟩ := I.cell x c (hcl x c e)
    exact q.lt
  have hfr : ∀ b ∈ fp, b ∉ frs X.stack := fun b hb z => by
    rcases List.mem_cons.mp (I.stkSub b z) with e | e
    · exact (hf b hb).2.1 e
    · exact (hf b hb).2.2.1 e
  have stat : ∀ {H' : Hp} {ob : Obj}, (∀ b ∈ fp, H' b = none) -> ∀ b ∈ fp, FpOk X' [(s2.heap.objs.size, ob)] H' b := fun {H' ob} hn b hb => by
    subst hX
    refine ⟨hn b hb, Nat.ne_of_lt (Nat.lt_of_lt_of_le (hlt b hb) hgC), hfr b hb, .inl hb, fun x c e => (hf b hb).2.2.2.2.1 x c (hcl x c e), fun p hp => ?_⟩
    have hp' : p ∈ ([(s2.heap.objs.size, ob)] : List (Addr × Obj)) := hp
    rw [List.mem_singleton] at hp'
    subst hp'
    exact Nat.ne_of_gt (hlt b hb)
  have eP : X'.prog = X.prog := by subst hX; rfl
  have eW : X'.w = X.w := by subst hX; rfl
  have eK : X'.K = X.K := by subst hX; rfl
  have eC : X'.calm = true := by subst hX; exact hcalm
  have hg' : PG X' tg (g ⟨cl, G.objs.size, fp, s2, H1⟩) := by subst hX; exact hg _
  have hc' : PIfs X' ifs (tc ⟨cl, G.objs.size, fp, s2, H1⟩) := by subst hX; exact hc _
  have he' : PE X' elt (te ⟨cl, G.objs.size, fp, s2, H1⟩) := by subst hX; exact he _
  -- what is known of the list that grows
  have grow : ∀ {pl : List (Addr × Obj)} {σ' : St} {H' : Hp} {s' : Shared} {ob ob' : Obj} {h' : Heap}, Inv X' pl σ' H' s' -> H' s2.heap.objs.size = none -> (sigC Nt.length fr σ).length = σ'.length -> σ'.drop Nt.length = (sigC Nt.length fr σ).drop Nt.length ->
      Heap.SameBut s2.heap.objs.size s'.heap h' -> h'.get? s2.heap.objs.size = some ob' -> (∀ v, ob'.data ≠ .cell v) -> Inv X' [(s2.heap.objs.size, ob')] (sigC Nt.length fr σ) H' { s' with heap := h' } := fun {pl σ' H' s' ob ob' h'} I' hn hl hd sb ho' hv => by
    have I1 : Inv X' [] σ' H' s' := I'.pins_of fun p hp => (nomatch hp)
    have g1 : s2.heap.objs.size ≠ X'.env.locals := by subst hX; exact hDC
    have g2 : X'.s₀.heap.objs.size <= s2.heap.objs.size := by subst hX; exact Nat.le_refl _
    have g3 : ∀ x c, X'.env.cells.lookup x = some c -> c ≠ s2.heap.objs.size := by subst hX; exact fun x c e => Nat.ne_of_lt (hcd x c e)
    have g4 : ∀ p ∈ X'.pn ++ ([] : List (Addr × Obj)), p.1 ≠ s2.heap.objs.size := by subst hX; exact fun p hp => (nomatch (show p ∈ ([] : List (Addr × Obj)) from hp))
    have g5 : s2.heap.objs.size ∉ X'.fs := by
      subst hX
      intro z
      rcases List.mem_cons.mp (I.stkSub _ z) with e | e
      · exact absurd (e ▸ I.lt) (Nat.lt_irrefl _)
      · exact I.nofs (Nat.le_refl _) e
    have I2 : Inv X' [] σ' H' { s' with heap := h' } := I1.turned (t' := s'.toks) (it := s2.heap.objs.size) (fun b o hb q => (sb.2 b hb).trans q) hn g1 (.inr g2) g3 g4
    have I3 : Inv X' [(s2.heap.objs.size, ob')] σ' H' { s' with heap := h' } := I2.pins_of fun p hp => by
      rw [List.mem_singleton] at hp
      subst hp
      exact ⟨ho', hn, g1, g5, hv⟩
    refine I3.weak hl fun i v q => ?_
    have hi : ¬ i < Nt.length := fun hi => by
      unfold sigC at q
      rw [List.getElem?_append_left (by simpa using hi), List.getElem?_replicate] at q
      split at q <;> cases q
    have z : ∀ l : St, l[i]? = (l.drop Nt.length)[i - Nt.length]? := fun l => by
      rw [List.getElem?_drop]
      congr 1
      lia
    rw [z, hd, <- z]
    exact q
  have loop : ∀ s3 : Shared, s3 = { s2 with heap := h1, toks := s2.toks + ([] : List (Str × Value)).length } ->
      codeAny (model X.prog X.w) X.A (.compLoop (.ListComp elt [⟨tg, iter, ifs, 0⟩] scope pos) 0 (.ref it) (.ref s2.heap.objs.size) (compEnvC scope cl G.objs.size X.env)) (RR (.ref s2.heap.objs.size) G.objs.size) s3 := by
    rintro s3 rfl
    refine comp_loop (P := fun s' => ∃ ys its n H' m', LcEnd X fp H1 s2 fin s2.heap.objs.size G.objs.size s' ys its n H' m') (fun s' ⟨ys, its, n, H', m', q⟩ => hRR _ _ s' ys its n H' m' q)
      (fun n s' => ∃ i ys its c H', Inv X' [(s2.heap.objs.size, { cls := .type "list", data := .seq (its : List Value).toArray c })] (sigC Nt.length fr σ) H' s' /\ Vals ys its /\ tn i s'.heap /\ (∀ b ∈ fp, H' b = none) /\ W i n ys H')
      ?_ m0 ⟨0, [], [], 0, H1, I0, .nil, st1, fun b hb => (hf b hb).1, w0⟩
    rintro n s' ⟨i, ys, its, c, H', I', rv, st, fr0, w⟩
    obtain ⟨hz, hstep⟩ := step i n ys H' w
    have nD : ∀ {pl : List (Addr × Obj)} {σ' : St} {H'' : Hp} {s'' : Shared} {ob : Obj}, Inv X' ((s2.heap.objs.size, ob) :: pl) σ' H'' s'' -> s''.heap.get? s2.heap.objs.size = some ob /\ H'' s2.heap.objs.size = none := fun {pl σ' H'' s'' ob} I'' => by
      have q := I''.pin (s2.heap.objs.size, ob) (List.mem_append_right _ List.mem_cons_self)
      exact ⟨q.1, q.2.1⟩
    rcases hstep with ⟨stop, fn⟩ | ⟨go, hgo⟩
    · have A1 := T.done X' eP eW eK eC i _ s' _ H' (fun _ _ => False) I' (stat fr0) st stop
      have hA : X'.A = X.A := by subst hX; rfl
      rw [hA] at A1
      refine thn A1 fun r s1 ⟨hr, I1⟩ => ?_
      subst hr
      obtain ⟨q1, q2⟩ := nD I1
      have hL : X'.env.locals = G.objs.size := by subst hX; rfl
      obtain ⟨m', hm', _⟩ := I1.loc
      have un : Un (frs X.stack) fp H1 H' s2.heap s1.heap := by subst hX; exact I1.base
      have os : s1.os = s2.os := by subst hX; exact I1.os
      exact ⟨ys, its, c, H', m', ⟨hL ▸ hm', hL ▸ I1.free, q2, hgC, Nat.le_refl _, hDC, un, eP ▸ eW ▸ I1.hok, os, I1.bare, q1, rv, Nat.le_of_lt hz, fn⟩⟩
    · have hA : X'.A = X.A := by subst hX; rfl
      have hE : X'.env = compEnvC scope cl G.objs.size X.env := by subst hX; rfl
      have hxe : X'.xe = fun _ _ => False := by subst hX; rfl
      have A1 := T.item X' eP eW eK eC i _ s' _ H' (fun _ _ => False) I' (stat fr0) st go
      rw [hA] at A1
      refine thn A1 fun r s1 ⟨u, hr, h4⟩ => ?_
      subst hr
      refine thn h4 fun _ s5 ⟨x, H5, I5, r5, y5, st5, fr5⟩ => ?_
      have I5' := I5.pinned (stat fr5) (T.obj _ _ st5)
      have q5 := hgt _ x _ H5 _ (hgo ⟨cl, G.objs.size, fp, s2, H1⟩ x H5 y5)
      have A2 := hg' _ s5 _ H5 x u _ I5' r5 q5
      rw [eP, eW, hA, hE, hxe] at A2
      refine thn A2 fun _ s6 ⟨σ6, H6, I6, q6, l6, d6⟩ => ?_
      have A3 := hc' _ s6 σ6 H6 _ I6 q6
      rw [eP, eW, hA, hE, hxe] at A3
      refine thn A3 fun ok s7 ⟨H7, I7, q7⟩ => ?_
      have back : ∀ {σ8 : St} {H8 : Hp} {s8 s9 : Shared}, Inv X' ([(s2.heap.objs.size, { cls := .type "list", data := .seq its.toArray c })] ++ pinsAt fp s5.heap) σ8 H8 s8 -> (∀ b, b ≠ s2.heap.objs.size -> s9.heap.get? b = s8.heap.get? b) -> tn (i + 1) s9.heap /\ ∀ b ∈ fp, H8 b = none := fun {σ8 H8 s8 s9} I8 h9 => by
        refine ⟨T.keep _ _ _ st5 fun b hb o q => ?_, fun b hb => ?_⟩
        · rw [h9 b (Nat.ne_of_lt (hlt b hb))]
          exact (I8.pin (b, o) (List.mem_append_right _ (List.mem_append_right _ (mem_pinsAt hb q)))).1
        · obtain ⟨o, q, _⟩ := T.obj _ _ st5 b hb
          exact (I8.pin (b, o) (List.mem_append_right _ (List.mem_append_right _ (mem_pinsAt hb q)))).2.1
      cases ok with
      | false =>
        rw [if_neg Bool.false_ne_true] at q7 ⊢
        obtain ⟨m', hm', w'⟩ := q7
        obtain ⟨e1, e2⟩ := nD I7
        obtain ⟨b1, b2⟩ := back (s9 := s7) I7 fun _ _ => rfl
        refine ⟨m', hm', i + 1, ys, its, c, H7, ?_, rv, b1, b2, w'⟩
        exact grow (ob := { cls := .type "list", data := .seq its.toArray c }) (h' := s7.heap) I7 e2 l6.symm d6 (.refl ..) e1 (fun v z => by cases z)
      | true =>
        rw [if_pos rfl] at q7 ⊢
        have A4 := he' _ s7 σ6 H7 _ I7 q7
        rw [eP, eW, hA, hE, hxe] at A4
        refine thn A4 fun v s8 ⟨y, H8, I8, r8, m', hm', w'⟩ => ?_
        obtain ⟨e1, e2⟩ := nD I8
        refine append_at (hsz := by rw [List.size_toArray, <- rv.length]; exact Nat.le_of_lt hz) e1 fun h9 sb o9 => ?_
        obtain ⟨b1, b2⟩ := back (s9 := { s8 with heap := h9 }) I8 fun b hb => sb.2 b hb
        have ea : its.toArray.push v = (its ++ [v]).toArray := by simp
        rw [ea] at o9
        refine ⟨m', hm', i + 1, ys ++ [y], its ++ [v], c + 1, H8, ?_, rv.append (.cons r8 .nil), b1, b2, w'⟩
        exact grow (ob := { cls := .type "list", data := .seq its.toArray c }) I8 e2 l6.symm d6 sb o9 (fun v z => by cases z)
  exact codeAny_compStart_list (loop _ rfl) (T.self X.A 0 _ _ _ st1 (loop _ rfl))
theorem pe_lc {wi : TI} (L : LcOk X scope Nt fr) (hcalm : X.calm = true) (hi : PI X tg iter wi) (hg : ∀ z, PG (cxC X scope (Nt ++ fr.map (·.1)) z) tg (g z)) (hgt : ∀ z, Tgt Nt.length (g z))
    (hc : ∀ z, PIfs (cxC X scope (Nt ++ fr.map (·.1)) z) ifs (tc z)) (he : ∀ z, PE (cxC X scope (Nt ++ fr.map (·.1)) z) elt (te z)) (hs : ∀ x, foldedSetIterable iter X.env x = pure x := by intro _; rfl) :
    PE X (.ListComp elt [⟨tg, iter, ifs, 0⟩] scope pos) (tLC wi Nt.length fr g tc te) := by
  intro pins s σ H Q I h
  obtain ⟨cl, e1, e2, e3⟩ := clos_of (scope := scope) (env := X.env) fun y hy hf => I.ok.has _ (.inl (L.free y hy hf))
  rw [eval_ListComp]
  refine wpAny_comprehension_free (use := none) rfl hs e1 L.kind L.names (thn (hi pins s σ H _ I h) fun v s1 h1 => thn h1 fun itv s2 h2 => ?_)
  obtain ⟨it, fp, tn, J, H2, e, I2, T, st2, f2, W, ⟨m0, w0⟩, step⟩ := h2
  subst e
  refine lc_block (RR := fun acc C r s' => compPost (model X.prog X.w) X.A X.xe none (EP X pins σ Q) acc C r s') L hcalm I2 e2 e3 T st2 f2 hg hgt hc he w0 step fun D C s' ys its n H' m' q => ?_
  exact ⟨m', q.ns, fun h' sb => ⟨.ref D, _, lc_close I2 f2 q sb, rfl, q.fin D q.fd⟩⟩
noncomputable def tLCset (wi : TI) (k : Nat) (fr : List (Str × Nat)) (g : ZC -> TG) (tc : ZC -> TT) (te : ZC -> TE) (j : Nat) : TS := fun Ds σ H => wi σ H fun J H1 =>
  ∃ W : Nat -> Nat -> List V -> Hp -> Prop, (∃ m, W 0 m [] H1) /\ lcStep J k fr g tc te σ W fun ys H2 => ∀ p, H2 p = none -> Ds.nx (σ.set j (some (.ref p))) (upd H2 p (.lst ys))
theorem ps_lc {wi : TI} {y : Str} {j : Nat} {py spos : Pos} (L : LcOk X scope Nt fr) (hcalm : X.calm = true) (hN : X.N.Nodup) (hj : X.N[j]? = some y) (hy : Loc X.env.scope y) (hi : PI X tg iter wi) (hg : ∀ z, PG (cxC X scope (Nt ++ fr.map (·.1)) z) tg (g z)) (hgt : ∀ z, Tgt Nt.length (g z))
    (hc : ∀ z, PIfs (cxC X scope (Nt ++ fr.map (·.1)) z) ifs (tc z)) (he : ∀ z, PE (cxC X scope (Nt ++ fr.map (·.1)) z) elt (te z)) (hs : ∀ x, foldedSetIterable iter X.env x = pure x := by intro _; rfl)
    (hsw : swapsWith (.ListComp elt [⟨tg, iter, ifs, 0⟩] scope pos) (some (.Name y py)) spos.line X.env = pure true := by rfl)
    (hff : X.fn y = true \/ X.env.scope.names.lookup y = some .local := by first | exact .inl rfl | exact .inr rfl | assumption) :
    PS X (.Assign [.Name y py] (.ListComp elt [⟨tg, iter, ifs, 0⟩] scope pos) spos) (tLCset wi Nt.length fr g tc te j) := by
  intro pins s σ H Ds I h
  obtain ⟨cl, e1, e2, e3⟩ := clos_of (scope := scope) (env := X.env) fun y hy hf => I.ok.has _ (.inl (L.free y hy hf))
  rw [exec_Assign_Name_used _ _ _ _ hsw]
  refine wpAny_bind (wpAny_standAt (wpAny_bind ?_))
  show wpAny _ X.A (do let _ <- comprehension (.ListComp elt [⟨tg, iter, ifs, 0⟩] scope pos) scope X.env _ (newList []) false (eval iter X.env) (some (assign (.Name y py) X.env))) _ _ s
  refine wpAny_bind (thn (wpAny_comprehension_free (use := some (assign (.Name y py) X.env)) (Q := fun _ s' => SP X pins Ds .next s') rfl hs e1 L.kind L.names
    (thn (hi pins s σ H _ I h) fun v s1 h1 => thn h1 fun itv s2 h2 => ?_)) fun _ s' hq => wpAny_pure (wpAny_pure hq))
  obtain ⟨it, fp, tn, J, H2, e, I2, T, st2, f2, W, ⟨m0, w0⟩, step⟩ := h2
  subst e
  refine lc_block (RR := fun acc C r s' => compPost (model X.prog X.w) X.A X.xe (some (assign (.Name y py) X.env)) (fun _ s' => SP X pins Ds .next s') acc C r s') L hcalm I2 e2 e3 T st2 f2 hg hgt hc he w0 step fun D C s' ys its n H' m' q => ?_
  have I3 : Inv X pins σ (upd H' D (.lst ys)) s' := lc_close (h' := s'.heap) I2 f2 q (.refl ..)
  obtain ⟨oC, es, ep, hoC, hdC, hkC, hmC⟩ := id q.ns
  have hCH : upd H' D (.lst ys) C = none := by rw [upd_ne (Ne.symm q.cd)]; exact q.fc
  have gL : C ≠ X.env.locals := Nat.ne_of_gt (Nat.lt_of_lt_of_le I2.lt q.gc)
  have gF : C ∉ X.fs := I2.nofs q.gc
  have gE : X.s₀.heap.objs.size <= C := Nat.le_trans I2.sz q.gc
  have gC : ∀ x c, X.env.cells.lookup x = some c -> c ≠ C := fun x c e => by
    obtain ⟨v, z⟩ := I2.cell x c e
    exact Nat.ne_of_lt (Nat.lt_of_lt_of_le z.lt q.gc)
  have gP : ∀ p ∈ X.pn ++ pins, p.1 ≠ C := fun p hp => Nat.ne_of_lt (Nat.lt_of_lt_of_le (Heap.lt_size (I2.pin p hp).1) q.gc)
  have I4 : Inv X (pins ++ [(C, oC)]) σ (upd H' D (.lst ys)) s' := I3.pins_of fun p hp => by
    rcases List.mem_append.mp hp with z | z
    · exact I3.pin p (List.mem_append_right _ z)
    · rw [List.mem_singleton] at z
      subst z
      exact ⟨hoC, hCH, gL, gF, fun v z => by rw [hdC] at z; cases z⟩
  show wpAny _ _ (assign (.Name y py) X.env (.ref D)) _ _ s'
  refine wpAny_assign_Name (store_ok I4 hN hj hy (show RelV (.ref D) (.ref D) from rfl) (fun s'' I5 => ?_) hff)
  have z := I5.pin (C, oC) (List.mem_append_right _ (List.mem_append_right _ (List.mem_singleton.mpr rfl)))
  refine ⟨m', ⟨oC, es, ep, z.1, hdC, hkC, hmC⟩, fun h'' sb => ⟨σ.set j (some (.ref D)), _, ?_, q.fin D q.fd⟩⟩
  have I6 : Inv X pins (σ.set j (some (.ref D))) (upd H' D (.lst ys)) s'' := I5.unpinned
  exact I6.turned (t' := s''.toks) (it := C) (fun b o hb e => (sb.2 b hb).trans e) hCH gL (.inr gE) gC gP
end
end L2
end
section
namespace L2
open PySem PySem.Spec PyProof.Rows
section
variable {prog : Program} {w : World} {A : Around} {E : Value -> Shared -> Prop} {s : Shared}
theorem nextOf_tup {J t : Addr} {i : Nat} {its : Array Value} {x : Value} {Q : Value -> Shared -> Prop} (hJ : s.heap.IsTupleIter J t i) (ht : s.heap.IsTuple t its) (hx : its[i]? = some x)
    (q : ∀ h', h'.IsTupleIter J t (i + 1) -> Heap.SameBut J s.heap h' -> Q x { s with heap := h' }) : wpAny (model prog w) A (Builtin.SmallTypes.nextOf (.ref J)) Q E s := by
  obtain ⟨ob, h1, h2, h3⟩ := id hJ
  obtain ⟨ot, g1, _, nt, g2⟩ := ht
  unfold Builtin.SmallTypes.nextOf
  refine wpAny_bind (wpAny_callSpecial?_slot (name := Str.ofString "__next__") hJ.typeIs F.slot_tuple_iterator_next (wpAny_call_entry F.slot_tuple_iterator_next hJ.typeIs F.entry_tuple_iterator_next ?_ (F.args_tuple_iterator_next_1 _)))
  show wpAny _ _ (field (.ref J) 0 >>= _) _ _ s
  refine wpAny_bind (wpAny_field h1 h3 (x := .ref t) rfl ?_)
  show wpAny _ _ (if (Value.ref t == Value.none) = true then _ else _) _ _ s
  rw [if_neg (show ¬ ((Value.ref t == Value.none) = true) from fun z => Bool.false_ne_true z)]
  show wpAny _ _ (field (.ref J) 1 >>= _) _ _ s
  refine wpAny_bind (wpAny_field h1 h3 (x := .int i 0) rfl ?_)
  show wpAny _ _ (seqItems? (.ref t) >>= _) _ _ s
  refine wpAny_bind (wpAny_seqItems g1 g2 ?_)
  simp only [Int.toNat_natCast, hx]
  refine wpAny_bind (wpAny_setField h1 h3 (by simp) (wpAny_pure ⟨x, rfl, wpAny_pure (q _ ?a (Heap.SameBut.update ..))⟩))
  exact ⟨_, Heap.get?_update_self _ h1 (Obj.isFreed_of_fields (Obj.data_mapFields h3 _)), Eq.trans (Obj.cls_mapFields ..) h2, by rw [Obj.data_mapFields h3] <;> simp [rawInt]⟩
theorem nextOf_tup_end {J t : Addr} {i : Nat} {its : Array Value} {Q : Value -> Shared -> Prop} (hh : A.handled = none) (hJ : s.heap.IsTupleIter J t i) (ht : s.heap.IsTuple t its) (hx : its[i]? = none)
    (q : ∀ h' e, Heap.ExtBut J s.heap h' -> (∃ o, h'.get? e = some o /\ o.cls = .type "StopIteration") -> E (.ref e) { s with heap := h' }) : wpAny (model prog w) A (Builtin.SmallTypes.nextOf (.ref J)) Q E s := by
  obtain ⟨ob, h1, h2, h3⟩ := id hJ
  obtain ⟨ot, g1, _, nt, g2⟩ := ht
  unfold Builtin.SmallTypes.nextOf
  refine wpAny_bind (wpAny_callSpecial?_slot (name := Str.ofString "__next__") hJ.typeIs F.slot_tuple_iterator_next (wpAny_call_entry F.slot_tuple_iterator_next hJ.typeIs F.entry_tuple_iterator_next ?_ (F.args_tuple_iterator_next_1 _)))
  show wpAny _ _ (field (.ref J) 0 >>= _) _ _ s
  refine wpAny_bind (wpAny_field h1 h3 (x := .ref t) rfl ?_)
  show wpAny _ _ (if (Value.ref t == Value.none) = true then _ else _) _ _ s
  rw [if_neg (show ¬ ((Value.ref t == Value.none) = true) from fun z => Bool.false_ne_true z)]
  show wpAny _ _ (field (.ref J) 1 >>= _) _ _ s
  refine wpAny_bind (wpAny_field h1 h3 (x := .int i 0) rfl ?_)
  show wpAny _ _ (seqItems? (.ref t) >>= _) _ _ s
  refine wpAny_bind (wpAny_seqItems g1 g2 ?_)
  simp only [Int.toNat_natCast, hx]
  refine wpAny_bind (wpAny_rule (wpAny_bind (wpAny_setField h1 h3 (by simp) ?_)))
  show wpAny _ _ (newExc (.type "StopIteration") [] >>= _) _ _ _
  refine wpAny_bind ?_
  simp only [newExc, newTuple]
  refine wpAny_bind (wpAny_newObj_type ?_ (by size_fits))
  refine wpAny_bind (m := firstArgMember _ _) (wpAny_of_eq (a := Value.none) (by first | rfl | (simp only [firstArgMember] <;> rfl)) ?_)
  refine wpAny_newObj_type ?_ (by size_fits)
  simp only [raiseNew]
  refine wpAny_bind (wpAny_handled ?_)
  first | rw [show A.in1.handled = none from hh] | rw [hh]
  refine wpAny_bind (wpAny_pure (wpAny_throw (q _ _ ?_ ⟨_, Heap.get?_push_size _ rfl, rfl⟩)))
  exact ((Heap.SameBut.update ..).extBut.push _).push _
structure ZAt (h : Heap) (z TI TO i1 i2 t1 t2 : Addr) (k : Nat) (f : Value) : Prop where
  z : IsZip h z TI TO f
  ti : IsPair h TI (.ref i1) (.ref i2)
  to : ∃ a b, IsPair h TO a b
  j1 : h.IsTupleIter i1 t1 k
  j2 : h.IsTupleIter i2 t2 k
structure ZNe (z TI TO i1 i2 t1 t2 : Addr) : Prop where
  a1 : TI ≠ z
  a2 : TO ≠ z
  a3 : i1 ≠ z
  a4 : i2 ≠ z
  a5 : TI ≠ TO
  a6 : TI ≠ i1
  a7 : TI ≠ i2
  a8 : TO ≠ i1
  a9 : TO ≠ i2
  b1 : i1 ≠ i2
  c1 : t1 ≠ z /\ t1 ≠ TO /\ t1 ≠ i1 /\ t1 ≠ i2
  c2 : t2 ≠ z /\ t2 ≠ TO /\ t2 ≠ i1 /\ t2 ≠ i2
theorem zip_item {z TI TO i1 i2 t1 t2 : Addr} {k : Nat} {xs ys : Array Value} {x y : Value} {Q : Option Value -> Shared -> Prop} (D : ZNe z TI TO i1 i2 t1 t2) (Z : ZAt s.heap z TI TO i1 i2 t1 t2 k .none)
    (ht1 : s.heap.IsTuple t1 xs) (ht2 : s.heap.IsTuple t2 ys) (hx : xs[k]? = some x) (hy : ys[k]? = some y)
    (hQ : ∀ h', ZAt h' z TI TO i1 i2 t1 t2 (k + 1) (rawInt s.heap.objs.size) -> IsPair h' s.heap.objs.size x y -> h'.objs.size = s.heap.objs.size + 1 ->
      (∀ c o, c ≠ z -> c ≠ TO -> c ≠ i1 -> c ≠ i2 -> s.heap.get? c = some o -> h'.get? c = some o) -> Q (some (.ref s.heap.objs.size)) { s with heap := h' }) :
    wpAny (model prog w) A (pyNext (.ref z)) Q E s := by
  have hT : s.TypeIs (.ref z) "zip" := ⟨_, Z.z, rfl⟩
  obtain ⟨u0, v0, hTO⟩ := Z.to
  unfold pyNext
  refine wpAny_bind (wpAny_attempt (wpAny_callSpecial?_slot (name := Str.ofString "__next__") hT F.slot_zip_next (wpAny_call_entry F.slot_zip_next hT F.entry_zip_next ?_ (F.args_zip_next_1 _))))
  show wpAny _ _ (field (.ref z) 2 >>= _) _ _ _
  refine wpAny_bind (wpAny_field Z.z rfl (x := .bool false) rfl ?_)
  show wpAny _ _ (field (.ref z) 3 >>= _) _ _ _
  refine wpAny_bind (wpAny_field Z.z rfl (x := .ref TI) rfl ?_)
  refine wpAny_bind (wpAny_seqItems Z.ti rfl ?_)
  show wpAny _ _ (Builtin.SmallTypes.ownedTupleIsFree (.ref z) >>= _) _ _ _
  refine wpAny_bind ?_
  unfold Builtin.SmallTypes.ownedTupleIsFree
  refine wpAny_bind (wpAny_field Z.z rfl (x := .none) rfl (wpAny_pure ?_))
  simp only [if_true]
  refine wpAny_bind (wpAny_rule (wpAny_bind (wpAny_field Z.z rfl (x := .ref TO) rfl ?_)))
  refine wpAny_bind (wpAny_setField_rec Z.z (by simp) fun g1 z1 s1 => ?_)
  have z1 : IsZip g1 z TI TO .ellipsis := z1
  refine wpAny_bind ?_
  simp only [List.zipIdx_cons, List.zipIdx_nil, List.forIn_cons, List.forIn_nil]
  refine wpAny_bind (wpAny_bind (wpAny_onRaise ?_))
  show wpAny _ _ (Builtin.SmallTypes.nextOf (.ref i1) >>= _) _ _ _
  refine wpAny_bind (nextOf_tup (Z.j1.extBut s1.extBut D.a3) (ht1.extBut s1.extBut D.c1.1) hx fun g2 j12 s2 => wpAny_pure ?_)
  have o2 : IsPair g2 TO u0 v0 := s2.extBut _ _ D.a8 (s1.extBut _ _ D.a2 hTO)
  refine wpAny_bind (wpAny_seqItems o2 rfl ?_)
  refine wpAny_bind (wpAny_updateSeq_pair o2 fun g3 o3 s3 => ?_)
  have o3 : IsPair g3 TO x v0 := o3
  refine wpAny_bind (wpAny_letGo (wpAny_pure ?_))
  refine wpAny_bind (wpAny_bind (wpAny_onRaise ?_))
  show wpAny _ _ (Builtin.SmallTypes.nextOf (.ref i2) >>= _) _ _ _
  refine wpAny_bind (nextOf_tup (((Z.j2.extBut s1.extBut D.a4).extBut s2.extBut D.b1.symm).extBut s3.extBut D.a9.symm) (((ht2.extBut s1.extBut D.c2.1).extBut s2.extBut D.c2.2.2.1).extBut s3.extBut D.c2.2.1) hy fun g4 j24 s4 => wpAny_pure ?_)
  have o4 : IsPair g4 TO x v0 := s4.extBut _ _ D.a9 o3
  refine wpAny_bind (wpAny_seqItems o4 rfl ?_)
  refine wpAny_bind (wpAny_updateSeq_pair o4 fun g5 o5 s5 => ?_)
  have o5 : IsPair g5 TO x y := o5
  refine wpAny_bind (wpAny_letGo (wpAny_pure (wpAny_pure ?_)))
  refine wpAny_bind (wpAny_seqItems o5 rfl ?_)
  refine wpAny_bind (wpAny_newTuple ?_)
  have sz : g5.objs.size = s.heap.objs.size := by rw [s5.1, s4.1, s3.1, s2.1, s1.1]
  have z5 : IsZip g5 z TI TO .ellipsis := s5.extBut _ _ D.a2.symm (s4.extBut _ _ D.a4.symm (s3.extBut _ _ D.a2.symm (s2.extBut _ _ D.a3.symm z1)))
  have k5 : ∀ c o, c ≠ z -> c ≠ TO -> c ≠ i1 -> c ≠ i2 -> s.heap.get? c = some o -> g5.get? c = some o := fun c o e1 e2 e3 e4 q => s5.extBut _ _ e2 (s4.extBut _ _ e4 (s3.extBut _ _ e2 (s2.extBut _ _ e3 (s1.extBut _ _ e1 q))))
  have j15 : g5.IsTupleIter i1 t1 (k + 1) := ((j12.extBut s3.extBut D.a8.symm).extBut s4.extBut D.b1).extBut s5.extBut D.a8.symm
  have j25 : g5.IsTupleIter i2 t2 (k + 1) := j24.extBut s5.extBut D.a9.symm
  have zlt : z < g5.objs.size := Heap.lt_size z5
  show wpAny _ _ (Builtin.SmallTypes.ownedTupleHandOut (.ref z) (.ref g5.objs.size) >>= _) _ _ _
  refine wpAny_bind ?_
  unfold Builtin.SmallTypes.ownedTupleHandOut
  have z6 : IsZip (g5.push { cls := .type "tuple", data := .seq #[x, y] }) z TI TO .ellipsis := Heap.get?_push_of_some _ z5
  refine wpAny_bind (wpAny_setField_rec z6 (by simp) fun g7 z7 s7 => ?_)
  have z7 : IsZip g7 z TI TO (rawInt g5.objs.size) := z7
  refine wpAny_setField_rec z7 (by simp) fun g8 z8 s8 => ?_
  have z8 : IsZip g8 z TI TO (rawInt g5.objs.size) := z8
  have up : ∀ c o, c ≠ z -> g5.get? c = some o -> g8.get? c = some o := fun c o e q => s8.extBut _ _ e (s7.extBut _ _ e (Heap.get?_push_of_some _ q))
  have T8 : IsPair g8 g5.objs.size x y := s8.extBut _ _ (Nat.ne_of_gt zlt) (s7.extBut _ _ (Nat.ne_of_gt zlt) (Heap.get?_push_size _ rfl))
  have n8 : g8.objs.size = g5.objs.size + 1 := by rw [s8.1, s7.1, Heap.size_push]
  rw [sz] at z8 T8 n8
  refine wpAny_pure ⟨_, rfl, wpAny_pure ?_⟩
  show Q (some (.ref g5.objs.size)) _
  rw [sz]
  refine hQ g8 ⟨z8, up _ _ D.a1 (k5 _ _ D.a1 D.a5 D.a6 D.a7 Z.ti), ⟨_, _, up _ _ D.a2 o5⟩, ?_, ?_⟩ T8 n8 fun c o e1 e2 e3 e4 q => up c o e1 (k5 c o e1 e2 e3 e4 q)
  · obtain ⟨ob, q1, q2⟩ := j15; exact ⟨ob, up _ _ D.a3 q1, q2⟩
  · obtain ⟨ob, q1, q2⟩ := j25; exact ⟨ob, up _ _ D.a4 q1, q2⟩
theorem zip_end {z TI TO i1 i2 t1 t2 : Addr} {k : Nat} {xs ys : Array Value} {Q : Option Value -> Shared -> Prop} (hh : A.handled = none) (D : ZNe z TI TO i1 i2 t1 t2) (Z : ZAt s.heap z TI TO i1 i2 t1 t2 k .none)
    (ht1 : s.heap.IsTuple t1 xs) (ht2 : s.heap.IsTuple t2 ys) (hend : xs[k]? = none \/ ys[k]? = none)
    (hQ : ∀ h', (∀ c o, c ≠ z -> c ≠ TO -> c ≠ i1 -> c ≠ i2 -> s.heap.get? c = some o -> h'.get? c = some o) -> Q none { s with heap := h' }) :
    wpAny (model prog w) A (pyNext (.ref z)) Q E s := by
  have hT : s.TypeIs (.ref z) "zip" := ⟨_, Z.z, rfl⟩
  obtain ⟨u0, v0, hTO⟩ := Z.to
  unfold pyNext
  refine wpAny_bind (wpAny_attempt (wpAny_callSpecial?_slot (name := Str.ofString "__next__") hT F.slot_zip_next (wpAny_call_entry F.slot_zip_next hT F.entry_zip_next ?_ (F.args_zip_next_1 _))))
  show wpAny _ _ (field (.ref z) 2 >>= _) _ _ _
  refine wpAny_bind (wpAny_field Z.z rfl (x := .bool false) rfl ?_)
  show wpAny _ _ (field (.ref z) 3 >>= _) _ _ _
  refine wpAny_bind (wpAny_field Z.z rfl (x := .ref TI) rfl ?_)
  refine wpAny_bind (wpAny_seqItems Z.ti rfl ?_)
  show wpAny _ _ (Builtin.SmallTypes.ownedTupleIsFree (.ref z) >>= _) _ _ _
  refine wpAny_bind ?_
  unfold Builtin.SmallTypes.ownedTupleIsFree
  refine wpAny_bind (wpAny_field Z.z rfl (x := .none) rfl (wpAny_pure ?_))
  simp only [if_true]
  refine wpAny_bind (wpAny_rule (wpAny_bind (wpAny_field Z.z rfl (x := .ref TO) rfl ?_)))
  refine wpAny_bind (wpAny_setField_rec Z.z (by simp) fun g1 z1 s1 => ?_)
  have z1 : IsZip g1 z TI TO .ellipsis := z1
  refine wpAny_bind ?_
  simp only [List.zipIdx_cons, List.zipIdx_nil, List.forIn_cons, List.forIn_nil]
  refine wpAny_bind (wpAny_bind (wpAny_onRaise ?_))
  show wpAny _ _ (Builtin.SmallTypes.nextOf (.ref i1) >>= _) _ _ _
  cases hx : xs[k]? with
  | none =>
    refine wpAny_bind (nextOf_tup_end hh (Z.j1.extBut s1.extBut D.a3) (ht1.extBut s1.extBut D.c1.1) hx fun g2 e s2 he => ?_)
    obtain ⟨oe, q1, q2⟩ := he
    have z2 : IsZip g2 z TI TO .ellipsis := s2 _ _ D.a3.symm z1
    have ne : e ≠ z := fun x => by subst x; rw [z2] at q1; cases q1; simp at q2
    exact wpAny_setField_rec z2 (by simp) fun g3 _ s3 => wpAny_bind (wpAny_isInstance (T := "StopIteration") (b := true) ⟨oe, s3.extBut _ _ ne q1, q2⟩ isSubtype_stop (wpAny_pure (hQ _ fun c o c1 _ c3 _ x => s3.extBut _ _ c1 (s2 _ _ c3 (s1.extBut _ _ c1 x)))))
  | some x =>
    have hy : ys[k]? = none := by
      rcases hend with q | q
      · rw [hx] at q; cases q
      · exact q
    refine wpAny_bind (nextOf_tup (Z.j1.extBut s1.extBut D.a3) (ht1.extBut s1.extBut D.c1.1) hx fun g2 j12 s2 => wpAny_pure ?_)
    have o2 : IsPair g2 TO u0 v0 := s2.extBut _ _ D.a8 (s1.extBut _ _ D.a2 hTO)
    refine wpAny_bind (wpAny_seqItems o2 rfl ?_)
    refine wpAny_bind (wpAny_updateSeq_pair o2 fun g3 o3 s3 => ?_)
    refine wpAny_bind (wpAny_letGo (wpAny_pure ?_))
    refine wpAny_bind (wpAny_bind (wpAny_onRaise ?_))
    show wpAny _ _ (Builtin.SmallTypes.nextOf (.ref i2) >>= _) _ _ _
    refine wpAny_bind (nextOf_tup_end hh (((Z.j2.extBut s1.extBut D.a4).extBut s2.extBut D.b1.symm).extBut s3.extBut D.a9.symm) (((ht2.extBut s1.extBut D.c2.1).extBut s2.extBut D.c2.2.2.1).extBut s3.extBut D.c2.2.1) hy fun g4 e s4 he => ?_)
    obtain ⟨oe, q1, q2⟩ := he
    have z4 : IsZip g4 z TI TO .ellipsis := s4 _ _ D.a4.symm (s3.extBut _ _ D.a2.symm (s2.extBut _ _ D.a3.symm z1))
    have ne : e ≠ z := fun x => by subst x; rw [z4] at q1; cases q1; simp at q2
    exact wpAny_setField_rec z4 (by simp) fun g5 _ s5 => wpAny_bind (wpAny_isInstance (T := "StopIteration") (b := true) ⟨oe, s5.extBut _ _ ne q1, q2⟩ isSubtype_stop (wpAny_pure (hQ _ fun c o c1 c2 c3 c4 x => s5.extBut _ _ c1 (s4 _ _ c4 (s3.extBut _ _ c2 (s2.extBut _ _ c3 (s1.extBut _ _ c1 x)))))))
noncomputable abbrev zh1 (h : Heap) (a : Addr) : Heap := h.push { cls := .type "tuple_iterator", data := .fields #[.ref a, .int 0 0] }
noncomputable abbrev zh2 (h : Heap) (a b : Addr) : Heap := (zh1 h a).push { cls := .type "tuple_iterator", data := .fields #[.ref b, .int 0 0] }
noncomputable abbrev zh3 (h : Heap) (a b : Addr) : Heap := (zh2 h a b).push { cls := .type "tuple", data := .seq #[.ref h.objs.size, .ref (zh1 h a).objs.size] }
noncomputable abbrev zh4 (h : Heap) (a b : Addr) : Heap := (zh3 h a b).push { cls := .type "tuple", data := .seq #[.none, .none] }
noncomputable abbrev zh5 (h : Heap) (a b : Addr) : Heap := (zh4 h a b).push { cls := .type "zip", data := .fields #[.none, .bool false, .bool false, .ref (zh2 h a b).objs.size, .ref (zh3 h a b).objs.size] }
end
theorem meets_zip_tups (a b : Addr) (xs ys : Array Value) :
    Meets (Builtin.«zip.__new__» ⟨[.type "zip", .ref a, .ref b], []⟩) (fun _ R s => s.heap.IsTuple a xs /\ s.heap.IsTuple b ys /\ R (.ok (.ret (.ref (zh4 s.heap a b).objs.size))) { s with heap := zh5 s.heap a b }) :=
  .of_wp fun prog w A R s h => by
    obtain ⟨hp, g, d, tk, os⟩ := s
    obtain ⟨q1, q2, h⟩ := h
    have sub := sub_zip
    have e1 : Heap.IsTuple (Shared.heap ⟨hp, g, d, tk, os⟩) a xs := q1
    have e2 : Heap.IsTuple (Shared.heap ⟨hp.push { cls := .type "tuple_iterator", data := .fields #[.ref a, .int 0 0] }, g, d, tk, os⟩) b ys := Heap.IsTuple.push q2 _
    wp_walk using wpAny_pyIter_tuple e1, wpAny_pyIter_tuple e2
    exact ⟨_, rfl, h⟩
section
variable {prog : Program} {w : World} {A : Around} {E : Value -> Shared -> Prop} {s : Shared}
theorem call_zip_tups {a b : Addr} {xs ys : Array Value} {Q : Value -> Shared -> Prop} (h1 : s.heap.IsTuple a xs) (h2 : s.heap.IsTuple b ys)
    (h : ∀ h', ZAt h' (s.heap.objs.size + 4) (s.heap.objs.size + 2) (s.heap.objs.size + 3) s.heap.objs.size (s.heap.objs.size + 1) a b 0 .none -> h'.objs.size = s.heap.objs.size + 5 ->
      (∀ c o, s.heap.get? c = some o -> h'.get? c = some o) -> Q (.ref (s.heap.objs.size + 4)) { s with heap := h' }) : wpAny (model prog w) A (call (.type "zip") [.ref a, .ref b]) Q E s := by
  refine callType_new F.called_zip (by decide) (F.typeCall_zip_2 _ _) (F.newCall_zip_2 _ _) (fun obj => F.args_object_init_3 obj _ _) F.entry_zip_new (meets_zip_tups a b xs ys) ⟨h1, h2, ?_⟩
  have n1 : (zh1 s.heap a).objs.size = s.heap.objs.size + 1 := Heap.size_push ..
  have n2 : (zh2 s.heap a b).objs.size = s.heap.objs.size + 2 := by rw [Heap.size_push, n1]
  have n3 : (zh3 s.heap a b).objs.size = s.heap.objs.size + 3 := by rw [Heap.size_push, n2]
  have n4 : (zh4 s.heap a b).objs.size = s.heap.objs.size + 4 := by rw [Heap.size_push, n3]
  have n5 : (zh5 s.heap a b).objs.size = s.heap.objs.size + 5 := by rw [Heap.size_push, n4]
  have p5 : (zh5 s.heap a b).get? (zh4 s.heap a b).objs.size = some _ := Heap.get?_push_size _ rfl
  have p4 : (zh5 s.heap a b).get? (zh3 s.heap a b).objs.size = some _ := Heap.get?_push_of_some _ (Heap.get?_push_size _ rfl)
  have p3 : (zh5 s.heap a b).get? (zh2 s.heap a b).objs.size = some _ := Heap.get?_push_of_some _ (Heap.get?_push_of_some _ (Heap.get?_push_size _ rfl))
  have p2 : (zh5 s.heap a b).get? (zh1 s.heap a).objs.size = some _ := Heap.get?_push_of_some _ (Heap.get?_push_of_some _ (Heap.get?_push_of_some _ (Heap.get?_push_size _ rfl)))
  have p1 : (zh5 s.heap a b).get? s.heap.objs.size = some _ := Heap.get?_push_of_some _ (Heap.get?_push_of_some _ (Heap.get?_push_of_some _ (Heap.get?_push_of_some _ (Heap.get?_push_size _ rfl))))
  show _ /\ _
  rw [n2, n3, n4] at p5
  rw [n1, n2] at p3
  rw [n3] at p4
  rw [n1] at p2
  rw [n4]
  exact ⟨⟨_, p5, rfl⟩, h _ ⟨p5, p3, ⟨_, _, p4⟩, ⟨_, p1, rfl, rfl⟩, ⟨_, p2, rfl, rfl⟩⟩ n5 fun c o x =>
    Heap.get?_push_of_some _ (Heap.get?_push_of_some _ (Heap.get?_push_of_some _ (Heap.get?_push_of_some _ (Heap.get?_push_of_some _ x))))⟩
end
noncomputable def Itz (K : PySem.W.Frag) (a b : Addr) : It :=
  ⟨fun i H => ∃ xs ys x y, SqT K H a xs /\ SqT K H b ys /\ xs[i]? = some x /\ ys[i]? = some y,
   fun i H v H' => ∃ p, v = .ref p /\ H p = none /\ ∃ x y, (∀ xs, SqT K H a xs -> xs[i]? = some x) /\ (∀ ys, SqT K H b ys -> ys[i]? = some y) /\ H' = upd H p (.tup [x, y]),
   fun i H => ∃ xs ys, SqT K H a xs /\ SqT K H b ys /\ (xs.length <= i \/ ys.length <= i)⟩
theorem turn_zip {P : Program} {w : World} {K : PySem.W.Frag} {elts : List Expr} {kk : Nat} {tp : Pos} {z TI TO i1 i2 a b : Addr} (D : ZNe z TI TO i1 i2 a b) :
    Turn P w K (.Tuple elts kk tp) (Itz K a b) [z, TI, TO, i1, i2] z (fun i h => ZAt h z TI TO i1 i2 a b i .none) where
  mem := by simp
  obj := fun i h st c hc => by
    obtain ⟨q1, q2, ⟨u, v, q3⟩, ⟨o4, q4, _, d4⟩, ⟨o5, q5, _, d5⟩⟩ := st
    simp only [List.mem_cons, List.not_mem_nil, or_false] at hc
    rcases hc with rfl | rfl | rfl | rfl | rfl
    · exact ⟨_, q1, fun v z => by cases z⟩
    · exact ⟨_, q2, fun v z => by cases z⟩
    · exact ⟨_, q3, fun v z => by cases z⟩
    · exact ⟨_, q4, fun v z => by rw [d4] at z; cases z⟩
    · exact ⟨_, q5, fun v z => by rw [d5] at z; cases z⟩
  keep := fun i h h' st k => by
    obtain ⟨q1, q2, ⟨u, v, q3⟩, ⟨o4, q4, r4⟩, ⟨o5, q5, r5⟩⟩ := st
    exact ⟨k z (by simp) _ q1, k TI (by simp) _ q2, ⟨u, v, k TO (by simp) _ q3⟩, ⟨o4, k i1 (by simp) _ q4, r4⟩, ⟨o5, k i2 (by simp) _ q5, r5⟩⟩
  item := by
    intro X hP hw hK hc i pins s σ H E I hf st hg
    subst hP hw hK
    obtain ⟨xs, ys, x, y, hxs, hys, hx, hy⟩ := hg
    obtain ⟨its, r1, p1, _⟩ := I.tuple hxs
    obtain ⟨its2, r2, p2, _⟩ := I.tuple hys
    obtain ⟨u, hu, ru⟩ := r1.get hx
    obtain ⟨v, hv, rv⟩ := r2.get hy
    refine zip_item D st p1 p2 (x := u) (y := v) (by simpa using hu) (by simpa using hv) fun h' Z' T' n' keep => ⟨_, rfl, ?_⟩
    refine wpAny_letOwnedTupleGo_zip Z'.z fun h'' z'' sb => ?_
    have hzlt : z < s.heap.objs.size := Heap.lt_size st.z
    have hT : h''.get? s.heap.objs.size = some { cls := .type "tuple", data := .seq #[u, v] } := sb.extBut _ _ (Nat.ne_of_gt hzlt) T'
    have k2 : ∀ c o, c ∉ [z, TO, i1, i2] -> s.heap.get? c = some o -> h''.get? c = some o := fun c o hc q => by
      simp only [List.mem_cons, List.not_mem_nil, or_false, not_or] at hc
      exact sb.extBut _ _ hc.1 (keep c o hc.1 hc.2.1 hc.2.2.1 hc.2.2.2 q)
    have fresh : H s.heap.objs.size = none := I.hok.fresh (Nat.le_refl _)
    have sub : ∀ c ∈ [z, TO, i1, i2], c ∈ [z, TI, TO, i1, i2] := fun c hc => by
      simp only [List.mem_cons, List.not_mem_nil, or_false] at hc ⊢
      rcases hc with h | h | h | h <;> simp [h]
    have none' : ∀ c ∈ [z, TO, i1, i2], H c = none := fun c hc => (hf c (sub c hc)).1
    have tne : ∀ c o, H c = some o -> c ≠ s.heap.objs.size := fun c o q => ne_of_none q fresh
    have new : ObjOk X.prog X.w (upd H s.heap.objs.size (.tup [x, y])) h'' s.heap.objs.size (.tup [x, y]) :=
      ⟨tupD_at (by show 2 <= sizeLine; decide) hT rfl, [u, v], .cons ru (.cons rv .nil), ⟨_, hT, rfl, 0, rfl⟩⟩
    have ok : HOk X.prog X.w (upd H s.heap.objs.size (.tup [x, y])) h'' := fun c o q => by
      by_cases hc : c = s.heap.objs.size
      · subst hc
        rw [upd_same] at q
        cases q
        exact new
      · rw [upd_ne hc] at q
        refine (I.hok c o q).stay (fun d v hd e => k2 d v (fun m => ?_) e) (fun d e => ?_) fun d zs e => ?_
        · rcases hd with rfl | hd
          · rw [none' _ m] at q; cases q
          · rw [none' _ m] at hd; cases hd
        · rw [upd_ne (tne _ _ e)]; exact e
        · rw [upd_ne (tne _ _ e)]; exact e
    obtain ⟨m, hm, _⟩ := id I.loc
    have hL : ∀ c ∈ [z, TO, i1, i2], c ≠ X.env.locals := fun c hc => (hf c (sub c hc)).2.1
    have I' : Inv X pins σ (upd H s.heap.objs.size (.tup [x, y])) { s with heap := h'' } := by
      refine I.step (g' := s.gens) (t' := s.toks) (d' := s.drawn) (ch := [z, TO, i1, i2]) (fun c hc => ⟨(hf c (sub c hc)).2.2.2.1, (hf c (sub c hc)).2.1, (hf c (sub c hc)).2.2.2.2.1, (hf c (sub c hc)).2.2.2.2.2⟩)
        (fun c o _ _ hc q _ => k2 c o hc q) (fun c o _ _ hc q _ => ⟨o.slots, k2 c o hc q⟩) (fun c o hc q n => ?_) (fun c o hc q => ⟨o, k2 c o hc q⟩) (fun c zs q => ?_) (fun c o v q => ?_) (fun c ps q => ⟨#[], ?_⟩) (fun m' hm' => ?_) ok I.bare
      · rw [upd_ne (Nat.ne_of_lt (Heap.lt_size q))]; exact n
      · rw [upd_ne (tne _ _ q)]; exact q
      · rw [upd_ne (tne _ _ q)]; exact q
      · rw [upd_ne (tne _ _ q)]; simpa using q
      · obtain ⟨o, es, ep, e, rr⟩ := hm'
        exact ⟨o, es, ep, k2 _ _ (fun hc => hL _ hc rfl) e, rr⟩
    refine ⟨.ref s.heap.objs.size, _, I', rfl, ⟨_, rfl, fresh, x, y, fun zs hz => by rw [I.tuple_inj hz hxs]; exact hx, fun zs hz => by rw [I.tuple_inj hz hys]; exact hy, rfl⟩, ?_, fun c hc => ?_⟩
    · obtain ⟨_, q2, ⟨e1, e2, q3⟩, ⟨o4, q4, r4⟩, ⟨o5, q5, r5⟩⟩ := Z'
      exact ⟨z'', sb.extBut _ _ D.a1 q2, ⟨e1, e2, sb.extBut _ _ D.a2 q3⟩, ⟨o4, sb.extBut _ _ D.a3 q4, r4⟩, ⟨o5, sb.extBut _ _ D.a4 q5, r5⟩⟩
    · have hlt : c < s.heap.objs.size := by
        obtain ⟨q1, q2, ⟨e1, e2, q3⟩, ⟨o4, q4, r4⟩, ⟨o5, q5, r5⟩⟩ := st
        simp only [List.mem_cons, List.not_mem_nil, or_false] at hc
        rcases hc with rfl | rfl | rfl | rfl | rfl
        · exact Heap.lt_size q1
        · exact Heap.lt_size q2
        · exact Heap.lt_size q3
        · exact Heap.lt_size q4
        · exact Heap.lt_size q5
      rw [upd_ne (Nat.ne_of_lt hlt)]
      exact (hf c hc).1
  done := by
    intro X hP hw hK hc i pins s σ H E I hf st hg
    subst hP hw hK
    obtain ⟨xs, ys, hxs, hys, hl⟩ := hg
    obtain ⟨its, r1, p1, _⟩ := I.tuple hxs
    obtain ⟨its2, r2, p2, _⟩ := I.tuple hys
    have l1 := r1.length
    have l2 := r2.length
    have sub : ∀ c ∈ [z, TO, i1, i2], c ∈ [z, TI, TO, i1, i2] := fun c hc => by
      simp only [List.mem_cons, List.not_mem_nil, or_false] at hc ⊢
      rcases hc with h | h | h | h <;> simp [h]
    refine zip_end (I.ok.hd hc) D st p1 p2 (hl.elim (fun q => .inl (by simp; lia)) fun q => .inr (by simp; lia)) fun h' keep => ⟨rfl, ?_⟩
    have k2 : ∀ c o, c ∉ [z, TO, i1, i2] -> s.heap.get? c = some o -> h'.get? c = some o := fun c o hc q => by
      simp only [List.mem_cons, List.not_mem_nil, or_false, not_or] at hc
      exact keep c o hc.1 hc.2.1 hc.2.2.1 hc.2.2.2 q
    have none' : ∀ c ∈ [z, TO, i1, i2], H c = none := fun c hc => (hf c (sub c hc)).1
    have ok : HOk X.prog X.w H h' := fun c o q => (I.hok c o q).stay (fun d v hd e => k2 d v (fun m => by
        rcases hd with rfl | hd
        · rw [none' _ m] at q; cases q
        · rw [none' _ m] at hd; cases hd) e) (fun _ e => e) fun _ _ e => e
    refine I.step (g' := s.gens) (t' := s.toks) (d' := s.drawn) (ch := [z, TO, i1, i2]) (fun c hc => ⟨(hf c (sub c hc)).2.2.2.1, (hf c (sub c hc)).2.1, (hf c (sub c hc)).2.2.2.2.1, (hf c (sub c hc)).2.2.2.2.2⟩)
        (fun c o _ _ hc q _ => k2 c o hc q) (fun c o _ _ hc q _ => ⟨o.slots, k2 c o hc q⟩) (fun c o hc q n => n) (fun c o hc q => ⟨o, k2 c o hc q⟩) (fun c zs q => q) (fun c o v q => q) (fun c ps q => ⟨#[], by simpa using q⟩) (fun m' hm' => ?_) ok I.bare
    obtain ⟨o, es, ep, e, rr⟩ := hm'
    exact ⟨o, es, ep, k2 _ _ (fun hc => (hf _ (sub _ hc)).2.1 rfl) e, rr⟩
  self := fun _ _ _ _ _ st h => wpAny_pyIter_zip st.z h
section
variable {X : Cx}
noncomputable def iZip (K : PySem.W.Frag) (ta : TA) : TI := fun σ H R => ta σ H fun vs H1 => ∃ a b xs ys, vs = [.ref a, .ref b] /\ SqT K H1 a xs /\ SqT K H1 b ys /\ R (Itz K a b) H1
theorem pi_zip {a b : Expr} {ta : TA} {elts : List Expr} {kk : Nat} {tp p pos : Pos} (hg : Gl X "zip") (hm : X.mg "zip" = none) (ha : PA X [a, b] ta) (hs : starEach [a, b] X.env = [(false, eval a X.env), (false, eval b X.env)] := by rfl) (hs2 : starEach [b] X.env = [(false, eval b X.env)] := by rfl) :
    PI X (.Tuple elts kk tp) (.Call (.Name "zip" p) [a, b] [] pos) (iZip X.K ta) := by
  intro pins s σ H R I h
  refine Call_ (ld_blt I hg hm boot_zip (PyProof.Rows.callWith_type1 (thn (ha pos pins s σ H _ I h) fun us s1 ⟨vs, H1, I1, r1, q1⟩ => ?_) (by rw [hs, hs2]) (by rw [hs2]; rfl)))
  obtain ⟨x, y, xs, ys, e, hx, hy, q⟩ := q1
  subst e
  cases r1 with
  | cons r rr =>
    cases rr with
    | cons r' rr =>
      cases rr
      cases r
      cases r'
      obtain ⟨its, v1, p1, _⟩ := I1.tuple hx
      obtain ⟨its2, v2, p2, _⟩ := I1.tuple hy
      have l1 : x < s1.heap.objs.size := by obtain ⟨_, e, _⟩ := p1; exact Heap.lt_size e
      have l2 : y < s1.heap.objs.size := by obtain ⟨_, e, _⟩ := p2; exact Heap.lt_size e
      have f : ∀ c : Addr, c < s1.heap.objs.size -> ∀ k : Nat, c ≠ s1.heap.objs.size + k := fun c hc k => Nat.ne_of_lt (Nat.lt_of_lt_of_le hc (Nat.le_add_right _ _))
      refine call_zip_tups p1 p2 fun h' Z n5 keep => wpAny_pyIter_zip Z.z ?_
      have I2 : Inv X pins σ H1 { s1 with heap := h' } := I1.kept (t' := s1.toks) keep
      refine ⟨_, [s1.heap.objs.size + 4, s1.heap.objs.size + 2, s1.heap.objs.size + 3, s1.heap.objs.size, s1.heap.objs.size + 1], _, _, H1, rfl, I2, turn_zip ⟨?_, ?_, ?_, ?_, ?_, ?_, ?_, ?_, ?_, ?_, ⟨f _ l1 4, f _ l1 3, Nat.ne_of_lt l1, f _ l1 1⟩, ⟨f _ l2 4, f _ l2 3, Nat.ne_of_lt l2, f _ l2 1⟩⟩, Z, fun c hc => ?_, q⟩
      any_goals (show (_ : Nat) ≠ _; lia)
      have hc' : s1.heap.objs.size <= c := by
        simp only [List.mem_cons, List.not_mem_nil, or_false] at hc
        rcases hc with rfl | rfl | rfl | rfl | rfl
        · exact Nat.le_add_right _ _
        · exact Nat.le_add_right _ _
        · exact Nat.le_add_right _ _
        · exact Nat.le_refl _
        · exact Nat.le_add_right _ _
      exact I1.fpOk hc' (I1.hok.fresh hc')
end
end L2
end
section
namespace L2
open PySem PySem.Spec PyProof.Rows
section
variable {prog : Program} {w : World} {A : Around} {E : Value -> Shared -> Prop} {s : Shared}
theorem getItem_tuple_all {t sl : Addr} {items : Array Value} {vl vu : Value} {lo hi : Option Int} {Q : Value -> Shared -> Prop} (ht : IsTup s.heap t items) (hs : s.heap.IsSliceOf sl vl vu .none) (pl : IsPart vl lo) (pu : IsPart vu hi)
    (hw : HT.sIx items.size 0 lo = 0 /\ HT.sIx items.size items.size hi = items.size) (h : Q (.ref t) s) : wpAny (model prog w) A (getItem (.ref t) (.ref sl)) Q E s := by
  obtain ⟨os, hos, hcs, hds⟩ := id hs
  have hTs : s.TypeIs (.ref sl) "slice" := ⟨os, hos, hcs⟩
  unfold getItem
  try with_reducible refine wpAny_holding ?_
  first | refine wpAny_bind (wpAny_pure ?_) | skip
  refine wpAny_bind (wpAny_sequenceKey ht.typeIs (by decide) ?_)
  refine wpAny_bind (wpAny_callSpecial?_slot (name := Str.ofString "__getitem__") ht.typeIs PyProof.Rows.slot_tuple_getitem
    (wpAny_call_entry PyProof.Rows.slot_tuple_getitem ht.typeIs entry_tuple_getitem ?_ (args_tuple_getitem _ _)))
  show wpAny _ _ (Builtin.Tuple.tupleItemsOf (.ref t) >>= _) _ _ s
  refine wpAny_bind (tupleItemsOf_ ht ?_)
  refine wpAny_bind (wpAny_typeOf hTs ?_)
  rw [if_pos (by decide)]
  refine wpAny_bind (HT.sliceApplied_gen hs pl pu ?_)
  have yes : (((HT.sIx items.size 0 lo : Nat) : Int) == 0 && (1 : Int) == 1 && (HT.sIx items.size items.size hi - HT.sIx items.size 0 lo) == items.size) = true := by
    rw [hw.1, hw.2]; simp
  show wpAny _ _ (if (((HT.sIx items.size 0 lo : Nat) : Int) == 0 && (1 : Int) == 1 && (HT.sIx items.size items.size hi - HT.sIx items.size 0 lo) == items.size) = true then _ else _) _ _ s
  rw [if_pos yes]
  obtain ⟨o, ho, hc, n, hd⟩ := id ht
  have ex : wpAny (model prog w) A.in1 (Builtin.Tuple.tupleIsExact (.ref t)) (fun b s' => b = true /\ s' = s) E s := by
    unfold Builtin.Tuple.tupleIsExact
    first
      | exact wpAny_bind (wpAny_typeOf ⟨o, ho, hc⟩ (wpAny_pure ⟨by rfl, rfl⟩))
      | exact wpAny_bind (wpAny_load ho (wpAny_pure ⟨by rw [hc]; rfl, rfl⟩))
  refine wpAny_bind (thn ex fun b s' hb => ?_)
  obtain ⟨rfl, rfl⟩ := hb
  rw [if_pos rfl]
  exact wpAny_bind (wpAny_rule (wpAny_pure ⟨_, rfl, wpAny_pure h⟩))
end
section
variable {X : Cx}
noncomputable def rSlW (K : PySem.W.Frag) : V -> Option Int -> Option Int -> Hp -> VK -> Prop := fun x lo hi H Q => ∃ a xs, x = .ref a /\ SqT K H a xs /\ HT.sIx xs.length 0 lo = 0 /\ HT.sIx xs.length xs.length hi = xs.length /\ Q (.ref a) H
theorem sl_tupW : SlR X (rSlW X.K) := by
  intro pins s σ H x v vl vu lo hi sl Q I rx hs pl pu h
  obtain ⟨a, xs, rfl, hx, h1, h2, q⟩ := h
  cases rx
  obtain ⟨its, r, ht, hz⟩ := I.tuple hx
  have hlen : its.toArray.size = xs.length := by rw [List.size_toArray]; exact r.length.symm
  refine ⟨"tuple", _, PyProof.Rows.slot_tuple_getitem.lookup, ht.typeIs, ?_⟩
  exact getItem_tuple_all ht hs pl pu (by rw [hlen]; exact ⟨h1, h2⟩) ⟨.ref a, H, I, rfl, q⟩
noncomputable def rSlS : V -> Option Int -> Option Int -> Hp -> VK -> Prop := fun x lo hi H Q => ∃ z, x = .str z /\ z.length <= sizeLine /\ Q (.str (Txt.slice z lo hi)) H
theorem sl_str : SlR X rSlS := by
  intro pins s σ H x v vl vu lo hi sl Q I rx hs pl pu h
  obtain ⟨z, rfl, hz, q⟩ := h
  obtain ⟨t, rfl⟩ := rx
  obtain ⟨os, hos, hcs, hds⟩ := id hs
  refine ⟨"str", _, F.slot_str_getitem.lookup, typeIs_str _ _ _, ?_⟩
  have fin : ∀ (t' : Tok) (k : Nat), EP X pins σ Q (.str (Txt.slice z lo hi) t') { s with toks := k } := fun t' k => ⟨.str _, H, I.tok _, ⟨_, rfl⟩, q⟩
  cases pl with
  | none =>
    cases pu with
    | none => exact wpAny_getItem_str_slice (l := none) (u := none) (st := none) ⟨os, hos, hcs, hds⟩ rfl (post_val_or_str ⟨Nat.le_trans (Txt.slice_le z _ _) hz, fin⟩)
    | int j uj => exact wpAny_getItem_str_slice (l := none) (u := some (j, uj)) (st := none) ⟨os, hos, hcs, hds⟩ rfl (post_val_or_str ⟨Nat.le_trans (Txt.slice_le z _ _) hz, fin⟩)
  | int i ui =>
    cases pu with
    | none => exact wpAny_getItem_str_slice (l := some (i, ui)) (u := none) (st := none) ⟨os, hos, hcs, hds⟩ rfl (post_val_or_str ⟨Nat.le_trans (Txt.slice_le z _ _) hz, fin⟩)
    | int j uj => exact wpAny_getItem_str_slice (l := some (i, ui)) (u := some (j, uj)) (st := none) ⟨os, hos, hcs, hds⟩ rfl (post_val_or_str ⟨Nat.le_trans (Txt.slice_le z _ _) hz, fin⟩)
theorem sl_U : SlR X (fun x lo hi H Q => rSlL X.K x lo hi H Q \/ (rSlT X.K x lo hi H Q \/ (rSlW X.K x lo hi H Q \/ rSlS x lo hi H Q))) := sl_list.or (sl_tup.or (sl_tupW.or sl_str))
end
structure Df (K : PySem.W.Frag) (mg : Str -> Option Value) (x : Str) (st : Stmt) (f : Addr) (fd : FuncData) (ps : List Str) : Prop where
  fn : Fun K x x st f fd
  b : Binds K fd ps []
  mg : mg x = some (.ref f)
theorem Df.kp {K : PySem.W.Frag} {mg : Str -> Option Value} {x : Str} {st : Stmt} {f : Addr} {fd : FuncData} {ps : List Str} (D : Df K mg x st f fd ps) : PySem.W.keepIn K (.ref f) = true := D.fn.kp
end L2
namespace L2
open PySem
theorem bt_len : bootBuiltins "len" = some (.builtin "len") := by decide +kernel
theorem bt_isinstance : bootBuiltins "isinstance" = some (.builtin "isinstance") := by decide +kernel
theorem bt_sorted : bootBuiltins "sorted" = some (.builtin "sorted") := by decide +kernel
theorem bt_int : bootBuiltins "int" = some (.type "int") := by decide +kernel
theorem bt_tuple : bootBuiltins "tuple" = some (.type "tuple") := by decide +kernel
theorem bt_bool : bootBuiltins "bool" = some (.type "bool") := by decide +kernel
theorem bt_list : bootBuiltins "list" = some (.type "list") := by decide +kernel
end L2
end
section
namespace L2
open PySem
noncomputable def lcChk (sc : Scope) (N : List Str) (scope : Scope) (fr : List (Str × Nat)) : Bool :=
  (scope.kind == .function) && scope.names.all (fun y => decide (y.2 ≠ .cell)) && scope.names.all (fun y => decide (y.2 = .local -> scope.names.lookup y.1 = some .local)) &&
    scope.names.all (fun y => decide (y.2 = .free -> sc.names.lookup y.1 = some .cell)) && fr.all (fun p => decide (N[p.2]? = some p.1) && decide (scope.names.lookup p.1 = some .free))
theorem LcOk.of {X : Cx} {sc : Scope} {N : List Str} {scope : Scope} {Nt : List Str} {fr : List (Str × Nat)} (h1 : X.env.scope = sc) (h2 : X.N = N) (h : lcChk sc N scope fr = true) : LcOk X scope Nt fr := by
  unfold lcChk at h
  simp only [Bool.and_eq_true, List.all_eq_true, decide_eq_true_eq] at h
  obtain ⟨⟨⟨⟨a1, a2⟩, a3⟩, a4⟩, a5⟩ := h
  refine ⟨eq_of_beq a1, a2, a3, fun y hy hf => ?_, fun p hp => ?_⟩
  · show X.env.scope.names.lookup y.1 = some .cell
    rw [h1]; exact a4 y hy hf
  · rw [h2]; exact a5 p hp
end L2
end
section
namespace L2
open PySem PySem.Spec PyProof.Rows
noncomputable def notStar : Expr -> Bool
  | .Starred _ _ => false
  | _ => true
noncomputable def noStars : List Expr -> Bool
  | [] => true
  | e :: es => notStar e && noStars es
theorem star_cons {env : Env} {e : Expr} {es : List Expr} (h : notStar e = true) : starEach (e :: es) env = (false, eval e env) :: starEach es env := by
  cases e <;> first | rfl | exact absurd h Bool.false_ne_true
theorem stars_any {env : Env} {pos : Pos} : ∀ {es : List Expr}, noStars es = true -> (backTo pos (starEach es env)).any (·.1) = false
  | [], _ => rfl
  | e :: es, h => by
    have h' : (notStar e && noStars es) = true := h
    rw [Bool.and_eq_true] at h'
    rw [star_cons h'.1]
    show (false || (backTo pos (starEach es env)).any (·.1)) = false
    rw [stars_any h'.2]; rfl
section
variable {X : Cx}
theorem qa_cons {e : Expr} {es : List Expr} {te : TE} {t : TA} (ha : PE X e te) (hr : PA X es t) (hs : notStar e = true := by rfl) : PA X (e :: es) (tCons te t) := pa_cons ha hr (star_cons hs)
noncomputable def constV : Expr -> Option V
  | .Constant (.int i) _ _ => some (.int i)
  | .Constant (.str x) _ _ => some (.str x)
  | .Constant (.bool b) _ _ => some (.bl b)
  | _ => none
noncomputable def constVs : List Expr -> Option (List V)
  | [] => some []
  | e :: es => match constV e, constVs es with
    | some v, some vs => some (v :: vs)
    | _, _ => none
theorem pe_const {e : Expr} {v : V} (h : constV e = some v) : PE X e (tC v) := by
  unfold constV at h
  split at h
  · cases h; exact pe_int
  · cases h; exact pe_str
  · cases h; exact pe_bl
  · cases h
theorem constV_ns {e : Expr} {v : V} (h : constV e = some v) : notStar e = true := by
  cases e <;> first | rfl | (unfold constV at h; cases h)
noncomputable def tVs (vs : List V) : TA := fun _ H Q => Q vs H
theorem pa_consts : ∀ {es : List Expr} {vs : List V}, constVs es = some vs -> PA X es (tVs vs)
  | [], vs, h => by cases h; exact pa_nil
  | e :: es, vs, h => by
    unfold constVs at h
    cases h1 : constV e with
    | none => rw [h1] at h; cases h
    | some v =>
      cases h2 : constVs es with
      | none => rw [h1, h2] at h; cases h
      | some us =>
        rw [h1, h2] at h
        cases h
        exact pa_cons (pe_const h1) (pa_consts h2) (star_cons (constV_ns h1))
theorem qe_call {CX : CXT} {k : Nat} {f : Addr} {fd : FuncData} {ps : List Str} {sp : Sp} {dvs : List V} {ds : List Value} {E : XK} {x : Str} {p pos : Pos} {e : Expr} {es : List Expr} {t : TA}
    (F : FnOk X.prog X.w X.K X.mg X.base CX k f fd ps sp) (hr : Room k X.A) (hg : Gl X x) (hm : X.mg x = some (.ref f)) (hk : PySem.W.keepIn X.K (.ref f) = true) (hb : Binds X.K fd ps ds) (hd : Vals dvs ds) (hx : Passes CX X E)
    (ha : PA X (e :: es) t) (hs : noStars (e :: es) = true := by rfl) (hdb : (x == ("__debug__" : Str)) = false := by decide) : PE X (.Call (.Name x p) (e :: es) [] pos) (tCall sp dvs E t) := by
  have h' : (notStar e && noStars es) = true := hs
  rw [Bool.and_eq_true] at h'
  exact pe_call F hr hg hm hk hb hd hx ha hdb (star_cons h'.1) (stars_any h'.2)
theorem qe_callB {x : Str} {p pos : Pos} {e : Expr} {es : List Expr} {t : TA} {id : String} {r : List V -> Hp -> VK -> Prop} (hc : CallR X (.builtin id) r) (hg : Gl X x) (hm : X.mg x = none) (hv : bootBuiltins x = some (.builtin id)) (ha : PA X (e :: es) t)
    (hs : noStars (e :: es) = true := by rfl) (hn : x ≠ "__name__" := by decide) (hdb : (x == ("__debug__" : Str)) = false := by decide) : PE X (.Call (.Name x p) (e :: es) [] pos) (tCB r t) := by
  have h' : (notStar e && noStars es) = true := hs
  rw [Bool.and_eq_true] at h'
  exact pe_callB hc hg hm hv ha hn hdb (star_cons h'.1) (stars_any h'.2)
theorem qe_callTy {x : Str} {p pos : Pos} {e : Expr} {es : List Expr} {t : TA} {T : String} {r : List V -> Hp -> VK -> Prop} (hc : CallR X (.type T) r) (hg : Gl X x) (hm : X.mg x = none) (hv : bootBuiltins x = some (.type T)) (ha : PA X (e :: es) t)
    (hs : noStars (e :: es) = true := by rfl) (hn : x ≠ "__name__" := by decide) (hdb : (x == ("__debug__" : Str)) = false := by decide) : PE X (.Call (.Name x p) (e :: es) [] pos) (tCB r t) := by
  have h' : (notStar e && noStars es) = true := hs
  rw [Bool.and_eq_true] at h'
  exact pe_callTy hc hg hm hv ha hn hdb (star_cons h'.1) (stars_any h'.2)
theorem qi_range1 {tg a : Expr} {ta : TA} {p pos : Pos} (hg : Gl X "range") (hm : X.mg "range" = none) (ha : PA X [a] ta) (hs : notStar a = true := by rfl) : PI X tg (.Call (.Name "range" p) [a] [] pos) (iRng1 ta) :=
  pi_range1 hg hm ha (by rw [star_cons hs]; rfl)
theorem qi_zip {a b : Expr} {ta : TA} {elts : List Expr} {kk : Nat} {tp p pos : Pos} (hg : Gl X "zip") (hm : X.mg "zip" = none) (ha : PA X [a, b] ta) (hs : notStar a = true := by rfl) (hs2 : notStar b = true := by rfl) :
    PI X (.Tuple elts kk tp) (.Call (.Name "zip" p) [a, b] [] pos) (iZip X.K ta) :=
  pi_zip hg hm ha (by rw [star_cons hs, star_cons hs2]; rfl) (by rw [star_cons hs2]; rfl)
end
end L2
end
section
namespace L2
open PySem PySem.Spec PyProof.Rows
theorem relv_ref (a : Addr) : RelV (.ref a) (.ref a) := rfl
theorem relv_ty (n : String) : RelV (.ty n) (.type n) := rfl
structure Hd (p : Prop) : Prop where
  out : p
section
variable {X : Cx} {pos : Pos} {a b c e o : Expr} {es : List Expr} {ta tb tc te to : TE} {t u : TS} {tt tu : TT} {tA : TA} {st : Stmt} {rest : List Stmt}
theorem wv (i : Nat) {x : Str} (hN : X.N[i]? = some x := by rfl) (hv : Vis X.env.scope x := by first | exact Or.inl rfl | exact Or.inr (Or.inl rfl) | exact Or.inr (Or.inr rfl)) (hd : (x == ("__debug__" : Str)) = false := by decide)
    (hcd : (x == ("__classdict__" : Str)) = false := by decide) : Hd (PE X (.Name x pos) (tVar i)) := ⟨pe_var hN hv hd hcd⟩
theorem we_int {i j pos} : Hd (PE X (.Constant (.int i) j pos) (tC (.int i))) := ⟨pe_int⟩
theorem we_str {x j pos} : Hd (PE X (.Constant (.str x) j pos) (tC (.str x))) := ⟨pe_str⟩
theorem we_bl {x j pos} : Hd (PE X (.Constant (.bool x) j pos) (tC (.bl x))) := ⟨pe_bl⟩
theorem we_non {j pos} : Hd (PE X (.Constant .none j pos) (tC .non)) := ⟨pe_non⟩
theorem we_glob {x : Str} {v : V} {y : Value} (hg : Gl X x) (hm : X.mg x = some y) (r : RelV v y) (hd : (x == ("__debug__" : Str)) = false := by decide) : Hd (PE X (.Name x pos) (tC v)) := ⟨pe_glob hg hm r hd⟩
theorem we_bltn {x : Str} {v : V} {y : Value} (hg : Gl X x) (hm : X.mg x = none) (hv : bootBuiltins x = some y) (r : RelV v y) (hn : x ≠ "__name__" := by decide) (hd : (x == ("__debug__" : Str)) = false := by decide) : Hd (PE X (.Name x pos) (tC v)) := ⟨pe_bltn hg hm hv r hn hd⟩
theorem we_op {op : Operator} {r : R2} (ho : OpR X (binaryOp op) r) (ha : Hd (PE X a ta)) (hb : Hd (PE X b tb)) : Hd (PE X (.BinOp a op b pos) (tOp r ta tb)) := ⟨pe_op ho ha.out hb.out⟩
theorem we_un {op : UnaryOp} {r : V -> Hp -> VK -> Prop} (ho : UnR X (unaryOp op) r) (ha : Hd (PE X a ta)) : Hd (PE X (.UnaryOp op a pos) (tUn r ta)) := ⟨pe_un ho ha.out⟩
theorem we_not (ha : Hd (PE X a ta)) : Hd (PE X (.UnaryOp .Not a pos) (tNotV ta)) := ⟨pe_not ha.out⟩
theorem we_cmpR {op : CmpOp} {r : R2} (ho : OpR X (compareOp op) r) (ha : Hd (PE X a ta)) (hb : Hd (PE X b tb)) (hm : behindInMarks op b = false) : Hd (PE X (.Compare a [op] [b] pos) (tOp r ta tb)) := ⟨pe_cmpR ho ha.out hb.out hm⟩
theorem we_one {op} (h : Hd (PE X a ta)) : Hd (PE X (.BoolOp op [a] pos) ta) := ⟨pe_one h.out⟩
theorem we_and {more : List Expr} (ha : Hd (PE X a ta)) (hb : Hd (PE X (.BoolOp .And (b :: more) pos) tb)) : Hd (PE X (.BoolOp .And (a :: b :: more) pos) (tAndV ta tb)) := ⟨pe_and ha.out hb.out⟩
theorem we_ifExp (hc : Hd (PT X c tt)) (ha : Hd (PE X a ta)) (hb : Hd (PE X b tb)) : Hd (PE X (.IfExp c a b pos) (tIf tt ta tb)) := ⟨pe_ifExp hc.out ha.out hb.out⟩
theorem we_lst (h : Hd (PA X es tA)) : Hd (PE X (.List es pos) (tLst tA)) := ⟨pe_lst h.out⟩
theorem we_tup {x1} (h : Hd (PA X es tA)) : Hd (PE X (.Tuple es x1 pos) (tTup tA)) := ⟨pe_tup h.out⟩
theorem wo_none : Hd (PO X none tNoPart) := ⟨po_none⟩
theorem wo_some (h : Hd (PE X e te)) : Hd (PO X (some e) (tPart te)) := ⟨po_some h.out⟩
theorem we_slice {r : V -> Option Int -> Option Int -> Hp -> VK -> Prop} {lo hi : Option Expr} {tl th : TO} {p2 : Pos} (hr : SlR X r) (he : Hd (PE X e te)) (hl : Hd (PO X lo tl)) (hu : Hd (PO X hi th)) : Hd (PE X (.Subscript e (.Slice lo hi none p2) pos) (tSl r te tl th)) := ⟨pe_slice hr he.out hl.out hu.out⟩
theorem we_ix {r : R2} (hr : IxR X r) (ha : Hd (PE X a ta)) (hb : Hd (PE X b tb)) (hs : PlainIx b) : Hd (PE X (.Subscript a b pos) (tOp r ta tb)) := ⟨pe_ix hr ha.out hb.out hs⟩
theorem wa_nil : Hd (PA X [] tNil) := ⟨pa_nil⟩
theorem wa_cons (ha : Hd (PE X e te)) (hr : Hd (PA X es tA)) (hs : notStar e = true := by rfl) : Hd (PA X (e :: es) (tCons te tA)) := ⟨qa_cons ha.out hr.out hs⟩
theorem wa_consts {vs : List V} (h : constVs es = some vs) : Hd (PA X es (tVs vs)) := ⟨pa_consts h⟩
theorem we_call {CX : CXT} {k : Nat} {f : Addr} {fd : FuncData} {ps : List Str} {sp : Sp} {dvs : List V} {ds : List Value} {E : XK} {x : Str} {p : Pos}
    (F : FnOk X.prog X.w X.K X.mg X.base CX k f fd ps sp) (hr : Room k X.A) (hg : Gl X x) (hm : X.mg x = some (.ref f)) (hk : PySem.W.keepIn X.K (.ref f) = true) (hb : Binds X.K fd ps ds) (hd : Vals dvs ds) (hx : Passes CX X E)
    (ha : Hd (PA X (e :: es) tA)) (hs : noStars (e :: es) = true := by rfl) (hdb : (x == ("__debug__" : Str)) = false := by decide) : Hd (PE X (.Call (.Name x p) (e :: es) [] pos) (tCall sp dvs E tA)) := ⟨qe_call F hr hg hm hk hb hd hx ha.out hs hdb⟩
theorem we_callB {x : Str} {p : Pos} {id : String} {r : List V -> Hp -> VK -> Prop} (hc : CallR X (.builtin id) r) (hg : Gl X x) (hm : X.mg x = none) (hv : bootBuiltins x = some (.builtin id)) (ha : Hd (PA X (e :: es) tA))
    (hs : noStars (e :: es) = true := by rfl) (hn : x ≠ "__name__" := by decide) (hdb : (x == ("__debug__" : Str)) = false := by decide) : Hd (PE X (.Call (.Name x p) (e :: es) [] pos) (tCB r tA)) := ⟨qe_callB hc hg hm hv ha.out hs hn hdb⟩
theorem we_callTy {x : Str} {p : Pos} {T : String} {r : List V -> Hp -> VK -> Prop} (hc : CallR X (.type T) r) (hg : Gl X x) (hm : X.mg x = none) (hv : bootBuiltins x = some (.type T)) (ha : Hd (PA X (e :: es) tA))
    (hs : noStars (e :: es) = true := by rfl) (hn : x ≠ "__name__" := by decide) (hdb : (x == ("__debug__" : Str)) = false := by decide) : Hd (PE X (.Call (.Name x p) (e :: es) [] pos) (tCB r tA)) := ⟨qe_callTy hc hg hm hv ha.out hs hn hdb⟩
theorem we_bm0 {name : Str} {apos cpos : Pos} {T id : String} {r : V -> List V -> Hp -> VK -> Prop} (pa : PlainAttrs T) (slot : Slot T name id) (hty : typeOf (.builtin id) = pure (.type "method_descriptor")) (hm : MtR X id r) (ho : Hd (PE X o to))
    (hbase : attributeBase o name X.env (eval o X.env) = eval o X.env := by rfl) (hline : (apos.endLine == cpos.line) = true := by rfl) : Hd (PE X (.Call (.Attribute o name apos) [] [] cpos) (tBM0 X.K T r to)) := ⟨pe_bm0 pa slot hty hm ho.out hbase hline⟩
theorem few_of {env : Env} {cpos : Pos} {es : List Expr} (h : noStars es = true) (hl : es.length < 29) :
    ((backTo cpos (starEach es env)).all (fun x => !x.1) && (backToKw cpos (keywordEach [] env)).all (fun x => x.1.isSome)
      && decide (es.length + ([] : List Keyword).length + (if ([] : List Keyword).isEmpty then 0 else 1) < 30)) = true := by
  have h1 : (backTo cpos (starEach es env)).all (fun x => !x.1) = true := by
    have := stars_any (env := env) (pos := cpos) h
    rw [List.all_eq_not_any_not]
    simpa using this
  have h2 : (backToKw cpos (keywordEach [] env)).all (fun x => x.1.isSome) = true := rfl
  rw [h1, h2]
  simp
  lia
theorem we_bm {name : Str} {apos cpos : Pos} {T id : String} {r : V -> List V -> Hp -> VK -> Prop} (pa : PlainAttrs T) (slot : Slot T name id) (hty : typeOf (.builtin id) = pure (.type "method_descriptor")) (hm : MtR X id r) (ho : Hd (PE X o to)) (ha : Hd (PA X (e :: es) tA))
    (hbase : attributeBase o name X.env (eval o X.env) = eval o X.env := by rfl) (hs : noStars (e :: es) = true := by rfl) (hl : (e :: es).length < 29 := by decide) (hline : (apos.endLine == cpos.line) = true := by rfl) :
    Hd (PE X (.Call (.Attribute o name apos) (e :: es) [] cpos) (tBM X.K T r to tA)) := by
  have h' : (notStar e && noStars es) = true := hs
  rw [Bool.and_eq_true] at h'
  exact ⟨pe_bm pa slot hty hm ho.out ha.out hbase (few_of hs hl) hline (star_cons h'.1) (stars_any h'.2)⟩
theorem wt_cmpR {op : CmpOp} {r : R2} (ho : OpR X (compareOp op) r) (ha : Hd (PE X a ta)) (hb : Hd (PE X b tb)) (hm : behindInMarks op b = false) : Hd (PT X (.Compare a [op] [b] pos) (tTest (tOp r ta tb))) := ⟨pt_cmpR ho ha.out hb.out hm⟩
theorem ww_and1 (ha : Hd (PT X a tt)) : Hd (PW X (.BoolOp .And [a] pos) tt) := ⟨pw_and1 ha.out⟩
theorem ww_or1 (ha : Hd (PT X a tt)) : Hd (PW X (.BoolOp .Or [a] pos) tt) := ⟨pw_or1 ha.out⟩
theorem ww_and {more : List Expr} (ha : Hd (PT X a tt)) (hb : Hd (PW X (.BoolOp .And (b :: more) pos) tu)) : Hd (PW X (.BoolOp .And (a :: b :: more) pos) (tAnd tt tu)) := ⟨pw_and ha.out hb.out⟩
theorem ww_or {more : List Expr} (ha : Hd (PT X a tt)) (hb : Hd (PW X (.BoolOp .Or (b :: more) pos) tu)) : Hd (PW X (.BoolOp .Or (a :: b :: more) pos) (tOr tt tu)) := ⟨pw_or ha.out hb.out⟩
theorem wt_pw (h : Hd (PW X e tt)) : Hd (PT X e tt) := ⟨h.out.pt⟩
theorem wt_not (ha : Hd (PT X a tt)) : Hd (PT X (.UnaryOp .Not a pos) (tNot tt)) := ⟨pt_not ha.out⟩
theorem wt_val (h : Hd (PE X e te)) (he : ∀ whole, isTrue e X.env whole = (do let v <- whole; standAt e.pos; holding [v] (truthy v)) := by intro _; rfl) : Hd (PT X e (tB te)) := ⟨pt_val h.out he⟩
theorem wt_truth (ha : Hd (PE X a ta)) (he : ∀ whole, isTrue a X.env whole = (do let v <- whole; standAt a.pos; holding [v] (truthy v))) : Hd (PT X a (fun σ H Q => ta σ H fun x H' => ∃ k, TruV X.K x H' k /\ Q k H')) := ⟨pt_truth ha.out he⟩
variable {tg iter : Expr} {wi : TI} {g : TG}
theorem wi_range1 {p : Pos} (hg : Gl X "range") (hm : X.mg "range" = none) (ha : Hd (PA X [a] tA)) (hs : notStar a = true := by rfl) : Hd (PI X tg (.Call (.Name "range" p) [a] [] pos) (iRng1 tA)) := ⟨qi_range1 hg hm ha.out hs⟩
theorem wi_zip {elts : List Expr} {kk : Nat} {tp p : Pos} (hg : Gl X "zip") (hm : X.mg "zip" = none) (ha : Hd (PA X [a, b] tA)) (hs : notStar a = true := by rfl) (hs2 : notStar b = true := by rfl) : Hd (PI X (.Tuple elts kk tp) (.Call (.Name "zip" p) [a, b] [] pos) (iZip X.K tA)) := ⟨qi_zip hg hm ha.out hs hs2⟩
theorem wi_U (hl : Hd (PE X e te)) : Hd (PI X tg e (fun σ H R => iList X.K te σ H R \/ iTup X.K te σ H R)) := ⟨pi_U hl.out⟩
theorem wg_name {i : Nat} {x : Str} (hN : X.N.Nodup) (hi : X.N[i]? = some x) (hx : Loc X.env.scope x) (hf : X.fn x = true \/ X.env.scope.names.lookup x = some .local := by first | exact .inl rfl | exact .inr rfl | assumption) : Hd (PG X (.Name x pos) (gName i)) := ⟨pg_name hN hi hx hf⟩
theorem wgs_nil : Hd (PGs X [] gNil) := ⟨pgs_nil⟩
theorem wgs_cons {gs : TGs} (h1 : Hd (PG X e g)) (h2 : Hd (PGs X es gs)) (hs : (assignEach (e :: es) X.env).map (·.2) = assign e X.env :: (assignEach es X.env).map (·.2) := by rfl) : Hd (PGs X (e :: es) (gCons g gs)) := ⟨pgs_cons h1.out h2.out hs⟩
theorem wg_tup {k n : Nat} {gs : TGs} (hc : X.calm = true) (h : Hd (PGs X es gs)) (hn : (assignEach es X.env).length = n := by rfl) (hst : (assignEach es X.env).findIdx? (·.1) = none := by rfl) : Hd (PG X (.Tuple es k pos) (gTup X.K n gs)) := ⟨pg_tup hc h.out hn hst⟩
theorem wg_sub {i : Expr} {ti : TE} {ts : TSet} (ho : Hd (PE X o to)) (hi : Hd (PE X i ti)) (hs : PSet X ts)
    (ha : ∀ v, assign (.Subscript o i pos) X.env v = (do
      let ov <- holding [v] (eval o X.env)
      let iv <- holding [v, ov] (eval i X.env)
      standAt pos
      holding [v, ov, iv] (setItem ov iv v)
      release [v, ov, iv] []) := by intro _; rfl) : Hd (PG X (.Subscript o i pos) (gSub to ti ts)) := ⟨pg_sub ho.out hi.out hs ha⟩
theorem wss_nil : Hd (PSs X [] tNext) := ⟨pss_nil⟩
theorem wss_one (h1 : Hd (PS X st t)) : Hd (PSs X [st] t) := ⟨pss_one h1.out⟩
theorem wss_cons (h1 : Hd (PS X st t)) (h2 : Hd (PSs X rest u)) : Hd (PSs X (st :: rest) (tSeq t u)) := ⟨pss_cons h1.out h2.out⟩
theorem ws_ret (he : Hd (PE X e te)) : Hd (PS X (.Return (some e) pos) (tRet te)) := ⟨ps_ret he.out⟩
theorem ws_if {sa sb : List Stmt} (hc : Hd (PT X c tt)) (ha : Hd (PSs X sa t)) (hb : Hd (PSs X sb u)) : Hd (PS X (.If c sa sb pos) (tIfS tt t u)) := ⟨ps_if hc.out ha.out hb.out⟩
theorem ws_expr (he : Hd (PE X e te)) (hs : swapsWith e none pos.line X.env = pure false := by rfl) : Hd (PS X (.Expr e pos) (tDrop te)) := ⟨ps_expr he.out hs⟩
theorem ws_set {i : Nat} {x : Str} {pos' : Pos} (hN : X.N.Nodup) (hi : X.N[i]? = some x) (hx : Loc X.env.scope x) (he : Hd (PE X e te)) (hs : swapsWith e (some (.Name x pos')) pos.line X.env = pure false := by rfl) (hf : X.fn x = true \/ X.env.scope.names.lookup x = some .local := by first | exact .inl rfl | exact .inr rfl | assumption) :
    Hd (PS X (.Assign [.Name x pos'] e pos) (tAsg te (gName i))) := ⟨ps_set hN hi hx he.out hs hf⟩
theorem ws_asg (he : Hd (PE X e te)) (hg : Hd (PG X tg g)) (hs : swapsWithSole [tg] e pos.line X.env = pure false := by rfl) (hw : swappedStores [tg] e X.env = pure none := by rfl) (h1 : (assignEach [tg] X.env).map (·.2) = [assign tg X.env] := by rfl) :
    Hd (PS X (.Assign [tg] e pos) (tAsg te g)) := ⟨ps_asg he.out hg.out hs hw h1⟩
theorem ws_for {body : List Stmt} (hp : PassesOwn (model X.prog X.w) X.A X.env X.xe) (hc : X.calm = true) (hi : Hd (PI X tg iter wi)) (hg : Hd (PG X tg g)) (hb : Hd (PSs X body t)) (hs : ∀ x, foldedSetIterable iter X.env x = pure x := by intro _; rfl) : Hd (PS X (.For tg iter body [] pos) (tFor wi g t)) := ⟨ps_for hp hc hi.out hg.out hb.out hs⟩
theorem ws_while {body : List Stmt} (hp : PassesOwn (model X.prog X.w) X.A X.env X.xe) (hc : Hd (PT X c tt)) (hb : Hd (PSs X body t)) : Hd (PS X (.While c body [] pos) (tWhile tt t)) := ⟨ps_while hp hc.out hb.out⟩
variable {ifs : List Expr} {scope : Scope} {Nt : List Str} {fr : List (Str × Nat)} {gz : ZC -> TG} {tz : ZC -> TT} {ez : ZC -> TE}
theorem wif_nil : Hd (PIfs X [] tAll) := ⟨pif_nil⟩
theorem wif_one (h : Hd (PT X c tt)) : Hd (PIfs X [c] tt) := ⟨pif_one h.out⟩
theorem we_lc (L : LcOk X scope Nt fr) (hcalm : X.calm = true) (hi : Hd (PI X tg iter wi)) (hg : ∀ z, Hd (PG (cxC X scope (Nt ++ fr.map (·.1)) z) tg (gz z))) (hgt : ∀ z, Tgt Nt.length (gz z))
    (hc : ∀ z, Hd (PIfs (cxC X scope (Nt ++ fr.map (·.1)) z) ifs (tz z))) (he : ∀ z, Hd (PE (cxC X scope (Nt ++ fr.map (·.1)) z) e (ez z))) (hs : ∀ x, foldedSetIterable iter X.env x = pure x := by intro _; rfl) :
    Hd (PE X (.ListComp e [⟨tg, iter, ifs, 0⟩] scope pos) (tLC wi Nt.length fr gz tz ez)) := ⟨pe_lc L hcalm hi.out (fun z => (hg z).out) hgt (fun z => (hc z).out) (fun z => (he z).out) hs⟩
theorem ws_lc {y : Str} {j : Nat} {py spos : Pos} (hN : X.N.Nodup) (hj : X.N[j]? = some y) (hy : Loc X.env.scope y) (L : LcOk X scope Nt fr) (hcalm : X.calm = true) (hi : Hd (PI X tg iter wi)) (hg : ∀ z, Hd (PG (cxC X scope (Nt ++ fr.map (·.1)) z) tg (gz z))) (hgt : ∀ z, Tgt Nt.length (gz z))
    (hc : ∀ z, Hd (PIfs (cxC X scope (Nt ++ fr.map (·.1)) z) ifs (tz z))) (he : ∀ z, Hd (PE (cxC X scope (Nt ++ fr.map (·.1)) z) e (ez z))) (hs : ∀ x, foldedSetIterable iter X.env x = pure x := by intro _; rfl)
    (hsw : swapsWith (.ListComp e [⟨tg, iter, ifs, 0⟩] scope pos) (some (.Name y py)) spos.line X.env = pure true := by rfl)
    (hff : X.fn y = true \/ X.env.scope.names.lookup y = some .local := by first | exact .inl rfl | exact .inr rfl | assumption) :
    Hd (PS X (.Assign [.Name y py] (.ListComp e [⟨tg, iter, ifs, 0⟩] scope pos) spos) (tLCset wi Nt.length fr gz tz ez j)) := ⟨ps_lc L hcalm hN hj hy hi.out (fun z => (hg z).out) hgt (fun z => (hc z).out) (fun z => (he z).out) hs hsw hff⟩
end
section
variable {P : Program} {w : World} {K : PySem.W.Frag} {mg : Str -> Option Value} {base : Heap}
theorem Fun.okH {x qual : Str} {st : Stmt} {f : Addr} {fd : FuncData} {N ps : List Str} {k : Nat} {sp : Sp} (F : Fun K x qual st f fd) (S : FnScope N ps (defScope st)) (len : ∀ vs H Q E, sp vs H Q E -> vs.length = ps.length)
    (hbody : ∀ (cdv : Value) (A : Around) (outer : List Env) (s : Shared) (H : Hp) (vs : List V) (Q : VK) (E : XK), Room k (A.deeper (envOfC qual (defScope st) s.heap.objs.size f cdv)) -> sp vs H Q E ->
      ∃ t, Hd (PSs (cxOf CX0 P w K mg base N qual (defScope st) f cdv A outer s H E).nox (defBody st) t) /\ t { nx := fun _ H' => Q .non H', rt := Q } (start N vs) H) : FnOk P w K mg base CX0 (k + 1) f fd ps sp :=
  F.ok S len fun cdv A outer s H vs Q E hr h => let ⟨t, h1, h2⟩ := hbody cdv A outer s H vs Q E hr h; ⟨t, h1.out, h2⟩
end
end L2
end
section
namespace Kn
open PySem PySem.W PyProof.Rows
noncomputable def krun {α : Type} (lt : Nat -> Nat -> Bool) : KasT α -> α
  | .ret a => a
  | .ask i j k => krun lt (k (lt i j))
theorem krun_bind {α β : Type} (lt : Nat -> Nat -> Bool) (f : α -> KasT β) : ∀ t : KasT α, krun lt (t.bind f) = krun lt (f (krun lt t))
  | .ret _ => rfl
  | .ask i j k => krun_bind lt f (k (lt i j))
section
variable (r : Nat -> Nat)
variable {r}
end
end Kn
end
section
namespace Kn
open PySem
noncomputable def cnt (v : Val) : List (Val × Int) -> Int
  | [] => 0
  | p :: ps => (if p.1 = v then p.2 else 0) + cnt v ps
noncomputable def RiseV (ys : List Val) : Prop := ys.Pairwise fun p q => aheadB p q = true
end Kn
end
section
namespace Kn
open PySem PySem.W PyProof.Rows
noncomputable def Asks {α : Type} (n : Nat) (R : α -> Prop) : KasT α -> Prop
  | .ret a => R a
  | .ask i j k => i < n /\ j < n /\ ∀ b, Asks n R (k b)
theorem Asks.bind {α β : Type} {n : Nat} {R : α -> Prop} {S : β -> Prop} {f : α -> KasT β} (hf : ∀ a, R a -> Asks n S (f a)) : ∀ {t : KasT α}, Asks n R t -> Asks n S (t.bind f)
  | .ret a, h => hf a h
  | .ask _ _ k, h => ⟨h.1, h.2.1, fun b => Asks.bind hf (h.2.2 b)⟩
theorem wp_of_run {α : Type} {n : Nat} {R : α -> Prop} {lt : Nat -> Nat -> Bool} {cmp : Nat -> Nat -> (Bool -> Shared -> Prop) -> Shared -> Prop} {Q : α -> Shared -> Prop} {s : Shared}
    (hc : ∀ i j C, i < n -> j < n -> C (lt i j) s -> cmp i j C s) : ∀ {t : KasT α}, Asks n R t -> Q (krun lt t) s -> t.kasWp cmp Q s
  | .ret _, _, q => q
  | .ask i j k, h, q => hc i j _ h.1 h.2.1 (wp_of_run hc (h.2.2 _) q)
noncomputable def Gn (n : Nat) (p : Array Nat) : Prop := ∀ x ∈ p.toList, x < n
theorem Gn.get {n : Nat} {p : Array Nat} (h0 : 0 < n) (h : Gn n p) (i : Nat) : p.getD i 0 < n := by
  rw [Array.getD_eq_getD_getElem?]
  cases e : p[i]? with
  | none => exact h0
  | some x => exact h x (Array.mem_toList_iff.mpr (Array.mem_of_getElem? e))
theorem Gn.perm {n : Nat} {p q : Array Nat} (h : Gn n p) (e : q.Perm p) : Gn n q := fun x hx => h x (Array.mem_toList_iff.mpr (e.mem_iff.mp (Array.mem_toList_iff.mp hx)))
section
variable {n : Nat} (h0 : 0 < n)
include h0
theorem asks_asc {p : Array Nat} (g : Gn n p) : ∀ f m, Asks n (fun _ => True) (kas_asc p f m)
  | 0, _ => trivial
  | f + 1, m => by
    rw [kas_asc]
    refine ⟨g.get h0 _, g.get h0 _, fun b => ?_⟩
    dsimp only
    split
    · trivial
    · exact asks_asc g f _
theorem asks_desc : ∀ (f : Nat) (p : Array Nat) (m q : Nat), Gn n p -> Asks n (fun r : Array Nat × Nat × Nat => Gn n r.1) (kas_desc f p m q)
  | 0, p, _, _, g => g
  | f + 1, p, m, q, g => by
    rw [kas_desc]
    refine ⟨g.get h0 _, g.get h0 _, fun b => ?_⟩
    dsimp only
    by_cases hb : b = true
    · rw [if_pos hb]
      split
      · exact asks_desc f _ _ _ (g.perm (mirror_perm _ _ _ _))
      · exact asks_desc f _ _ _ g
    · rw [if_neg hb]
      refine ⟨g.get h0 _, g.get h0 _, fun b => ?_⟩
      dsimp only
      split
      · exact g
      · exact asks_desc f _ _ _ g
theorem asks_tail {p : Array Nat} (g : Gn n p) (m k : Nat) : Asks n (fun r : Nat × Array Nat => Gn n r.2) (kas_tail3 m k p) := by
  unfold kas_tail3
  refine Asks.bind (R := fun _ => True) (fun m _ => ?_) (asks_asc h0 (g.perm (mirror_perm _ _ _ _)) _ _)
  exact g.perm (mirror_perm _ _ _ _)
theorem asks_descPart {p : Array Nat} (g : Gn n p) (m k : Nat) : Asks n (fun r : Nat × Array Nat => Gn n r.2) (kas_descPart m k p) := by
  unfold kas_descPart
  refine Asks.bind (fun r hr => ?_) (asks_desc h0 _ p _ _ g)
  split
  · exact asks_tail h0 (Gn.perm hr (mirror_perm _ _ _ _)) _ _
  · exact asks_tail h0 hr _ _
theorem asks_count {p : Array Nat} (g : Gn n p) (k : Nat) : Asks n (fun r : Nat × Array Nat => Gn n r.2) (kas_count k p) := by
  unfold kas_count
  refine Asks.bind (fun m _ => ?_) (asks_asc h0 g _ _)
  split
  · exact g
  split
  · refine ⟨g.get h0 _, g.get h0 _, fun b => ?_⟩
    dsimp only
    split
    · exact g
    · exact asks_descPart h0 (g.perm (mirror_perm _ _ _ _)) _ _
  · exact asks_descPart h0 g _ _
theorem asks_place {p : Array Nat} (g : Gn n p) (k : Nat) : ∀ f l u, Asks n (fun _ => True) (kas_place p k f l u)
  | 0, _, _ => trivial
  | f + 1, l, u => by
    rw [kas_place]
    split
    · trivial
    · refine ⟨g.get h0 _, g.get h0 _, fun b => ?_⟩
      dsimp only
      split
      · exact asks_place g k f _ _
      · exact asks_place g k f _ _
theorem asks_bin : ∀ (f : Nat) (p : Array Nat) (k : Nat), Gn n p -> Asks n (fun _ => True) (kas_bin f p k)
  | 0, _, _, _ => trivial
  | f + 1, p, k, g => by
    rw [kas_bin]
    exact Asks.bind (fun l _ => asks_bin f _ _ (g.perm (bubble_perm _ _ _))) (asks_place h0 g _ _ _ _)
theorem asks_sort : Asks n (fun _ => True) (kas_sort n) := by
  unfold kas_sort
  refine Asks.bind (fun r hr => ?_) (asks_count h0 (p := (List.range n).toArray) (fun x hx => by simpa using hx) n)
  split
  · exact asks_bin h0 _ _ _ hr
  · trivial
end
noncomputable def vAt (xs : List Val) (i : Nat) : Val := xs[i]?.getD (.num 0)
end Kn
end
section
namespace L2
open PySem PySem.Spec PyProof.Rows PySem.W
open Kn (KE cmpK kEl sLt key aheadB RiseV vAt)
noncomputable def kk : KE -> Key
  | .i n => .inl n
  | .s x => .inr x
section
variable {prog : Program} {w : World} {A : Around} {E : Value -> Shared -> Prop} {s : Shared}
end
section
variable {X : Cx}
end
end L2
end
section
namespace L2
open PySem PySem.Spec PyProof.Rows
section
variable {X : Cx}
noncomputable def isiW (x : V) (T : String) (b : Bool) : Prop :=
  (T = "int" /\ (∃ i, x = .int i) /\ b = true) \/ (T = "bool" /\ (∃ i, x = .int i) /\ b = false) \/ (T = "str" /\ ((∃ i, x = .int i) /\ b = false \/ (∃ z, x = .str z) /\ b = true))
theorem call_isiW : CallR X (.builtin "isinstance") (fun xs H Q => ∃ x T b, xs = [x, .ty T] /\ isiW x T b /\ Q (.bl b) H) := by
  intro pins s σ H xs us Q I r h
  obtain ⟨x, T, b, rfl, hi, q⟩ := h
  obtain ⟨u, v, rfl, ru, rv⟩ := r.two
  cases rv
  rcases hi with ⟨rfl, ⟨i, rfl⟩, rfl⟩ | ⟨rfl, ⟨i, rfl⟩, rfl⟩ | ⟨rfl, ⟨⟨i, rfl⟩, rfl⟩ | ⟨⟨z, rfl⟩, rfl⟩⟩
  · obtain ⟨t, rfl⟩ := ru
    exact IsiPair.int_int ⟨.bl true, H, I, rfl, q⟩
  · obtain ⟨t, rfl⟩ := ru
    exact IsiPair.int_bool ⟨.bl false, H, I.tok _, rfl, q⟩
  · obtain ⟨t, rfl⟩ := ru
    exact IsiPair.int_str ⟨.bl false, H, I.tok _, rfl, q⟩
  · obtain ⟨t, rfl⟩ := ru
    exact IsiPair.str_str ⟨.bl true, H, I, rfl, q⟩
theorem call_isiU : CallR X (.builtin "isinstance") (fun xs H Q => (∃ x T b, xs = [x, .ty T] /\ isiV H x T b /\ Q (.bl b) H) \/ ∃ x T b, xs = [x, .ty T] /\ isiW x T b /\ Q (.bl b) H) := call_isi.or call_isiW
variable {pos : Pos} {e f o : Expr} {te tf to : TE}
theorem m2_of {m : Str} {apos cpos : Pos} (hb : attributeBase o m X.env (eval o X.env) = eval o X.env) (h1 : notStar e = true) (h2 : notStar f = true) (hline : (apos.endLine == cpos.line) = true) : M2 X o m apos e f cpos :=
  ⟨hb, few_of (by show (notStar e && (notStar f && true)) = true; rw [h1, h2]; rfl) (by show 2 < 29; decide), hline, by rw [star_cons h1, star_cons h2]; rfl⟩
theorem we_dget2 {apos cpos : Pos} (hu : X.A.units + 1 < cLine) (ho : Hd (PE X o to)) (he : Hd (PE X e te)) (hf : Hd (PE X f tf)) (hb : attributeBase o "get" X.env (eval o X.env) = eval o X.env := by rfl) (h1 : notStar e = true := by rfl) (h2 : notStar f = true := by rfl) (hline : (apos.endLine == cpos.line) = true := by rfl) :
    Hd (PE X (.Call (.Attribute o "get" apos) [e, f] [] cpos) (tDGet2 to te tf)) := ⟨pe_dget2 hu ho.out he.out hf.out (m2_of hb h1 h2 hline)⟩
end
end L2
end
section
namespace L2
open PySem PySem.Spec PyProof.Rows
section
variable {X : Cx}
end
end L2
end
section
namespace L2
open PySem PySem.Spec PyProof.Rows
section
variable {X : Cx}
end
end L2
end
section
namespace L2
open PySem PySem.Spec PyProof.Rows
theorem stand_led (t : SetTable) (n : Nat) : (t.orStandIn n).led = t.led := by
  unfold SetTable.orStandIn; split <;> rfl
theorem lay_led (t : SetTable) (es : Array (Int × Value)) (h : Int) (x : Value) : (layNew t es h x).2.1.led = t.led := by
  unfold layNew
  split
  · exact stand_led _ _
  · rfl
theorem laid_led {mask finger moves : Nat} {led plain : Bool} {hs : Array Int} {r : SetTable × Array Nat} (h : SetTable.laid mask finger moves led plain hs = some r) : r.1.led = led /\ r.1.plain = plain := by
  unfold SetTable.laid at h
  cases hc : SetTable.layClean mask hs with
  | none => rw [hc] at h; cases h
  | some ow => rw [hc] at h; cases h; exact ⟨rfl, rfl⟩
theorem relay_led (t : SetTable) (es : Array (Int × Value)) (n : Nat) : (relayAll t es n).2.1.led = t.led := by
  unfold relayAll
  cases hr : t.relaid (es.map (·.1)) n with
  | none => rfl
  | some r =>
    obtain ⟨t', order⟩ := r
    have := laid_led hr
    dsimp only
    split
    · exact this.1
    · rfl
theorem relay_plain (t : SetTable) (es : Array (Int × Value)) (n : Nat) (hp : t.plain = false) : (relayAll t es n).2.1.plain = false := by
  unfold relayAll
  cases hr : t.relaid (es.map (·.1)) n with
  | none => rfl
  | some r =>
    obtain ⟨t', order⟩ := r
    have := laid_led hr
    dsimp only
    split
    · exact this.2.trans hp
    · rfl
noncomputable def valS : Value -> Str
  | .str x _ => x
  | _ => Str.empty
noncomputable def strsOf (es : List (Int × Value)) : List Str := es.map fun e => valS e.2
noncomputable def SetS (prog : Program) (w : World) (h : Heap) (a : Addr) (zs : List Str) : Prop :=
  ∃ (es : Array (Int × Value)) (ep : Nat) (t : SetTable), h.get? a = some { cls := .type "set", dict := none, data := .set es ep t, slots := #[] } /\ ElemsOf (strKind prog w) es.toList /\ t.fits es.size = true /\
    t.led = (!w.params.followText "set-order") /\ (t.plain = false \/ es = #[]) /\ es.size < 4000 /\ (strsOf es.toList).Nodup /\ ∀ x, x ∈ strsOf es.toList ↔ x ∈ zs
theorem SetS.at {prog : Program} {w : World} {h h' : Heap} {a : Addr} {zs : List Str} (S : SetS prog w h a zs) (k : ∀ o, h.get? a = some o -> h'.get? a = some o) : SetS prog w h' a zs := by
  obtain ⟨es, ep, t, ho, r⟩ := S
  exact ⟨es, ep, t, k _ ho, r⟩
section
variable {prog : Program} {w : World} {A : Around} {E : Value -> Shared -> Prop} {s : Shared} {a : Addr} {zs : List Str}
theorem elem_str {es : List (Int × Value)} (h : ElemsOf (strKind prog w) es) {e : Int × Value} (he : e ∈ es) : ∃ t, e.2 = .str (valS e.2) t /\ e.1 = (strKind prog w).hash (valS e.2) := by
  obtain ⟨⟨k, hk, hh⟩, _⟩ := h e he
  obtain ⟨t, ht⟩ := Value.isStrOf_shape (x := k) (v := e.2) hk
  have : valS e.2 = k := by rw [ht]; rfl
  exact ⟨t, by rw [this]; exact ht, by rw [this]; exact hh⟩
theorem found_iff {es : List (Int × Value)} (h : ElemsOf (strKind prog w) es) (x : Str) : (∃ e ∈ es, (strKind prog w).is x e.2 = true) ↔ x ∈ strsOf es := by
  constructor
  · rintro ⟨e, he, hx⟩
    obtain ⟨t, ht⟩ := Value.isStrOf_shape (x := x) (v := e.2) hx
    exact List.mem_map.mpr ⟨e, he, by rw [ht]; rfl⟩
  · intro hx
    obtain ⟨e, he, rfl⟩ := List.mem_map.mp hx
    obtain ⟨t, ht, _⟩ := elem_str h he
    refine ⟨e, he, ?_⟩
    rw [ht]
    exact strKind_is _ _ _ _
theorem set_put {es es' : Array (Int × Value)} {ep : Nat} {t t' : SetTable} {Q : Unit -> Shared -> Prop} (ho : s.heap.get? a = some { cls := .type "set", dict := none, data := .set es ep t, slots := #[] }) (hz : es'.size < 4096)
    (h : ∀ h', Heap.SameBut a s.heap h' -> h'.get? a = some { cls := .type "set", dict := none, data := .set es' (ep + 1) t', slots := #[] } -> Q () { s with heap := h' }) : wpAny (model prog w) A (storeSet a es' t') Q E s := by
  refine wpAny_storeSet_of (ep := ep) (t := t) ho rfl (h _ (Heap.SameBut.update s.heap a _) ?_) (fits_of_scanBound hz)
  have := Heap.get?_update_self (Obj.putSet es' t') ho (by rw [putSet_of (ep := ep) (t := t) es' t' rfl]; rfl)
  rw [this, putSet_of (ep := ep) (t := t) es' t' rfl]
theorem nodup_perm_snoc {l l' : List Str} {x : Str} (p : List.Perm l' (l ++ [x])) (nd : l.Nodup) (h : x ∉ l) : l'.Nodup := by
  refine p.nodup_iff.mpr (List.nodup_append.mpr ⟨nd, by simp, fun y hy z hz => ?_⟩)
  rw [List.mem_singleton.mp hz]
  exact fun e => h (e ▸ hy)
theorem set_add {x : Str} {tk : Tok} {Q : Bool -> Shared -> Prop} (S : SetS prog w s.heap a zs) (hl : zs.length < 3900)
    (h : ∀ b h', Heap.SameBut a s.heap h' -> SetS prog w h' a (zs ++ [x]) -> Q b { s with heap := h' }) : wpAny (model prog w) A (setAddHashed a (.str x tk) ((strKind prog w).hash x)) Q E s := by
  obtain ⟨es, ep, t, ho, hel, hf, hled, hpl, hsz, nd, hm⟩ := S
  have hsz' : es.size < 3950 := by
    have := List.Nodup.length_le_of_subset nd fun y hy => (hm y).mp hy
    rw [strsOf, List.length_map, Array.length_toList] at this
    lia
  have hkey : (strKind prog w).is x (.str x tk) = true := strKind_is _ _ _ _
  have hsc : (Value.str x tk).scannable = true := rfl
  unfold setAddHashed setAddHashedIn
  refine wpAny_holding (wpAny_bind (wpAny_setState_of ho rfl hf ?_))
  dsimp only
  rw [byScan_of hsc (by show es.size < 4096; lia) hel, if_pos rfl]
  unfold setAddByScan
  refine wpAny_bind (wpAny_bind (wpAny_rule (wpAny_bind (wpAny_setScan_of hkey ho rfl hf hel ?_))))
  cases hr : List.findIdx? (fun e => (strKind prog w).is x e.2) es.toList with
  | some j =>
    obtain ⟨hj, hpj, _⟩ := List.findIdx?_eq_some_iff_getElem.mp hr
    have hx : x ∈ zs := (hm x).mp ((found_iff hel x).mp ⟨es.toList[j], List.getElem_mem hj, hpj⟩)
    refine wpAny_pure (wpAny_pure ?_)
    refine h false s.heap (Heap.SameBut.refl a s.heap) ⟨es, ep, t, ho, hel, hf, hled, hpl, hsz, nd, fun y => ?_⟩
    rw [hm y, List.mem_append, List.mem_singleton]
    exact ⟨.inl, fun z => z.elim id fun e => e ▸ hx⟩
  | none =>
    have hx : x ∉ strsOf es.toList := fun z => by
      obtain ⟨e, he, q⟩ := (found_iff hel x).mpr z
      have := List.findIdx?_eq_none_iff.mp hr e he
      rw [q] at this; cases this
    have hperm := layNew_perm t es ((strKind prog w).hash x) (.str x tk)
    have hfits := layNew_fits t es ((strKind prog w).hash x) (.str x tk)
    have hled1 := lay_led t es ((strKind prog w).hash x) (.str x tk)
    dsimp only
    generalize layNew t es ((strKind prog w).hash x) (.str x tk) = L at hperm hfits hled1 ⊢
    obtain ⟨es1, t1, dum, gave⟩ := L
    dsimp only at hperm hfits hled1 ⊢
    rw [Array.toList_push] at hperm
    have hel1 : ElemsOf (strKind prog w) es1.toList := (hel.push hkey hsc).perm hperm
    have hps : (strsOf es1.toList).Perm (strsOf es.toList ++ [x]) := by
      have := hperm.map (fun e : Int × Value => valS e.2)
      rw [List.map_append] at this
      exact this
    have nd1 := nodup_perm_snoc hps nd hx
    have hm1 : ∀ y, y ∈ strsOf es1.toList ↔ y ∈ zs ++ [x] := fun y => by
      rw [hps.mem_iff, List.mem_append, List.mem_append, hm y]
    have hs1 : es1.size = es.size + 1 := by
      have := hperm.length_eq
      rw [List.length_append, Array.length_toList, Array.length_toList] at this
      simpa using this
    have gw : ∀ (b : Bool) {s₁ : Shared} {Q' : Unit -> Shared -> Prop}, Q' () s₁ -> wpAny (model prog w) A (match b with | true => rule "set.scan.the-table-gave-way" | false => pure ()) Q' E s₁ := fun b s₁ Q' q => by
      cases b
      · exact wpAny_pure q
      · exact wpAny_rule q
    refine wpAny_bind (gw _ ?_)
    cases e : t1.plain
    case' false =>
      rw [if_neg Bool.false_ne_true]
      refine wpAny_bind (wpAny_pure ?_)
      simp only [if_true]
      have hf2 := hfits
      have hl2 : t1.led = t.led := hled1
      have hp2 : t1.plain = false := e
      clear e hfits hled1
      generalize t1 = t2 at hf2 hl2 hp2 ⊢
    case' true =>
      rw [if_pos rfl, hashByValue_scannable 8 hsc]
      refine wpAny_bind (wpAny_pure ?_)
      simp only [show plainKind (.str x tk) = false from rfl, Bool.false_eq_true, if_false]
      have hf2 := SetTable.fits_plain_off hfits
      have hl2 : ({ t1 with plain := false } : SetTable).led = t.led := hled1
      have hp2 : ({ t1 with plain := false } : SetTable).plain = false := rfl
      clear e hfits hled1
      generalize ({ t1 with plain := false } : SetTable) = t2 at hf2 hl2 hp2 ⊢
    all_goals
      refine wpAny_bind (set_put ho (by lia) fun h1 hb1 ho1 => ?_)
      split
      · have hp := relayAll_perm t2 es1 (SetTable.grown es1.size)
        have hfr := relayAll_fits t2 es1 (SetTable.grown es1.size)
        have hlr := relay_led t2 es1 (SetTable.grown es1.size)
        have hpr := relay_plain t2 es1 (SetTable.grown es1.size) hp2
        generalize relayAll t2 es1 (SetTable.grown es1.size) = R at hp hfr hlr hpr ⊢
        obtain ⟨es2, t3, g2⟩ := R
        dsimp only at hp hfr hlr hpr ⊢
        have hs2 : es2.size = es1.size := by rw [<- Array.length_toList, hp.length_eq, Array.length_toList]
        have hp' : (strsOf es2.toList).Perm (strsOf es1.toList) := hp.map _
        refine wpAny_bind (gw _ (wpAny_bind (set_put (s := { s with heap := h1 }) ho1 (by lia) fun h2 hb2 ho2 => wpAny_pure (wpAny_pure ?_))))
        exact h true h2 (hb1.trans hb2) ⟨es2, _, t3, ho2, hel1.perm hp, hfr, by rw [hlr, hl2, hled], .inl hpr, by lia, hp'.nodup_iff.mpr nd1, fun y => (hp'.mem_iff).trans (hm1 y)⟩
      · exact wpAny_pure (wpAny_pure (h true h1 hb1 ⟨es1, _, t2, ho1, hel1, hf2, by rw [hl2, hled], .inl hp2, by lia, nd1, hm1⟩))
end
end L2
end
section
namespace L2
open PySem PySem.Spec PyProof.Rows
section
variable {prog : Program} {w : World} {A : Around} {R : Result -> Shared -> Prop} {I : Addr} {fp wr : List Addr} {G : Array GenState -> Array GenState -> Prop} {n : Nat} {P : Nat -> Value -> Prop} {St : Nat -> Shared -> Prop}
theorem set_fill (W : WalksS prog w A.in1 I fp wr G n P St) (S : Addr) (hS : S ∉ fp) (zs : List Str) (hn : n = zs.length) (hval : ∀ i v, P i v -> ∃ (x : Str) (t : Tok), zs[i]? = some x /\ v = .str x t) (hb : zs.length < 3900) :
    ∀ (k i : Nat) (s : Shared), n - i = k -> i <= n -> St i s -> SetS prog w s.heap S (zs.take i) -> (∀ s', Moved (S :: wr) G s s' -> SetS prog w s'.heap S zs -> R (.ok (.ret .none)) s') ->
      codeAny (model prog w) A (.builtin "set.update.loop" ⟨[.ref S, .ref I], []⟩) R s := by
  have hw : S ∉ wr := fun h => hS (W.sub _ h)
  have sub : ∀ b ∈ wr, b ∈ S :: wr := fun b h => List.mem_cons_of_mem _ h
  intro k
  induction k with
  | zero =>
    intro i s hk hi st hs q
    obtain rfl : i = n := by lia
    refine codeAny_builtin F.entry_set_update_loop ?_
    rw [Around.under_plainId F.plain_set_update_loop _]
    show wpAny _ A.in1 (pyNext (.ref I) >>= _) _ _ s
    refine wpAny_bind (W.done s _ _ st fun s' m => ?_)
    refine wpAny_pure (q s' (m.mono sub) ?_)
    rw [List.take_of_length_le (by lia)] at hs
    exact hs.at fun o e => m.heap S o hw e
  | succ k ih =>
    intro i s hk hi st hs q
    have lt : i < n := by lia
    refine codeAny_builtin F.entry_set_update_loop ?_
    rw [Around.under_plainId F.plain_set_update_loop _]
    show wpAny _ A.in1 (pyNext (.ref I) >>= _) _ _ s
    refine wpAny_bind (W.item i s _ _ lt st fun v s1 hP st1 m => ?_)
    obtain ⟨x, t, hx, rfl⟩ := hval i v hP
    have hs1 := hs.at (h' := s1.heap) fun o e => m.heap S o hw e
    show wpAny _ A.in1 (holding [Value.str x t] (setAdd S (.str x t)) >>= _) _ _ s1
    unfold setAdd
    refine wpAny_bind (wpAny_holding (wpAny_holding (wpAny_bind ((strKind prog w).pyHash (k := x) (strKind_is _ _ _ _) ?_))))
    refine set_add (s := { s1 with toks := s1.toks + 1 }) (zs := zs.take i) hs1 (by rw [List.length_take]; lia) fun b h' hb' hs2 => ?_
    have e2 : zs.take i ++ [x] = zs.take (i + 1) := by rw [List.take_add_one, hx]; rfl
    rw [e2] at hs2
    refine wpAny_pure ⟨plainId_quiet F.plain_set_update_loop _, ih (i + 1) _ (by lia) lt (W.frame _ s1 _ _ st1 (Nat.le_succ _) fun c hc o e => ?_) hs2 fun s2 m2 q2 => ?_⟩
    · rw [hb'.2 c fun z : c = S => hS (z ▸ hc)]; exact e
    · exact q s2 (Moved.trans W.gtrans ((m.mono sub).then_heap (Nat.le_succ _) fun c o hc e => by rw [hb'.2 c fun z : c = S => hc (z ▸ List.mem_cons_self)]; exact e) m2) q2
end
theorem strsAre_at : ∀ {vs : List Value} {ss : List Str} {i : Nat} {v : Value}, StrsAre vs ss -> vs[i]? = some v -> ∃ (x : Str) (t : Tok), ss[i]? = some x /\ v = .str x t
  | _, _, i, v, .nil, e => by simp at e
  | _, _, 0, v, .cons x t _, e => by simp at e; exact ⟨x, t, rfl, e.symm⟩
  | _, _, i + 1, v, .cons x t r, e => by
    obtain ⟨y, u, h1, h2⟩ := strsAre_at (i := i) r (by simpa using e)
    exact ⟨y, u, by simpa using h1, h2⟩
section
variable {prog : Program} {w : World} {A : Around} {E : Value -> Shared -> Prop} {s : Shared}
noncomputable def emptySet (w : World) : Obj := { cls := .type "set", dict := none, data := .set #[] 0 (.fresh 0 0 (!w.params.followText "set-order")) }
theorem emptySet_is {h : Heap} {a : Addr} (e : h.get? a = some (emptySet w)) : SetS prog w h a [] := by
  refine ⟨#[], 0, _, e, fun x hx => ?_, by rfl, rfl, .inr rfl, by decide, List.nodup_nil, fun x => Iff.rfl⟩
  simp at hx
theorem set_new_code (a : Value) {Q₁ : Value -> Shared -> Prop} (h : Q₁ (.ref s.heap.objs.size) { s with heap := s.heap.push (emptySet w) }) :
    codeAny (model prog w) A (.call (.builtin "set.__new__") ⟨[.type "set", a], []⟩) (wants Q₁ E) s := by
  refine codeAny_of_tree ?_
  show wpAny _ A.in1 (checkBuiltinCall "set.__new__" ⟨[.type "set", a], []⟩ >>= fun _ => again (.builtin "set.__new__" ⟨[.type "set", a], []⟩)) _ _ s
  refine wpAny_bind (wpAny_of_eq (F.newCall_set_1 a) (wpAny_pure ⟨plainId_quiet F.plain_set_new _, codeAny_builtin F.entry_set_new ?_⟩))
  rw [Around.under_plainId F.plain_set_new _]
  unfold Builtin.«set.__new__» Builtin.Frozenset.newClass
  have hsub := sub_set_self
  obtain ⟨hp, g, d, tk, os⟩ := s
  dsimp only at h ⊢
  wp_walk
  refine wpAny_askSetting (wpAny_pure ?_)
  dsimp only
  simp only [newObj]
  exact wpAny_bind (wpAny_alloc (wpAny_pure (wpAny_pure h)))
theorem call_set_str {l : Addr} {its : Array Value} {zs : List Str} {Q : Value -> Shared -> Prop} (hh : A.handled = none) (hl : s.heap.IsList l its) (hi : StrsAre its.toList zs) (hb : zs.length < 3900)
    (h : ∀ (h' : Heap) (tk : Nat), SetS prog w h' s.heap.objs.size zs -> (∀ b o, s.heap.get? b = some o -> h'.get? b = some o) -> Q (.ref s.heap.objs.size) { s with heap := h', toks := tk }) :
    wpAny (model prog w) A (call (.type "set") [.ref l]) Q E s := by
  obtain ⟨c, tl, hmro⟩ := F.called_set.mro
  have made := F.called_set.made
  have sub := F.called_set.sub
  refine wpAny_call (codeAny_of_tree ?_)
  show wpAny _ _ (callAny (.type "set") _) _ _ _
  refine wpAny_pure ⟨Code.quiet_builtin _ (by decide +kernel), codeAny_builtin F.entry_type_call ?_⟩
  rw [Around.under_plain (weight_type_call_type "set" [.ref l] []) rfl]
  have g1 := F.called_set.notType
  have g2 := F.called_set.canCreate
  have g3 := F.typeCall_set_1 (.ref l)
  repeat (any_goals (first | assumption | wp_step))
  refine codeAny_mono (set_new_code (.ref l) (E := E) (Q₁ := fun u s1 => u = .ref s.heap.objs.size /\ s1 = { s with heap := s.heap.push (emptySet w) }) ⟨rfl, rfl⟩) fun r s1 hr => ?_
  cases r with
  | error e => exact hr
  | ok fl =>
    cases fl with
    | ret obj =>
      obtain ⟨rfl, rfl⟩ := hr
      have hS : (s.heap.push (emptySet w)).get? s.heap.objs.size = some (emptySet w) := Heap.get?_push_size _ rfl
      have hT : Shared.TypeIs { s with heap := s.heap.push (emptySet w) } (.ref s.heap.objs.size) "set" := ⟨_, hS, rfl⟩
      have hT' : ∀ {k : Nat}, Shared.TypeIs { s with heap := s.heap.push (emptySet w), toks := k } (.ref s.heap.objs.size) "set" := ⟨_, hS, rfl⟩
      have li := F.called_set.init.lookup
      have bi := F.called_set.init.bind (.ref s.heap.objs.size)
      repeat (any_goals (first | assumption | wp_step))
      refine codeAny_mono (codeAny_call_builtin (R := wants (fun r s2 => r = .none /\ ∃ h' tk, s2 = { s with heap := h', toks := tk } /\ SetS prog w h' s.heap.objs.size zs /\ (∀ b o, s.heap.get? b = some o -> h'.get? b = some o)) E) F.called_set.init.plain F.entry_set_init (check_set_init_1 hT ?_)) fun r2 s2 hr2 => ?_
      · obtain ⟨ol, hol, hcl, nl, hdl⟩ := hl
        obtain ⟨oc, od, oda, os⟩ := ol
        simp only at hcl hdl
        subst hcl; subst hdl
        have hol' : (s.heap.push (emptySet w)).get? l = some { cls := .type "list", dict := od, data := .seq its nl, slots := os } := Heap.get?_push_of_some _ hol
        have e1 := F.sub_list_set
        have e2 := F.sub_list_frozenset
        have e3 : (Value.type "list" == Value.type "dict") = false := by decide
        have hl1 : (s.heap.push (emptySet w)).IsList l its := ⟨_, hol', rfl, nl, rfl⟩
        unfold Builtin.«set.__init__» noKeywords Builtin.Frozenset.updateFrom
        generalize hPI : pyIter = PI
        wp_walk
        subst hPI
        refine wpAny_pyIter_list hl1 (wpAny_bind (wpAny_runValue ?_))
        have lS : l < s.heap.objs.size := Heap.lt_size hol
        have hh3 : A.in1.in1.in1.handled = none := by simp [hh]
        have nI : l ≠ (s.heap.push (emptySet w)).objs.size := by rw [Heap.size_push]; exact Nat.ne_of_lt (Nat.lt_succ_of_lt lS)
        have nS : s.heap.objs.size ∉ [(s.heap.push (emptySet w)).objs.size, l] := by
          rw [Heap.size_push]
          simp only [List.mem_cons, List.not_mem_nil, or_false, not_or]
          exact ⟨Nat.ne_of_lt (Nat.lt_succ_self _), Nat.ne_of_gt lS⟩
        have len : its.size = zs.length := by rw [<- Array.length_toList]; exact hi.length
        have val : ∀ (i : Nat) (v : Value), its[i]? = some v -> ∃ (x : Str) (t : Tok), zs[i]? = some x /\ v = .str x t := fun i v e => strsAre_at hi (by rw [Array.getElem?_toList]; exact e)
        refine set_fill ((Walks.list hh3 _ l nI its).toS) s.heap.objs.size nS zs len val hb (its.size - 0) 0 _ (by lia) (Nat.zero_le _) ⟨⟨_, Heap.get?_push_size _ rfl, rfl, rfl⟩, (hl1.push _)⟩ ?start ?fin
        case start =>
          rw [List.take_zero]
          exact emptySet_is (Heap.get?_push_of_some _ hS)
        case fin =>
          intro s' m hs'
          obtain ⟨h', g', d', tk', os'⟩ := s'
          have eg : g' = s.gens := m.gens
          have ed : d' = s.drawn := m.drawn
          have eo : os' = s.os := m.os
          subst eg; subst ed; subst eo
          refine wpAny_pure ?_
          show wpAny _ _ (ret Value.none) _ _ _
          refine wpAny_pure ⟨rfl, h', tk', rfl, hs', fun b o e => ?_⟩
          have lb := Heap.lt_size e
          refine m.heap b o ?_ (Heap.get?_push_of_some _ (Heap.get?_push_of_some _ e))
          simp only [List.mem_cons, List.not_mem_nil, or_false, not_or]
          exact ⟨Nat.ne_of_lt lb, by rw [Heap.size_push]; exact Nat.ne_of_lt (Nat.lt_succ_of_lt lb)⟩
      · cases r2 with
        | error e => exact hr2
        | ok f2 =>
          cases f2 with
          | ret r =>
            obtain ⟨rfl, h', tk, rfl, hs', k⟩ := hr2
            repeat (any_goals (first | assumption | wp_step))
            exact h _ _ hs' k
          | _ => exact hr2.elim
    | _ => exact hr.elim
end
end L2
end
section
namespace L2
open PySem PySem.Spec PyProof.Rows
theorem slot_sit : Slot "set_iterator" "__next__" "set_iterator.__next__" := .of (owner := "set_iterator") (n := "__next__") (by rw [typeLookup_type, builtinLookup_eq_fast]; kernel_rfl) (by decide +kernel) (by decide +kernel) (by decide +kernel) (by first | exact .inl (by decide +kernel) | exact .inr (by decide +kernel)) (by rw [isSubtype_type]; kernel_rfl)
theorem slot_siti : Slot "set_iterator" "__iter__" "set_iterator.__iter__" := .of (owner := "set_iterator") (n := "__iter__") (by rw [typeLookup_type, builtinLookup_eq_fast]; kernel_rfl) (by decide +kernel) (by decide +kernel) (by decide +kernel) (by first | exact .inl (by decide +kernel) | exact .inr (by decide +kernel)) (by rw [isSubtype_type]; kernel_rfl)
theorem entry_sit : entryFor table "set_iterator.__next__" = some Builtin.«set_iterator.__next__» := entryFor_of_tree (by kernel_rfl)
theorem owner_sit : Manifest.owners.lookup (String.ofList ['r', 'o', 't', 'a', 'r', 'e', 't', 'i', '_', 't', 'e', 's'].reverse) = some Manifest.sig_set_iterator := by kernel_rfl
theorem args_sit (a : Value) : argsOk "set_iterator.__next__" ⟨[a], []⟩ := by
  unfold argsOk; rw [signature?_of (id := "set_iterator.__next__") (n := ['_', '_', 't', 'x', 'e', 'n', '_', '_']) (o := ['r', 'o', 't', 'a', 'r', 'e', 't', 'i', '_', 't', 'e', 's']) (by kernel_rfl) owner_sit]; kernel_rfl
theorem entry_setiter : entryFor table "set.__iter__" = some Builtin.«frozenset.__iter__» := entryFor_alias (id' := "frozenset.__iter__") (by kernel_rfl) rfl (by decide +kernel) (by kernel_rfl)
theorem erase_perm {α : Type} : ∀ (l : List α) (i : Nat) (h : i < l.length), (l[i] :: l.eraseIdx i).Perm l
  | x :: l, 0, _ => .refl _
  | x :: l, i + 1, h => by
    have hi : i < l.length := by simpa using h
    have := erase_perm l i hi
    show (l[i] :: x :: l.eraseIdx i).Perm (x :: l)
    exact (List.Perm.swap x l[i] _).trans (List.Perm.cons x this)
section
variable {M : Model} {prog : Program} {w : World} {A : Around} {E : Value -> Shared -> Prop} {s : Shared}
theorem wp_choose' {src : Source} {n : Nat} {Q : Nat -> Shared -> Prop} (h0 : n ≠ 0) (h : ∀ i d, i < n -> Q i { s with drawn := d }) : wpAny M A (choose src n) Q E s := fun Γ p hΓ => by
  show Sem.wp M Γ (.choose src n .pure) _ _ p s
  rw [Sem.wp_choose]
  exact ⟨h0, h _ _ (Nat.mod_lt _ (by lia))⟩
theorem draw_order {α : Type} : ∀ (n : Nat) (xs : List α) (s : Shared) (Q : List α -> Shared -> Prop), xs.length = n -> (∀ ys d, ys.Perm xs -> Q ys { s with drawn := d }) -> wpAny M A (drawOrder n xs) Q E s
  | 0, xs, s, Q, hl, q => by
    have : xs = [] := List.length_eq_zero_iff.mp hl
    subst this
    exact wpAny_pure (q [] s.drawn (.refl _))
  | n + 1, [], s, Q, hl, q => by simp at hl
  | n + 1, x :: xs, s, Q, hl, q => by
    unfold drawOrder
    refine wpAny_bind (wp_choose' (by simp) fun i d hi => ?_)
    rw [List.getElem?_eq_getElem hi]
    dsimp only
    refine wpAny_bind (draw_order n _ _ _ (by rw [List.length_eraseIdx, if_pos hi]; simp at hl ⊢; lia) fun ys d' p => wpAny_pure (q _ d' ?_))
    exact (List.Perm.cons _ p).trans (erase_perm _ _ hi)
theorem pick_go {α : Type} (next : Nat -> Nat) : ∀ (fuel k : Nat) (left : List α) (out : Array α), left.length = fuel -> (pickOrder.go next fuel k left out).toList.Perm (out.toList ++ left)
  | 0, k, left, out, hl => by
    have : left = [] := List.length_eq_zero_iff.mp hl
    subst this
    unfold pickOrder.go
    simp
  | fuel + 1, k, left, out, hl => by
    have hi : next k % left.length < left.length := Nat.mod_lt _ (by lia)
    unfold pickOrder.go
    rw [List.getElem?_eq_getElem hi]
    dsimp only
    refine (pick_go next fuel (k + 1) _ _ (by rw [List.length_eraseIdx, if_pos hi]; lia)).trans ?_
    rw [Array.toList_push, List.append_assoc]
    exact List.Perm.append_left _ (erase_perm _ _ hi)
theorem pick_perm {α : Type} (next : Nat -> Nat) (xs : Array α) : (pickOrder next xs).toList.Perm xs.toList := by
  have := pick_go next xs.size 0 xs.toList #[] (by simp)
  simpa [pickOrder] using this
noncomputable def sIt (first : Value) (i : Nat) (a : Addr) (n ep : Nat) : Obj := { cls := .type "set_iterator", data := .fields #[first, .int i 0, .ref a, .int n 0, .int ep 0] }
theorem stop_end {α : Type} {Q' : α -> Shared -> Prop} {E' : Value -> Shared -> Prop} (hh : A.handled = none) (h : ∀ e h', Shared.TypeIs { s with heap := h' } e "StopIteration" -> (∀ b o, s.heap.get? b = some o -> h'.get? b = some o) -> E' e { s with heap := h' }) :
    wpAny (model prog w) A.in1 (newExc (.type "StopIteration") [] >>= fun e => (raiseNew e : Sem α)) Q' E' s := by
  refine wpAny_bind ?_
  simp only [newExc, newTuple]
  refine wpAny_bind (wpAny_newObj_type ?_ (by size_fits))
  refine wpAny_bind (m := firstArgMember _ _) (wpAny_of_eq (a := Value.none) (by first | rfl | (simp only [firstArgMember]; rfl)) (wpAny_newObj_type ?_ (by size_fits)))
  simp only [raiseNew]
  refine wpAny_bind (wpAny_handled ?_)
  rw [show A.in1.handled = none from hh]
  refine wpAny_bind (wpAny_pure (wpAny_throw (h (.ref _) _ ⟨_, Heap.get?_push_size _ rfl, rfl⟩ fun b o e => Heap.get?_push_of_some _ (Heap.get?_push_of_some _ e))))
noncomputable def SAt (h : Heap) (a : Addr) (es : Array (Int × Value)) (ep : Nat) (t : SetTable) : Prop := h.get? a = some { cls := .type "set", dict := none, data := .set es ep t, slots := #[] } /\ t.fits es.size = true
theorem set_entries {a : Addr} {es : Array (Int × Value)} {ep : Nat} {t : SetTable} {Q : Array (Int × Value) -> Shared -> Prop} (S : SAt s.heap a es ep t) (h : Q es s) : wpAny (model prog w) A (setEntries a) Q E s := by
  unfold setEntries
  exact wpAny_bind (wpAny_setState_of S.1 rfl S.2 (wpAny_pure h))
theorem fields_put {I : Addr} {vs : Array Value} {k : Nat} {v : Value} {Q : Unit -> Shared -> Prop} (ho : s.heap.get? I = some { cls := .type "set_iterator", data := .fields vs }) (hk : k < vs.size)
    (h : ∀ h', (∀ b o, b ≠ I -> s.heap.get? b = some o -> h'.get? b = some o) -> h'.get? I = some { cls := .type "set_iterator", data := .fields (vs.setIfInBounds k v) } -> Q () { s with heap := h' }) : wpAny (model prog w) A (setField (.ref I) k v) Q E s := by
  refine wpAny_setField ho rfl hk (h _ (fun b o hb e => ?_) ?_)
  · exact (Heap.get?_update_other _ _ (Ne.symm hb)).trans e
  · have := Heap.get?_update_self (Obj.mapFields (·.setIfInBounds k v)) ho (Obj.isFreed_of_fields (Obj.data_mapFields rfl _))
    rw [this]; rfl
theorem next_int {I a : Addr} {slot i n ep : Nat} {es : Array (Int × Value)} {t : SetTable} {r : Option (Value × Nat)} {Q : Option Value -> Shared -> Prop} (hh : A.handled = none) (hI : s.heap.get? I = some (sIt (.int slot 0) i a n ep)) (S : SAt s.heap a es ep t) (hn : es.size = n)
    (hr : ∀ (A' : Around) (E' : Value -> Shared -> Prop) (Q' : Option (Value × Nat) -> Shared -> Prop), Q' r s -> wpAny (model prog w) A' (setNext a slot i ep) Q' E' s)
    (h : match r with
      | some (x, nx) => ∀ h', (∀ b o, b ≠ I -> s.heap.get? b = some o -> h'.get? b = some o) -> h'.get? I = some (sIt (.int nx 0) (i + 1) a n ep) -> Q (some x) { s with heap := h' }
      | none => ∀ h', (∀ b o, b ≠ I -> s.heap.get? b = some o -> h'.get? b = some o) -> Q none { s with heap := h' }) : wpAny (model prog w) A (pyNext (.ref I)) Q E s := by
  have hT : s.TypeIs (.ref I) "set_iterator" := ⟨_, hI, rfl⟩
  unfold pyNext
  refine wpAny_bind (wpAny_attempt (wpAny_callSpecial?_slot (name := Str.ofString "__next__") hT slot_sit (wpAny_call_entry slot_sit hT entry_sit ?_ (args_sit _))))
  unfold Builtin.«set_iterator.__next__»
  refine wpAny_bind (wpAny_pure ?_)
  refine wpAny_bind (wpAny_fieldsOf hI rfl ?_)
  refine wpAny_bind (set_entries S ?_)
  rw [if_neg (by rw [hn]; simp)]
  refine wpAny_bind (hr _ _ _ ?_)
  have et : ((slot : Int)).toNat = slot := Int.toNat_natCast _
  cases r with
  | some p =>
    obtain ⟨x, nx⟩ := p
    dsimp only at h ⊢
    refine wpAny_bind (fields_put hI (by simp) fun h1 k1 i1 => wpAny_bind (fields_put (s := { s with heap := h1 }) i1 (by simp) fun h2 k2 i2 => ?_))
    exact wpAny_pure ⟨_, rfl, wpAny_pure (h h2 (fun b o hb e => k2 b o hb (k1 b o hb e)) (by rw [i2]; simp [sIt, rawInt]))⟩
  | none =>
    dsimp only at h ⊢
    refine wpAny_bind (fields_put hI (by simp) fun h1 k1 i1 => ?_)
    refine stop_end (s := { s with heap := h1 }) hh fun e h2 hT2 k2 => ?_
    refine wpAny_bind (wpAny_isInstance (T := "StopIteration") (b := true) hT2 isSubtype_stop ?_)
    exact wpAny_pure (h h2 fun b o hb e => k2 b o (k1 b o hb e))
end
end L2
end
section
namespace L2
open PySem PySem.Spec PyProof.Rows PySem.W
section
variable {prog : Program} {w : World} {A : Around} {E : Value -> Shared -> Prop} {s : Shared}
theorem next_ref {I a tp : Addr} {i n ep : Nat} {es : Array (Int × Value)} {t : SetTable} {vs : Array Value} {m : Nat} {Q : Option Value -> Shared -> Prop} (hh : A.handled = none) (hI : s.heap.get? I = some (sIt (.ref tp) i a n ep)) (S : SAt s.heap a es ep t) (hn : es.size = n)
    (hP : s.heap.get? tp = some { cls := .type "tuple", data := .seq vs m })
    (h : (∃ (j : Nat) (u : Tok) (e : Int × Value), vs[i]? = some (.int j u) /\ es[j]? = some e /\ ∀ h', (∀ b o, b ≠ I -> s.heap.get? b = some o -> h'.get? b = some o) -> h'.get? I = some (sIt (.ref tp) (i + 1) a n ep) -> Q (some e.2) { s with heap := h' }) \/
      (vs[i]? = none /\ ∀ h', (∀ b o, b ≠ I -> s.heap.get? b = some o -> h'.get? b = some o) -> Q none { s with heap := h' })) : wpAny (model prog w) A (pyNext (.ref I)) Q E s := by
  have hT : s.TypeIs (.ref I) "set_iterator" := ⟨_, hI, rfl⟩
  unfold pyNext
  refine wpAny_bind (wpAny_attempt (wpAny_callSpecial?_slot (name := Str.ofString "__next__") hT slot_sit (wpAny_call_entry slot_sit hT entry_sit ?_ (args_sit _))))
  unfold Builtin.«set_iterator.__next__»
  refine wpAny_bind (wpAny_pure ?_)
  refine wpAny_bind (wpAny_fieldsOf hI rfl ?_)
  refine wpAny_bind (set_entries S ?_)
  rw [if_neg (by rw [hn]; simp)]
  dsimp only
  refine wpAny_bind (wpAny_seqItems hP rfl ?_)
  dsimp only
  rw [Int.toNat_natCast]
  rcases h with ⟨j, u, e, h1, h2, h3⟩ | ⟨h1, h2⟩
  · rw [h1]
    dsimp only
    rw [Int.toNat_natCast, Int.toNat_natCast]
    have sn : ∀ {R : Value -> Shared -> Prop} {E' : Value -> Shared -> Prop} {A' : Around}, R e.2 s -> wpAny (model prog w) A' (setNextDrawn a j ep) R E' s := fun {R E' A'} q => by
      unfold setNextDrawn
      refine wpAny_bind (wpAny_setState_of S.1 rfl S.2 ?_)
      dsimp only
      rw [if_neg (by simp), h2]
      exact wpAny_bind (wpAny_pure (wpAny_pure q))
    refine wpAny_bind (sn (wpAny_bind (fields_put hI (by simp) fun h' k1 i1 => ?_)))
    exact wpAny_pure ⟨_, rfl, wpAny_pure (h3 h' k1 (by rw [i1]; simp [sIt, rawInt]))⟩
  · rw [h1]
    dsimp only
    refine wpAny_bind (fields_put hI (by simp) fun h3 k3 i3 => wpAny_bind (fields_put (s := { s with heap := h3 }) i3 (by simp) fun h4 k4 i4 => ?_))
    refine stop_end (s := { s with heap := h4 }) hh fun e h5 hT2 k5 => ?_
    refine wpAny_bind (wpAny_isInstance (T := "StopIteration") (b := true) hT2 isSubtype_stop ?_)
    exact wpAny_pure (h2 h5 fun b o hb e => k5 b o (k4 b o hb (k3 b o hb e)))
theorem by_text {Q : Bool -> Shared -> Prop} (h : Q (w.params.followText "set-order") s) : wpAny (model prog w) A setsByText Q E s := by
  unfold setsByText
  exact wpAny_bind (wpAny_askSetting (wpAny_pure h))
theorem siti_self {I : Addr} {o : Obj} {Q : Value -> Shared -> Prop} (hI : s.heap.get? I = some o) (hc : o.cls = .type "set_iterator") (h : Q (.ref I) s) : wpAny (model prog w) A (pyIter (.ref I)) Q E s := by
  have hT : s.TypeIs (.ref I) "set_iterator" := ⟨_, hI, hc⟩
  have ent : entryFor table "set_iterator.__iter__" = some Builtin.«dict_keyiterator.__iter__» := entryFor_alias (id' := "dict_keyiterator.__iter__") (by kernel_rfl) rfl (by decide +kernel) (by kernel_rfl)
  have arg : argsOk "set_iterator.__iter__" ⟨[.ref I], []⟩ := by
    unfold argsOk; rw [signature?_of (id := "set_iterator.__iter__") (n := ['_', '_', 'r', 'e', 't', 'i', '_', '_']) (o := ['r', 'o', 't', 'a', 'r', 'e', 't', 'i', '_', 't', 'e', 's']) (by kernel_rfl) owner_sit]; kernel_rfl
  refine wpAny_pyIter_slot hT slot_siti (wpAny_call_entry slot_siti hT ent ?_ arg)
  unfold Builtin.«dict_keyiterator.__iter__»
  refine wpAny_bind (wpAny_pure ?_)
  exact wpAny_pure ⟨_, rfl, "set_iterator", _, hT, slot_sit.lookup, h⟩
theorem walk_text {I a : Addr} (hne : a ≠ I) {es : Array (Int × Value)} {ep : Nat} {t : SetTable} (bt : w.params.followText "set-order" = true) (hh : A.handled = none) :
    WalksS prog w A I [I, a] [I] (fun x y => y = x) es.size (fun i v => ((pickOrder (w.params.setOrder a ep) es).toList.map (·.2))[i]? = some v) (fun i s => s.heap.get? I = some (sIt (.int 0 0) i a es.size ep) /\ SAt s.heap a es ep t) where
  sub := fun b hb => by simp at hb; simp [hb]
  grefl := fun _ => rfl
  gtrans := fun _ _ _ h1 h2 => h2.trans h1
  frame := fun i s h' tk st _ k => ⟨k I (by simp) _ st.1, k a (by simp) _ st.2.1, st.2.2⟩
  item := fun i s Q E hi st q => by
    have hs : (pickOrder (w.params.setOrder a ep) es).toList.length = es.size := by rw [(pick_perm _ es).length_eq, Array.length_toList]
    have hi' : i < (pickOrder (w.params.setOrder a ep) es).toList.length := by lia
    have hx : (pickOrder (w.params.setOrder a ep) es)[i]? = some ((pickOrder (w.params.setOrder a ep) es).toList[i]) := by rw [<- Array.getElem?_toList]; exact List.getElem?_eq_getElem hi'
    refine next_int (slot := 0) (r := some (((pickOrder (w.params.setOrder a ep) es).toList[i]).2, 0)) hh st.1 st.2 rfl (fun A' E' Q' q' => ?_) fun h' k hI => ?_
    · unfold setNext
      refine wpAny_bind (wpAny_setState_of st.2.1 rfl st.2.2 (wpAny_bind (by_text ?_)))
      rw [bt, if_pos rfl, if_neg (by simp)]
      unfold setWalk
      refine wpAny_bind (wpAny_bind (wpAny_setState_of st.2.1 rfl st.2.2 (wpAny_bind (by_text ?_))))
      rw [bt, if_pos rfl]
      refine wpAny_bind (wpAny_askSetting (wpAny_pure (wpAny_pure ?_)))
      show Q' (((pickOrder (w.params.setOrder a ep) es)[i]?).map fun e => (e.2, 0)) s
      rw [hx]; exact q'
    · refine q _ _ ?_ ⟨hI, k a _ hne st.2.1, st.2.2⟩ ⟨fun b o hb e => k b o (fun z => hb (by simp [z])) e, rfl, rfl, rfl, Nat.le_refl _⟩
      rw [List.getElem?_map, List.getElem?_eq_getElem hi']; rfl
  done := fun s Q E st q => by
    have hs : (pickOrder (w.params.setOrder a ep) es).toList.length = es.size := by rw [(pick_perm _ es).length_eq, Array.length_toList]
    have hx : (pickOrder (w.params.setOrder a ep) es)[es.size]? = none := by rw [<- Array.getElem?_toList]; exact List.getElem?_eq_none (by lia)
    refine next_int (slot := 0) (r := none) hh st.1 st.2 rfl (fun A' E' Q' q' => ?_) fun h' k => q _ ⟨fun b o hb e => k b o (fun z => hb (by simp [z])) e, rfl, rfl, rfl, Nat.le_refl _⟩
    unfold setNext
    refine wpAny_bind (wpAny_setState_of st.2.1 rfl st.2.2 (wpAny_bind (by_text ?_)))
    rw [bt, if_pos rfl, if_neg (by simp)]
    unfold setWalk
    refine wpAny_bind (wpAny_bind (wpAny_setState_of st.2.1 rfl st.2.2 (wpAny_bind (by_text ?_))))
    rw [bt, if_pos rfl]
    refine wpAny_bind (wpAny_askSetting (wpAny_pure (wpAny_pure ?_)))
    show Q' (((pickOrder (w.params.setOrder a ep) es)[es.size]?).map fun e => (e.2, 0)) s
    rw [hx]; exact q'
  self := fun i s Q E st q => siti_self st.1 rfl q
theorem walk_one {I a : Addr} (hne : a ≠ I) {es : Array (Int × Value)} {ep : Nat} {t : SetTable} (bt : w.params.followText "set-order" = false) (led : t.led = true) (h1 : es.size <= 1) (hh : A.handled = none) :
    WalksS prog w A I [I, a] [I] (fun x y => y = x) es.size (fun i v => (es.toList.map (·.2))[i]? = some v) (fun i s => s.heap.get? I = some (sIt (.int (if i = 0 then 0 else t.place.getD 0 0 + 1 : Nat) 0) i a es.size ep) /\ SAt s.heap a es ep t) where
  sub := fun b hb => by simp at hb; simp [hb]
  grefl := fun _ => rfl
  gtrans := fun _ _ _ h1 h2 => h2.trans h1
  frame := fun i s h' tk st _ k => ⟨k I (by simp) _ st.1, k a (by simp) _ st.2.1, st.2.2⟩
  item := fun i s Q E hi st q => by
    obtain rfl : i = 0 := by lia
    have hz : es.size = 1 := by lia
    have hp : t.place.size = 1 := by
      have := st.2.2
      simp only [SetTable.fits, Bool.and_eq_true, beq_iff_eq] at this
      lia
    have hdr : (!t.plain && decide (es.size > 1)) = false := by rw [hz]; simp
    refine next_int (slot := 0) (r := some ((es[0]'(by lia)).2, t.place.getD 0 0 + 1)) hh (by simpa using st.1) st.2 rfl (fun A' E' Q' q' => ?_) fun h' k hI => ?_
    · unfold setNext
      refine wpAny_bind (wpAny_setState_of st.2.1 rfl st.2.2 (wpAny_bind (by_text ?_)))
      rw [bt, if_neg Bool.false_ne_true]
      dsimp only
      refine wpAny_ite_split (fun z => absurd (hdr.symm.trans (show (!t.plain && decide (es.size > 1)) = true from z)) Bool.false_ne_true) (fun _ => ?_)
      refine wpAny_bind ?_
      show wpAny _ _ (if (!t.led && !es.isEmpty) = true then _ else pure PUnit.unit) _ _ s
      rw [led, if_neg (by simp)]
      refine wpAny_pure (wpAny_pure ?_)
      have eb : SetTable.below t.place 0 = 0 := by
        unfold SetTable.below
        rw [hp]
        simp [SetTable.below.go]
      rw [eb, Array.getElem?_eq_getElem (show 0 < es.size by lia), Array.getElem?_eq_getElem (show 0 < t.place.size by lia)]
      have eg : t.place.getD 0 0 = t.place[0]'(by lia) := by rw [Array.getD_eq_getD_getElem?, Array.getElem?_eq_getElem (show 0 < t.place.size by lia)]; rfl
      rw [eg] at q'
      exact q'
    · refine q _ _ ?_ ⟨by rw [if_neg (by lia)]; exact hI, k a _ hne st.2.1, st.2.2⟩ ⟨fun b o hb e => k b o (fun z => hb (by simp [z])) e, rfl, rfl, rfl, Nat.le_refl _⟩
      rw [List.getElem?_map, Array.getElem?_toList, Array.getElem?_eq_getElem (show 0 < es.size by lia)]; rfl
  done := fun s Q E st q => by
    have hp : t.place.size = es.size := by
      have := st.2.2
      simp only [SetTable.fits, Bool.and_eq_true, beq_iff_eq] at this
      lia
    have hdr : (!t.plain && decide (es.size > 1)) = false := by simp; lia
    refine next_int (r := none) hh st.1 st.2 rfl (fun A' E' Q' q' => ?_) fun h' k => q _ ⟨fun b o hb e => k b o (fun z => hb (by simp [z])) e, rfl, rfl, rfl, Nat.le_refl _⟩
    unfold setNext
    refine wpAny_bind (wpAny_setState_of st.2.1 rfl st.2.2 (wpAny_bind (by_text ?_)))
    rw [bt, if_neg Bool.false_ne_true]
    dsimp only
    refine wpAny_ite_split (fun z => absurd (hdr.symm.trans (show (!t.plain && decide (es.size > 1)) = true from z)) Bool.false_ne_true) (fun _ => ?_)
    refine wpAny_bind ?_
    show wpAny _ _ (if (!t.led && !es.isEmpty) = true then _ else pure PUnit.unit) _ _ s
    rw [led, if_neg (by simp)]
    refine wpAny_pure (wpAny_pure ?_)
    have eb : SetTable.below t.place (if es.size = 0 then 0 else t.place.getD 0 0 + 1) = es.size := by
      rcases Nat.lt_or_ge es.size 1 with hz | hz
      · have z0 : es.size = 0 := by lia
        unfold SetTable.below
        rw [hp, z0]
        simp [SetTable.below.go]
      · have z1 : es.size = 1 := by lia
        have eg : ∀ d, t.place.getD 0 d = t.place[0]'(by lia) := fun d => by rw [Array.getD_eq_getD_getElem?, Array.getElem?_eq_getElem (show 0 < t.place.size by lia)]; rfl
        unfold SetTable.below
        rw [hp, z1]
        simp [SetTable.below.go, eg]
    rw [eb, Array.getElem?_eq_none (Nat.le_refl _)]
    exact q'
  self := fun i s Q E st q => siti_self st.1 rfl q
theorem walk_drawn {I a tp : Addr} (hne : a ≠ I) (hnt : tp ≠ I) {es : Array (Int × Value)} {ep m : Nat} {t : SetTable} {ps : List Nat} (hp : ps.Perm (List.range es.size)) (hh : A.handled = none) :
    WalksS prog w A I [I, a, tp] [I] (fun x y => y = x) es.size (fun i v => (ps.map fun j => (es.getD j (0, .none)).2)[i]? = some v)
      (fun i s => s.heap.get? I = some (sIt (.ref tp) i a es.size ep) /\ SAt s.heap a es ep t /\ s.heap.get? tp = some { cls := .type "tuple", data := .seq (ps.map fun i => rawInt (i : Nat)).toArray m }) where
  sub := fun b hb => by simp at hb; simp [hb]
  grefl := fun _ => rfl
  gtrans := fun _ _ _ h1 h2 => h2.trans h1
  frame := fun i s h' tk st _ k => ⟨k I (by simp) _ st.1, ⟨k a (by simp) _ st.2.1.1, st.2.1.2⟩, k tp (by simp) _ st.2.2⟩
  item := fun i s Q E hi st q => by
    have hl : ps.length = es.size := by rw [hp.length_eq, List.length_range]
    have hi' : i < ps.length := by lia
    have hj : ps[i] < es.size := List.mem_range.mp (hp.mem_iff.mp (List.getElem_mem hi'))
    refine next_ref hh st.1 st.2.1 rfl st.2.2 (.inl ⟨ps[i], 0, es[ps[i]], ?_, Array.getElem?_eq_getElem hj, fun h' k hI => ?_⟩)
    · simp [List.getElem?_eq_getElem hi', rawInt]
    · refine q _ _ ?_ ⟨hI, ⟨k a _ hne st.2.1.1, st.2.1.2⟩, k tp _ hnt st.2.2⟩ ⟨fun b o hb e => k b o (fun z => hb (by simp [z])) e, rfl, rfl, rfl, Nat.le_refl _⟩
      rw [List.getElem?_map, List.getElem?_eq_getElem hi']
      simp [Array.getD_eq_getD_getElem?, Array.getElem?_eq_getElem hj]
  done := fun s Q E st q => by
    have hl : ps.length = es.size := by rw [hp.length_eq, List.length_range]
    refine next_ref hh st.1 st.2.1 rfl st.2.2 (.inr ⟨?_, fun h' k => q _ ⟨fun b o hb e => k b o (fun z => hb (by simp [z])) e, rfl, rfl, rfl, Nat.le_refl _⟩⟩)
    simp [hl]
  self := fun i s Q E st q => siti_self st.1 rfl q
end
end L2
end
section
namespace L2
open PySem PySem.Spec PyProof.Rows PySem.W
section
variable {prog : Program} {w : World} {A : Around} {E : Value -> Shared -> Prop} {s : Shared}
theorem iter_set {a : Addr} {zs : List Str} {Q : Value -> Shared -> Prop} (S : SetS prog w s.heap a zs)
    (h : ∀ (I : Addr) (h' : Heap) (d : Drawn) (fp : List Addr) (St : Nat -> Shared -> Prop) (os : List Value), (∀ b o, s.heap.get? b = some o -> h'.get? b = some o) -> (∀ b ∈ fp, s.heap.objs.size <= b \/ b = a) -> s.heap.objs.size <= I ->
      (∃ ys : List Str, StrsAre os ys /\ ys.Nodup /\ ∀ x, x ∈ ys ↔ x ∈ zs) -> (∀ A' : Around, A'.handled = none -> WalksS prog w A' I fp [I] (fun x y => y = x) os.length (fun i v => os[i]? = some v) St) -> (∀ tk, St 0 { s with heap := h', drawn := d, toks := tk }) -> Q (.ref I) { s with heap := h', drawn := d }) :
    wpAny (model prog w) A (pyIter (.ref a)) Q E s := by
  obtain ⟨es, ep, t, ho, hel, hf, hled, hpl, hsz, nd, hm⟩ := S
  have hT : s.TypeIs (.ref a) "set" := ⟨_, ho, rfl⟩
  have S0 : SAt s.heap a es ep t := ⟨ho, hf⟩
  have la : a < s.heap.objs.size := Heap.lt_size ho
  have vals : ∀ os : List Value, os.Perm (es.toList.map (·.2)) -> ∃ ys : List Str, StrsAre os ys /\ ys.Nodup /\ ∀ x, x ∈ ys ↔ x ∈ zs := fun os p => by
    have all : ∀ v ∈ os, ∃ u, v = .str (valS v) u := fun v hv => by
      obtain ⟨e, he, rfl⟩ := List.mem_map.mp (p.mem_iff.mp hv)
      obtain ⟨u, h1, _⟩ := elem_str hel he
      exact ⟨u, h1⟩
    have are : ∀ l : List Value, (∀ v ∈ l, ∃ u, v = .str (valS v) u) -> StrsAre l (l.map valS) := by
      intro l
      induction l with
      | nil => intro _; exact .nil
      | cons v l ih =>
        intro hv
        obtain ⟨u, e⟩ := hv v List.mem_cons_self
        have := ih fun x hx => hv x (List.mem_cons_of_mem _ hx)
        rw [List.map_cons]
        rw [e]
        exact .cons _ u this
    have pp : (os.map valS).Perm (strsOf es.toList) := by
      have := p.map valS
      rw [List.map_map] at this
      exact this
    exact ⟨os.map valS, are os all, pp.nodup_iff.mpr nd, fun x => (pp.mem_iff).trans (hm x)⟩
  refine wpAny_pyIter_slot hT F.slot_set_iter (wpAny_call_entry F.slot_set_iter hT entry_setiter ?_ (F.args_set_iter_1 _))
  unfold Builtin.«frozenset.__iter__» Builtin.Frozenset.slot0
  refine wpAny_bind (wpAny_pure ?_)
  unfold Builtin.Frozenset.sizeOf
  refine wpAny_bind (wpAny_bind (set_entries S0 (wpAny_pure ?_)))
  unfold setDrawn
  refine wpAny_bind (wpAny_bind (wpAny_setState_of S0.1 rfl S0.2 (wpAny_bind (by_text (wpAny_pure ?_)))))
  have size_ne : a ≠ s.heap.objs.size := Nat.ne_of_lt la
  cases bt : w.params.followText "set-order" with
  | true =>
    refine wpAny_ite_split (fun z => absurd z (by simp)) (fun _ => ?_)
    refine wpAny_bind (wpAny_pure ?_)
    refine wpAny_bind (wpAny_setEpoch_of S0.1 rfl S0.2 ?_)
    unfold newFields
    refine wpAny_bind (wpAny_newObj_type (wpAny_pure ⟨_, rfl, "set_iterator", _, ⟨_, Heap.get?_push_size _ rfl, rfl⟩, slot_sit.lookup, ?_⟩) (by size_fits))
    have pp := (pick_perm (w.params.setOrder a ep) es).map (·.2)
    have ol : ((pickOrder (w.params.setOrder a ep) es).toList.map (·.2)).length = es.size := by rw [pp.length_eq]; simp
    refine h s.heap.objs.size _ s.drawn [s.heap.objs.size, a] (fun i s' => s'.heap.get? s.heap.objs.size = some (sIt (.int 0 0) i a es.size ep) /\ SAt s'.heap a es ep t) ((pickOrder (w.params.setOrder a ep) es).toList.map (·.2)) (fun b o e => Heap.get?_push_of_some _ e) (fun b hb => ?_) (Nat.le_refl _) (vals _ pp) (fun A' hA => by rw [ol]; exact walk_text size_ne (t := t) bt hA) (fun tk => ⟨Heap.get?_push_size _ rfl, Heap.get?_push_of_some _ S0.1, S0.2⟩)
    simp at hb
    rcases hb with rfl | rfl
    · exact .inl (Nat.le_refl _)
    · exact .inr rfl
  | false =>
    rw [bt] at hled
    rcases Nat.lt_or_ge 1 es.size with h2 | h1
    · have pl : t.plain = false := by
        rcases hpl with z | z
        · exact z
        · rw [z] at h2; simp at h2
      refine wpAny_ite_split (fun _ => ?_) (fun z => absurd (show (!false && (!t.plain && decide (es.size > 1))) = true by rw [pl]; simp; lia) z)
      refine wpAny_bind (draw_order es.size (List.range es.size) s _ (by simp) fun ps d hp => ?_)
      refine wpAny_bind (wpAny_newTuple ?_ (by rw [List.length_map, hp.length_eq, List.length_range]; exact fits_of_scanBound (by show es.size < 4096; lia)))
      have o1 : ∀ {o : Obj} {b : Addr}, s.heap.get? b = some o -> (s.heap.push { cls := .type "tuple", data := .seq (ps.map fun (i : Nat) => rawInt i).toArray }).get? b = some o := fun e => Heap.get?_push_of_some _ e
      refine wpAny_bind (wpAny_setEpoch_of (o1 S0.1) rfl S0.2 ?_)
      unfold newFields
      refine wpAny_bind (wpAny_newObj_type (wpAny_pure ⟨_, rfl, "set_iterator", _, ⟨_, Heap.get?_push_size _ rfl, rfl⟩, slot_sit.lookup, ?_⟩) (by size_fits))
      have hl : ps.length = es.size := by rw [hp.length_eq, List.length_range]
      have pp : (ps.map fun j => (es.getD j (0, .none)).2).Perm (es.toList.map (·.2)) := by
        refine (hp.map _).trans ?_
        have e : (List.range es.size).map (fun j => (es.getD j (0, .none)).2) = es.toList.map (·.2) := by
          refine List.ext_getElem? fun i => ?_
          rw [List.getElem?_map, List.getElem?_map]
          by_cases hi : i < es.size
          · have a1 : (List.range es.size)[i]? = some i := by simp [hi]
            have a2 : es.toList[i]? = some es[i] := by simp [hi]
            rw [a1, a2]
            simp [Array.getD_eq_getD_getElem?, Array.getElem?_eq_getElem hi]
          · have a1 : (List.range es.size)[i]? = none := by simp; lia
            have a2 : es.toList[i]? = none := by simp; lia
            rw [a1, a2]; rfl
        rw [e]
      have sz1 : (s.heap.push { cls := .type "tuple", data := .seq (ps.map fun (i : Nat) => rawInt i).toArray }).objs.size = s.heap.objs.size + 1 := Heap.size_push _ _
      have n1 : a ≠ (s.heap.push { cls := .type "tuple", data := .seq (ps.map fun (i : Nat) => rawInt i).toArray }).objs.size := by rw [sz1]; exact Nat.ne_of_lt (Nat.lt_succ_of_lt la)
      have n2 : s.heap.objs.size ≠ (s.heap.push { cls := .type "tuple", data := .seq (ps.map fun (i : Nat) => rawInt i).toArray }).objs.size := by rw [sz1]; exact Nat.ne_of_lt (Nat.lt_succ_self _)
      refine h (s.heap.push { cls := .type "tuple", data := .seq (ps.map fun (i : Nat) => rawInt i).toArray }).objs.size _ d [(s.heap.push { cls := .type "tuple", data := .seq (ps.map fun (i : Nat) => rawInt i).toArray }).objs.size, a, s.heap.objs.size]
        (fun i s' => s'.heap.get? (s.heap.push { cls := .type "tuple", data := .seq (ps.map fun (i : Nat) => rawInt i).toArray }).objs.size = some (sIt (.ref s.heap.objs.size) i a es.size ep) /\ SAt s'.heap a es ep t /\ s'.heap.get? s.heap.objs.size = some { cls := .type "tuple", data := .seq (ps.map fun i => rawInt (i : Nat)).toArray 0 })
        (ps.map fun j => (es.getD j (0, .none)).2) (fun b o e => Heap.get?_push_of_some _ (o1 e)) (fun b hb => ?_) (by rw [sz1]; exact Nat.le_succ _) (vals _ pp) (fun A' hA => by rw [List.length_map, hl]; exact walk_drawn (m := 0) n1 n2 (t := t) (ep := ep) hp hA) (fun tk => ⟨Heap.get?_push_size _ rfl, ⟨Heap.get?_push_of_some _ (o1 S0.1), S0.2⟩, Heap.get?_push_of_some _ (Heap.get?_push_size _ rfl)⟩)
      simp only [List.mem_cons, List.not_mem_nil, or_false] at hb
      rcases hb with rfl | rfl | rfl
      · exact .inl (by rw [sz1]; exact Nat.le_succ _)
      · exact .inr rfl
      · exact .inl (Nat.le_refl _)
    · refine wpAny_ite_split (fun z => absurd (show (!false && (!t.plain && decide (es.size > 1))) = true from z) (by simp; lia)) (fun _ => ?_)
      refine wpAny_bind (wpAny_pure ?_)
      refine wpAny_bind (wpAny_setEpoch_of S0.1 rfl S0.2 ?_)
      unfold newFields
      refine wpAny_bind (wpAny_newObj_type (wpAny_pure ⟨_, rfl, "set_iterator", _, ⟨_, Heap.get?_push_size _ rfl, rfl⟩, slot_sit.lookup, ?_⟩) (by size_fits))
      have ol : (es.toList.map (·.2)).length = es.size := by simp
      refine h s.heap.objs.size _ s.drawn [s.heap.objs.size, a] (fun i s' => s'.heap.get? s.heap.objs.size = some (sIt (.int (if i = 0 then 0 else t.place.getD 0 0 + 1 : Nat) 0) i a es.size ep) /\ SAt s'.heap a es ep t) (es.toList.map (·.2)) (fun b o e => Heap.get?_push_of_some _ e) (fun b hb => ?_) (Nat.le_refl _) (vals _ (.refl _)) (fun A' hA => by rw [ol]; exact walk_one size_ne (t := t) bt (by simpa using hled) h1 hA) (fun tk => ⟨Heap.get?_push_size _ rfl, Heap.get?_push_of_some _ S0.1, S0.2⟩)
      simp at hb
      rcases hb with rfl | rfl
      · exact .inl (Nat.le_refl _)
      · exact .inr rfl
theorem hint_set {r : Addr} {Q : Bool -> Shared -> Prop} (hT : s.TypeIs (.ref r) "set") (h : Q false s) : wpAny (model prog w) A (Builtin.List.listLengthHint (.ref r)) Q E s := by
  unfold Builtin.List.listLengthHint
  refine wpAny_bind (wpAny_specialOf hT PySem.F.slot_set_len.lookup ?_)
  generalize hid : ("set.__len__" : String) = id0
  wp_delta
  rw [show splitId id0 = some ("set", "__len__") from by subst hid; decide +kernel]
  subst hid
  refine wpAny_bind (wpAny_isInstance (T := "set") (b := true) hT (by rw [isSubtype_type]; kernel_rfl) ?_)
  refine wpAny_ite_split (fun z => absurd z (by decide)) (fun _ => wpAny_ite_split (fun _ => wpAny_bind (wpAny_typeOf hT (wpAny_pure h))) (fun z => absurd (by decide +kernel) z))
theorem collect_set {a : Addr} {zs : List Str} {R : List Value -> Shared -> Prop} (hh : A.handled = none) (S : SetS prog w s.heap a zs) (hz : zs.length < 3900)
    (h : ∀ (h' : Heap) (tk : Nat) (d : Drawn) (os : List Value) (ys : List Str), (∀ b o, s.heap.get? b = some o -> h'.get? b = some o) -> StrsAre os ys -> ys.Nodup -> (∀ x, x ∈ ys ↔ x ∈ zs) -> R os { s with heap := h', toks := tk, drawn := d }) :
    wpAny (model prog w) A (collect (.ref a)) R E s := by
  have la : a < s.heap.objs.size := let ⟨_, _, _, ho, _⟩ := S; Heap.lt_size ho
  unfold collect
  refine wpAny_bind (wpAny_runValue (codeAny_builtin entry_proto_collect' ?_))
  rw [Around.under_plainId PySem.F.plain_proto_collect _]
  show wpAny _ A.in1 (newList [] >>= fun u => again (.builtin "list.__iadd__" ⟨[u, .ref a], []⟩)) _ _ s
  refine wpAny_bind (wpAny_newObj_type (wpAny_pure ⟨plainId_quiet PySem.F.plain_list_iadd _, codeAny_builtin entry_list_iadd' ?_⟩))
  rw [Around.under_plainId PySem.F.plain_list_iadd _]
  have hL : (s.heap.push { cls := .type "list", data := .seq ([] : List Value).toArray }).get? s.heap.objs.size = some { cls := .type "list", data := .seq #[] } := Heap.get?_push_size _ rfl
  have S1 : SetS prog w (s.heap.push { cls := .type "list", data := .seq ([] : List Value).toArray }) a zs := S.at fun o e => Heap.get?_push_of_some _ e
  have hT : Shared.TypeIs { s with heap := s.heap.push { cls := .type "list", data := .seq ([] : List Value).toArray } } (.ref a) "set" := let ⟨_, _, _, ho, _⟩ := S1; ⟨_, ho, rfl⟩
  have sz1 : (s.heap.push { cls := .type "list", data := .seq ([] : List Value).toArray }).objs.size = s.heap.objs.size + 1 := Heap.size_push _ _
  have k0 : ∀ b o, s.heap.get? b = some o -> (s.heap.push { cls := .type "list", data := .seq ([] : List Value).toArray }).get? b = some o := fun b o e => Heap.get?_push_of_some _ e
  show wpAny _ A.in1 (Builtin.List.listExtendWith (.ref s.heap.objs.size) (.ref a) (.ref s.heap.objs.size)) _ _ _
  generalize s.heap.push { cls := .type "list", data := .seq ([] : List Value).toArray } = g1 at hL S1 hT sz1 k0 ⊢
  have nLa : s.heap.objs.size ≠ a := Nat.ne_of_gt la
  unfold Builtin.List.listExtendWith
  refine wpAny_bind (wpAny_typeOf (T := "set") hT ?_)
  have e1 : Builtin.List.listSameRef (.ref s.heap.objs.size) (.ref a) = false := by simp [Builtin.List.listSameRef, nLa]
  simp only [e1, show (Value.type "set" == Value.type "list") = false by decide, show (Value.type "set" == Value.type "tuple") = false by decide, Bool.or_false, Bool.false_eq_true, if_false]
  refine wpAny_bind (iter_set S1 fun I h2 d fp St os k2 hfp hI are W st => ?_)
  obtain ⟨ys, sa, nd, mem⟩ := are
  have hL2 := k2 _ _ hL
  have nf : s.heap.objs.size ∉ fp := fun z => by
    rcases hfp _ z with q | q
    · rw [sz1] at q; lia
    · exact nLa q
  have nI : s.heap.objs.size ≠ I := by rw [sz1] at hI; lia
  have hT2 : Shared.TypeIs { s with heap := h2, drawn := d } (.ref a) "set" := let ⟨_, _, _, ho, _⟩ := S1; ⟨_, k2 _ _ ho, rfl⟩
  refine wpAny_bind (wpAny_holding (hint_set hT2 ?_))
  have lo : os.length = ys.length := sa.length
  have fit : os.length <= sizeLine := by
    have := List.Nodup.length_le_of_subset nd fun y hy => (mem y).mp hy
    exact Nat.le_trans (show os.length <= 4000 by lia) (by decide)
  have key : ∀ (g : Heap) (c tk : Nat), St 0 { s with heap := g, drawn := d, toks := tk } -> (∀ b o, b ≠ s.heap.objs.size -> h2.get? b = some o -> g.get? b = some o) -> g.get? s.heap.objs.size = some { cls := .type "list", data := .seq #[] c } ->
      codeAny (model prog w) A (.builtin "list.extend.loop" ⟨[.ref s.heap.objs.size, .ref I, .ref s.heap.objs.size], []⟩) (fun r s' => ∃ (h' : Heap) (tk : Nat) (acc : Array Value) (c' : Nat), r = .ok (.ret (.ref s.heap.objs.size)) /\ s' = { s with heap := h', toks := tk, drawn := d } /\ (∀ b o, s.heap.get? b = some o -> h'.get? b = some o) /\
        h'.get? s.heap.objs.size = some { cls := .type "list", dict := none, data := .seq acc c', slots := #[] } /\ ItemsOf (fun i v => os[i]? = some v) acc os.length) { s with heap := g, drawn := d, toks := tk } := by
    intro g c tk st' kg hg
    refine codeAny_extend_loopS (W A.in1 (by simpa using hh)) fit s.heap.objs.size nf (.ref s.heap.objs.size) os.length 0 _ #[] c rfl (Nat.zero_le _) st' hg (ItemsOf.nil _) fun s' acc c' m hS' hacc => ?_
    obtain ⟨hx, gx, dx, tx, ox⟩ := s'
    have eg : gx = s.gens := m.gens
    have ed : dx = d := m.drawn
    have eo : ox = s.os := m.os
    subst eg; subst ed; subst eo
    refine ⟨hx, tx, acc, c', rfl, rfl, fun b o e => ?_, hS', hacc⟩
    have lb := Heap.lt_size e
    refine m.heap b o ?_ (kg b o (Nat.ne_of_lt lb) (k2 b o (k0 b o e)))
    simp only [List.mem_cons, List.not_mem_nil, or_false, not_or]
    exact ⟨Nat.ne_of_lt lb, Nat.ne_of_lt (Nat.lt_trans lb (by rw [sz1] at hI; exact hI))⟩
  have fin : ∀ (r : Result) (s' : Shared), (∃ (h' : Heap) (tk : Nat) (acc : Array Value) (c' : Nat), r = .ok (.ret (.ref s.heap.objs.size)) ∧ s' = { s with heap := h', toks := tk, drawn := d } ∧ (∀ b o, s.heap.get? b = some o → h'.get? b = some o) ∧
        h'.get? s.heap.objs.size = some { cls := .type "list", dict := none, data := .seq acc c', slots := #[] } /\ ItemsOf (fun i v => os[i]? = some v) acc os.length) -> ∃ (h' : Heap) (tk c' : Nat), r = .ok (.ret (.ref s.heap.objs.size)) /\ s' = { s with heap := h', toks := tk, drawn := d } /\ h'.get? s.heap.objs.size = some { cls := .type "list", dict := none, data := .seq os.toArray c', slots := #[] } /\ R os { s with heap := h', toks := tk, drawn := d } := by
    rintro r s' ⟨h', tk, acc, c', rfl, rfl, k, hS', hacc⟩
    have e : acc = os.toArray := by
      refine Array.ext (by rw [List.size_toArray]; exact hacc.1) fun i h1 h2 => ?_
      have := hacc.2 i acc[i] (Array.getElem?_eq_getElem h1)
      rw [List.size_toArray] at h2
      rw [List.getElem?_eq_getElem h2] at this
      injection this with this
      rw [<- this]; simp
    subst e
    exact ⟨h', tk, c', rfl, rfl, hS', h h' tk d os ys k sa nd mem⟩
  refine wpAny_ite_split (fun _ => ?touch) (fun _ => wpAny_pure ⟨plainId_quiet PySem.F.plain_extend_loop _, codeAny_mono (key h2 0 s.toks (st _) (fun b o _ e => e) hL2) fun r s' y => ?last⟩)
  case last =>
    obtain ⟨h', tk, c', rfl, rfl, hS', q⟩ := fin r s' y
    show wpAny _ A (load s.heap.objs.size >>= _) _ _ _
    exact wpAny_bind (wpAny_load hS' (wpAny_pure q))
  case touch =>
    refine wpAny_bind (wpAny_rule (wpAny_bind ?_))
    show wpAny _ _ (updateSeq s.heap.objs.size (·.push .none) >>= fun _ => updateSeq s.heap.objs.size (·.pop)) _ _ _
    refine wpAny_bind (wpAny_updateSeq hL2 rfl ?_)
    have u2 := Heap.get?_update_self (Obj.mapSeq (·.push Value.none)) hL2 rfl
    refine wpAny_updateSeq (hz := by seq_fits) u2 rfl ?_
    have u3 := Heap.get?_update_self (Obj.mapSeq (·.pop)) u2 rfl
    have oth : ∀ b o, b ≠ s.heap.objs.size -> h2.get? b = some o -> ((h2.update s.heap.objs.size (Obj.mapSeq (·.push Value.none))).update s.heap.objs.size (Obj.mapSeq (·.pop))).get? b = some o := fun b o hb e => (Heap.get?_update_other _ _ (Ne.symm hb)).trans ((Heap.get?_update_other _ _ (Ne.symm hb)).trans e)
    refine wpAny_pure ⟨plainId_quiet PySem.F.plain_extend_loop _, codeAny_mono (key _ _ s.toks ((W A hh).frame 0 _ _ _ (st s.toks) (Nat.le_refl _) fun b hb o e => oth b o (fun z => nf (z ▸ hb)) e) oth u3) fun r s' y => ?_⟩
    obtain ⟨h', tk, c', rfl, rfl, hS', q⟩ := fin r s' y
    show wpAny _ A (load s.heap.objs.size >>= _) _ _ _
    exact wpAny_bind (wpAny_load hS' (wpAny_pure q))
end
end L2
end
section
namespace L2
open PySem PySem.Spec PyProof.Rows
theorem bt_set : bootBuiltins "set" = some (.type "set") := by decide +kernel
theorem bt_dict : bootBuiltins "dict" = some (.type "dict") := by decide +kernel
theorem bt_all : bootBuiltins "all" = some (.builtin "all") := by decide +kernel
section
variable {X : Cx}
theorem Inv.setd {pins : List (Addr × Obj)} {σ : St} {H : Hp} {s : Shared} (I : Inv X pins σ H s) (d : Drawn) : Inv X pins σ H { s with drawn := d } := ⟨I.ok, I.os, I.bare, I.base, I.loc, I.cell, I.free, I.freeC, I.pin, I.hok, I.len⟩
theorem sorted_set {pins : List (Addr × Obj)} {s : Shared} {σ : St} {H : Hp} {a : Addr} {zs : List Str} {Q : VK} (hc : X.calm = true) (I : Inv X pins σ H s) (S : SetS X.prog X.w s.heap a zs) (h64 : zs.length < 64)
    (q : ∀ (p : Addr) (ys : List Str), H p = none -> ys.Nodup -> (∀ x, x ∈ ys ↔ x ∈ zs) -> sortedS ys = true -> Q (.ref p) (upd H p (.lst (ys.map V.str)))) :
    wpAny (model X.prog X.w) X.A (call (.builtin "sorted") [.ref a]) (EP X pins σ Q) X.xe s := by
  have hh := I.ok.hd hc
  refine Calls.call_function_entry kind_sorted plain_sorted entry_sorted (args_sorted1 _) ?_
  unfold Builtin.«sorted»
  refine wpAny_bind (m := checkCount "sorted" 1 1 _) (wpAny_pure ?_)
  refine wpAny_bind (collect_set (A := X.A.in1) hh S (by lia) fun h' tk d os ss keep hS nd mem => ?_)
  have hl : os.length = ss.length := hS.length
  have le : ss.length <= zs.length := List.Nodup.length_le_of_subset nd fun y hy => (mem y).mp hy
  have fit : os.length <= sizeLine := Nat.le_trans (show os.length <= 64 by lia) (by decide)
  refine wpAny_bind (wpAny_newList ?_ fit)
  have hoL : (h'.push { cls := .type "list", data := .seq os.toArray }).get? h'.objs.size = some (seqObj "list" os.toArray 0) := Heap.get?_push_size _ rfl
  refine wpAny_bind (wpAny_holding (wpAny_call_entry slot_list_sort ⟨_, hoL, rfl⟩ entry_list_sort (list_sort_treeK strKind_oneLt hoL hS.keysOf (fun v₁ v₂ rest e => keyKind_strs (by rw [<- e]; exact hS)) (by lia) fun st' a1 a2 => ⟨_, rfl, ?_⟩) (args_list_sort _)))
  obtain ⟨ys, b1, b2, b3⟩ := sorted_out_str hS a1 a2
  refine wpAny_pure ⟨_, rfl, ?_⟩
  have I1 : Inv X pins σ H { s with heap := h', toks := tk, drawn := d } := (I.kept (t' := tk) keep).setd d
  obtain ⟨e, hat2⟩ := sortedHeap_at (out := (arrOf st').map (·.2)) hoL
  have hz : (ys.map V.str).length <= sizeLine := by rw [List.length_map, b2.length_eq, <- hl]; exact fit
  refine ⟨.ref h'.objs.size, upd H h'.objs.size (.lst (ys.map V.str)), ?_, rfl, q _ ys (I1.hok.fresh (Nat.le_refl _)) (b2.nodup_iff.mpr nd) (fun x => b2.mem_iff.trans (mem x)) b3⟩
  refine I1.laid (t' := tk) (fun b o hb => ?_) (Nat.le_refl _) ⟨hz, _, e, ofStrs b1, ?_⟩
  · have hlt : b < h'.objs.size := Heap.lt_size hb
    rw [sortedHeap_old (Nat.ne_of_lt hlt) (by rw [Heap.size_push]; exact Nat.lt_succ_of_lt hlt)]
    exact Heap.get?_push_of_some _ hb
  · rw [hat2]
theorem strsOfVals : ∀ {us : List Value} {ys : List Str}, Vals (ys.map V.str) us -> StrsAre us ys
  | _, [], h => by cases h; exact .nil
  | _, y :: ys, h => by
    rw [List.map_cons] at h
    cases h with
    | cons r rs =>
      obtain ⟨t, rfl⟩ := r
      exact .cons _ _ (strsOfVals rs)
noncomputable def tSS (te : TE) : TE := fun σ H Q => te σ H fun x H1 => ∃ (a : Addr) (zs : List Str), [x] = [V.ref a] /\ H1 a = some (.lst (zs.map V.str)) /\ zs.length < 64 /\
  ∀ (p : Addr) (ys : List Str), H1 p = none -> ys.Nodup -> (∀ x, x ∈ ys ↔ x ∈ zs) -> sortedS ys = true -> Q (.ref p) (upd H1 p (.lst (ys.map V.str)))
theorem pe_ss {e : Expr} {te : TE} {p1 p2 pos1 pos2 : Pos} (hc : X.calm = true) (hg1 : Gl X "sorted") (hm1 : X.mg "sorted" = none) (hg2 : Gl X "set") (hm2 : X.mg "set" = none) (he : PE X e te) (hs : notStar e = true) :
    PE X (.Call (.Name "sorted" p1) [.Call (.Name "set" p2) [e] [] pos2] [] pos1) (tSS te) := by
  intro pins s σ H Q I h
  refine wpAny_Call_Name_kw (ld_blt I hg1 hm1 bt_sorted ?_ (by decide) (by decide))
  refine PyProof.Rows.callWith_builtin1 ?_ (star_cons rfl) rfl
  rw [star_cons (e := .Call (.Name "set" p2) [e] [] pos2) rfl]
  show wpAny _ _ (spliced ((false, eval (.Call (.Name "set" p2) [e] [] pos2) X.env) :: backTo pos1 (starEach [] X.env))) _ _ s
  refine Calls.spliced_cons ?_
  refine wpAny_Call_Name_kw (ld_blt I hg2 hm2 bt_set ?_ (by decide) (by decide))
  refine PyProof.Rows.callWith_type1 ?_ (star_cons hs) rfl
  refine thn (qa_cons he pa_nil hs pos2 pins s σ H (fun xs H1 => ∃ (a : Addr) (zs : List Str), xs = [.ref a] /\ H1 a = some (.lst (zs.map V.str)) /\ zs.length < 64 /\ ∀ (p : Addr) (ys : List Str), H1 p = none -> ys.Nodup -> (∀ x, x ∈ ys ↔ x ∈ zs) -> sortedS ys = true -> Q (.ref p) (upd H1 p (.lst (ys.map V.str)))) I ?_) fun us s1 ⟨vs, H1, I1, r1, a, zs, ea, hH, h64, q⟩ => ?_
  · exact h
  subst ea
  obtain ⟨u, rfl, ru⟩ := r1.one
  cases ru
  obtain ⟨z, its, n, r, hl, e⟩ := I1.lstM hH
  have are : StrsAre its zs := strsOfVals r
  refine call_set_str (A := X.A) (its := its.toArray) (I1.ok.hd hc) ⟨_, e, rfl, n, rfl⟩ (by simpa using are) (by lia) fun h' tk S keep => ?_
  refine Calls.spliced_nil ?_
  exact sorted_set hc (I1.kept (t' := tk) keep) S h64 q
theorem we_ss {e : Expr} {te : TE} {p1 p2 pos1 pos2 : Pos} (hc : X.calm = true) (hg1 : Gl X "sorted") (hm1 : X.mg "sorted" = none) (hg2 : Gl X "set") (hm2 : X.mg "set" = none) (he : Hd (PE X e te)) (hs : notStar e = true := by rfl) :
    Hd (PE X (.Call (.Name "sorted" p1) [.Call (.Name "set" p2) [e] [] pos2] [] pos1) (tSS te)) := ⟨pe_ss hc hg1 hm1 hg2 hm2 he.out hs⟩
end
end L2
end
section
namespace L2
open PySem PySem.Spec PyProof.Rows
section
variable {X : Cx}
end
section
variable {H : Hp} {p c : Addr} {cs : List Int} {n r t : Int} {kn : Option Int} {kvs : List (Key × V)}
end
noncomputable def Ex (p : Addr) (H H' : Hp) : Prop := ∀ b o, b ≠ p -> H b = some o -> H' b = some o
theorem Ex.trans {p : Addr} {H H1 H2 : Hp} (a : Ex p H H1) (b : Ex p H1 H2) : Ex p H H2 := fun c o n h => b c o n (a c o n h)
theorem ex_upd {p : Addr} {H : Hp} {o : HO} : Ex p H (upd H p o) := fun b u n h => by rw [upd_ne n]; exact h
theorem ex_new {p q : Addr} {H : Hp} {o : HO} (h : H q = none) : Ex p H (upd H q o) := fun b u n e => by rw [upd_ne (ne_of_none e h)]; exact e
theorem Ex.upd' {p c : Addr} {H H' : Hp} {o : HO} (e : Ex p H H') (h : H c = none) : Ex p H (upd H' c o) := fun b q n z => by rw [upd_ne (ne_of_none z h)]; exact e b q n z
theorem Same.ex {p : Addr} {H H' : Hp} (s : Same H H') : Ex p H H' := fun b o _ h => s b o h
end L2
end
section
namespace L2
open PySem PySem.Spec PyProof.Rows
section
variable {X : Cx}
end
end L2
end
section
namespace L2
open PySem PySem.Spec PyProof.Rows PyProof.V
section
variable {X : Cx}
variable {pos : Pos}
end
end L2
end
section
namespace L2
open PySem PySem.Spec PyProof.Rows
section
variable {X : Cx} {pos pos' apos : Pos} {o e value : Expr} {es : List Expr} {f : Str} {ta tv to te : TE} {tA : TA}
theorem we_chain {a b c : Expr} {tb tc : TE} {op op' : CmpOp} {r r' : R2} (ho : OpR X (compareOp op) r) (ho' : OpR X (compareOp op') r') (ha : Hd (PE X a ta)) (hb : Hd (PE X b tb)) (hc : Hd (PE X c tc)) (hm : lastMarks [op, op'] [b, c] = false := by with_unfolding_all rfl) :
    Hd (PE X (.Compare a [op, op'] [b, c] pos) (tChain r r' ta tb tc)) := ⟨pe_chain ho ho' ha.out hb.out hc.out hm⟩
theorem vals_get : ∀ {xs : List V} {us : List Value} {i : Nat} {v : Value}, Vals xs us -> us[i]? = some v -> ∃ x, xs[i]? = some x /\ RelV x v
  | _, _, i, v, .nil, e => by simp at e
  | _, _, 0, v, .cons r _, e => by simp at e; subst e; exact ⟨_, rfl, r⟩
  | _, _, i + 1, v, .cons _ t, e => by
    obtain ⟨x, h1, h2⟩ := vals_get (i := i) t (by simpa using e)
    exact ⟨x, by simpa using h1, h2⟩
noncomputable def rAll (K : PySem.W.Frag) : List V -> Hp -> VK -> Prop := fun ws H Q => ∃ (p : Addr) (bs : List Bool), ws = [.ref p] /\ SqL K H p (bs.map V.bl) /\ Q (.bl (bs.all id)) H
theorem call_all (hc : X.calm = true) : CallR X (.builtin "all") (rAll X.K) := by
  intro pins s σ H ws us Q I r h
  obtain ⟨p, bs, rfl, hq, q⟩ := h
  obtain ⟨u, rfl, ru⟩ := r.one
  cases ru
  have hh := I.ok.hd hc
  obtain ⟨its, rv, pl, _⟩ := I.list hq
  have hl : s.heap.IsList p its.toArray := pl.isList
  obtain ⟨ob, o1, o2, k, o3⟩ := id hl
  have ne : p ≠ s.heap.objs.size := Nat.ne_of_lt (Heap.lt_size o1)
  have W := (Walks.list (prog := X.prog) (w := X.w) (A := X.A.in1) hh s.heap.objs.size p ne its.toArray).toS
  have lb : its.length = bs.length := by have := rv.length; rw [List.length_map] at this; exact this.symm
  have bv : ∀ (i : Nat) (v : Value), its.toArray[i]? = some v -> v = .bool (bs.getD i false) := fun i v e => by
    have e' : its[i]? = some v := by simpa using e
    have hi : i < bs.length := by have := (List.getElem?_eq_some_iff.mp e').1; lia
    obtain ⟨x, h1, h2⟩ := vals_get rv e'
    rw [List.getElem?_map, List.getElem?_eq_getElem hi] at h1
    cases h1
    rw [List.getD_eq_getElem?_getD, List.getElem?_eq_getElem hi]
    exact h2
  refine call_all_walkS (wpAny_pyIter_list hl ?_)
  refine ⟨s.heap.objs.size, _, _, _, _, _, _, fun i => bs.getD i false, rfl, W, ⟨⟨_, Heap.get?_push_size _ rfl, rfl, rfl⟩, hl.push _⟩, ?_, fun s' hm => ?_⟩
  · intro i v s' Q' E' hP hq'
    rw [bv i v hP]
    exact wpAny_truthy_bool hq'
  · obtain ⟨h', g', d', tk', os'⟩ := s'
    have z1 : g' = s.gens := hm.gens
    have z2 : d' = s.drawn := hm.drawn
    have z3 : os' = s.os := hm.os
    subst z1 z2 z3
    have keep : ∀ b o, s.heap.get? b = some o -> h'.get? b = some o := fun b o e => hm.heap b o (fun hb => absurd (Heap.lt_size e) ((List.mem_singleton.mp hb) ▸ Nat.lt_irrefl _)) (Heap.get?_push_of_some _ e)
    refine ⟨.bl (bs.all id), H, I.kept (t' := tk') keep, ?_, q⟩
    have e : (List.range its.toArray.size).all (fun i => bs.getD i false) = bs.all id := by
      rw [List.size_toArray, lb]
      have : (List.range bs.length).map (fun i => bs.getD i false) = bs := by
        refine List.ext_getElem? fun i => ?_
        by_cases hi : i < bs.length
        · rw [List.getElem?_map, List.getElem?_eq_getElem (by simpa using hi), List.getElem?_eq_getElem hi]
          simp [List.getD_eq_getElem?_getD, List.getElem?_eq_getElem hi]
        · rw [List.getElem?_eq_none (by simpa using hi), List.getElem?_eq_none (by lia)]
      conv => rhs; rw [<- this]
      rw [List.all_map]; rfl
    rw [e]; rfl
end
end L2
end
section
namespace L2
open PySem PySem.Spec PyProof.Rows
section
variable {X : Cx}
end
end L2
end
section
namespace Kn
open PySem PySem.W PyProof.Rows
section
variable {lt : Nat -> Nat -> Bool}
theorem prm_desc : ∀ (f : Nat) (p : Array Nat) (m q : Nat), (krun lt (kas_desc f p m q)).1.Perm p
  | 0, p, _, _ => by rw [kas_desc]; exact .refl _
  | f + 1, p, m, q => by
    rw [kas_desc, krun]
    split
    · split
      · exact (prm_desc f _ _ _).trans (mirror_perm _ _ _ _)
      · exact prm_desc f _ _ _
    · rw [krun]
      split
      · exact .refl _
      · exact prm_desc f _ _ _
theorem prm_tail (p : Array Nat) (m k : Nat) : (krun lt (kas_tail3 m k p)).2.Perm p := by
  unfold kas_tail3
  rw [krun_bind]
  exact mirror_perm _ _ _ _
theorem prm_descPart (p : Array Nat) (m k : Nat) : (krun lt (kas_descPart m k p)).2.Perm p := by
  unfold kas_descPart
  rw [krun_bind]
  split
  · exact (prm_tail _ _ _).trans ((mirror_perm _ _ _ _).trans (prm_desc _ _ _ _))
  · exact (prm_tail _ _ _).trans (prm_desc _ _ _ _)
theorem prm_count (p : Array Nat) (k : Nat) : (krun lt (kas_count k p)).2.Perm p := by
  unfold kas_count
  rw [krun_bind]
  split
  · exact .refl _
  split
  · rw [krun]
    split
    · exact .refl _
    · exact (prm_descPart _ _ _).trans (mirror_perm _ _ _ _)
  · exact prm_descPart _ _ _
theorem prm_bin : ∀ (f : Nat) (p : Array Nat) (k : Nat), (krun lt (kas_bin f p k)).Perm p
  | 0, p, _ => by rw [kas_bin]; exact .refl _
  | f + 1, p, k => by
    rw [kas_bin, krun_bind]
    exact (prm_bin f _ _).trans (bubble_perm _ _ _)
theorem prm_sort (n : Nat) : (krun lt (kas_sort n)).Perm (List.range n).toArray := by
  unfold kas_sort
  rw [krun_bind]
  split
  · exact (prm_bin _ _ _).trans (prm_count _ _)
  · exact prm_count _ _
end
end Kn
namespace L2
open PySem PySem.Spec PyProof.Rows PySem.W
open Kn (sLt krun)
mutual
noncomputable def ltD : Dt -> Dt -> Option Bool
  | .int i, e => match e with | .int j => some (decide (i < j)) | _ => none
  | .str x, e => match e with | .str y => some (sLt x y) | _ => none
  | .tup ds, e => match e with | .tup es => ltDs ds es | _ => none
noncomputable def ltDs : List Dt -> List Dt -> Option Bool
  | [], es => some (decide (es ≠ []))
  | d :: ds, es => match es with | [] => some false | e :: es => if d = e then ltDs ds es else ltD d e
end
noncomputable def RcLt (P : Program) (w : World) (A : Around) (s : Shared) (x y : Value) (r : Bool) : Prop := ∀ (E : Value -> Shared -> Prop) (Q : Value -> Shared -> Prop), Q (.bool r) s -> wpAny (model P w) A (richCompare .Lt x y) Q E s
section
open PySem.SeqAt
open PySem.AutoSeq1 (wpAny_loadPart')
open PySem.MeetsSeq PySem.MeetsSeq2 PySem.MeetsSeq3
variable {P : Program} {w : World} {H : Hp}
inductive DRow (H : Hp) : List Dt -> List Value -> Prop
  | nil : DRow H [] []
  | cons {d : Dt} {v : V} {x : Value} {ds : List Dt} {us : List Value} : IsDt H d v -> RelV v x -> DRow H ds us -> DRow H (d :: ds) (x :: us)
theorem drow_of : ∀ {ds : List Dt} {xs : List V} {us : List Value}, IsDts H ds xs -> Vals xs us -> DRow H ds us
  | [], _, _, h, r => by rw [IsDts] at h; subst h; cases r; exact .nil
  | d :: ds, _, _, h, r => by
    rw [IsDts] at h
    obtain ⟨y, ys, rfl, h1, h2⟩ := h
    cases r with
    | cons q t => exact .cons h1 q (drow_of h2 t)
theorem DRow.length {ds : List Dt} {us : List Value} (h : DRow H ds us) : ds.length = us.length := by
  induction h with
  | nil => rfl
  | cons _ _ _ ih => simp [ih]
theorem tuple_ltD (n : Nat) (ih : ∀ (A : Around) (s : Shared) (d e : Dt) (v u : V) (x y : Value) (r : Bool), HOk P w H s.heap -> d.dep <= n -> A.units + n < cLine -> IsDt H d v -> IsDt H e u -> RelV v x -> RelV u y -> ltD d e = some r -> RcLt P w A s x y r)
    (l b : Addr) (items items2 : Array Value) (n1 n2 : Nat) (dd dd2 : Option Addr) (sl sl2 : Array (Option Value)) (ks js : List Dt) (hi : DRow H ks items.toList) (hj : DRow H js items2.toList) (hdep : depL ks <= n) (r : Bool) (hr : ltDs ks js = some r) :
    MeetsIn P w (Builtin.«tuple.__lt__» ⟨[.ref l, .ref b], []⟩)
      (fun A R s => A.units + 1 + n < cLine /\ HOk P w H s.heap /\ s.heap.get? l = some { cls := .type "tuple", dict := dd, data := .seq items n1, slots := sl } /\ s.heap.get? b = some { cls := .type "tuple", dict := dd2, data := .seq items2 n2, slots := sl2 } /\
        R (.ok (.ret (.bool r))) s) :=
  .of_wp fun A R s h => by
    obtain ⟨hp, g, d, tk, os⟩ := s; obtain ⟨hu, ok, hl, hb, h⟩ := h
    have f2 := AutoSeq1.sub_tuple_tuple
    have z1 : items.size = ks.length := by have := hi.length; simpa using this.symm
    have z2 : items2.size = js.length := by have := hj.length; simpa using this.symm
    wp_walk using wpAny_loadPart' hl, wpAny_loadPart' hb, wpAny_forIn_list _ (fun rest b s' => b.1 = none /\ s' = ⟨hp, g, d, tk, os⟩ /\ ∃ (vs ws : List Value) (ks' js' : List Dt), rest = vs.zip ws /\
      DRow H ks' vs /\ DRow H js' ws /\ depL ks' <= n /\ ks'.length + items2.size = js'.length + items.size /\ ltDs ks' js' = some r) _
    case turn =>
      rintro ⟨y, x⟩ rest b s' ⟨hb', rfl, vs, ws, ks', js', hz, hvi, hwi, hdp, hlen, hR⟩
      cases hvi with
      | nil => rw [List.zip_nil_left] at hz; cases hz
      | @cons a av ax ks' vs' ia ra hvi' =>
        cases hwi with
        | nil => rw [List.zip_nil_right] at hz; cases hz
        | @cons c cv cx js' ws' ic rc hwi' =>
              rw [List.zip_cons_cons] at hz
              injection hz with hyx hrest
              injection hyx with hy hx
              subst hy hx
              rw [ltDs] at hR
              rw [depL] at hdp
              simp only [List.length_cons] at hlen
              have he := eqAt_D n A.in1 ⟨hp, g, d, tk, os⟩ a c av cv y x ok (by lia) (by show A.units + 1 + n < cLine; lia) ia ic ra rc
              refine wpAny_bind (he P w _ _ ?_)
              by_cases ac : a = c
              · rw [decide_eq_true ac]
                rw [if_pos ac] at hR
                wp_walk
                exact ⟨rfl, rfl, _, _, _, _, hrest, hvi', hwi', by lia, by lia, hR⟩
              · rw [decide_eq_false ac]
                rw [if_neg ac] at hR
                have hri := ih A.in1 ⟨hp, g, d, tk, os⟩ a c av cv y x r ok (by lia) (by show A.units + 1 + n < cLine; lia) ia ic ra rc hR
                unfold RcLt at hri
                wp_walk using hri
                exact ⟨_, rfl, by simpa using h⟩
    case fin =>
      rintro ⟨b1, b2⟩ s' ⟨hb', rfl, vs, ws, ks', js', hz, hvi, hwi, _, hlen, hR⟩
      simp only at hb'
      subst hb'
      have hv : r = decide (items.size < items2.size) := by
        cases hvi with
        | nil =>
          cases hwi with
          | nil =>
            simp only [List.length_nil] at hlen
            rw [ltDs] at hR
            cases hR
            simp; lia
          | cons _ _ _ =>
            simp only [List.length_nil, List.length_cons] at hlen
            rw [ltDs] at hR
            cases hR
            simp; lia
        | cons _ _ _ =>
          cases hwi with
          | nil =>
            simp only [List.length_nil, List.length_cons] at hlen
            rw [ltDs] at hR
            cases hR
            exact (decide_eq_false (by lia)).symm
          | cons _ _ _ =>
            rw [List.zip_cons_cons] at hz
            cases hz
      rw [hv] at h
      wp_walk
      exact ⟨_, rfl, by simpa [Builtin.Tuple.tupleCompareSizes] using h⟩
    case h =>
      exact ⟨rfl, rfl, items.toList, items2.toList, ks, js, rfl, hi, hj, hdep, by lia, hr⟩
theorem rcLt_D : ∀ (n : Nat) (A : Around) (s : Shared) (d e : Dt) (v u : V) (x y : Value) (r : Bool), HOk P w H s.heap -> d.dep <= n -> A.units + n < cLine -> IsDt H d v -> IsDt H e u -> RelV v x -> RelV u y -> ltD d e = some r -> RcLt P w A s x y r := by
  intro n
  induction n with
  | zero =>
    intro A s d e v u x y r ok hd hu iv iu rv ru h E Q q
    cases d with
    | int i =>
      cases e with
      | int j =>
        rw [IsDt] at iv iu; subst iv iu
        obtain ⟨t, rfl⟩ := rv
        obtain ⟨t', rfl⟩ := ru
        rw [ltD] at h; cases h
        exact HT.rcLt_int A s i t j t' P w E Q q
      | str z => simp [ltD] at h
      | tup es => simp [ltD] at h
    | str i =>
      cases e with
      | int j => simp [ltD] at h
      | str z =>
        rw [IsDt] at iv iu; subst iv iu
        obtain ⟨t, rfl⟩ := rv
        obtain ⟨t', rfl⟩ := ru
        rw [ltD] at h; cases h
        exact (PyProof.Rows.lt_str q : wpAny (model P w) A (compareOp .Lt (.str i t) (.str z t')) Q E s)
      | tup es => simp [ltD] at h
    | tup ds => rw [Dt.dep] at hd; lia
  | succ n ih =>
    intro A s d e v u x y r ok hd hu iv iu rv ru h
    cases d with
    | int i => exact ih A s _ e v u x y r ok (by rw [Dt.dep]; lia) (by lia) iv iu rv ru h
    | str i => exact ih A s _ e v u x y r ok (by rw [Dt.dep]; lia) (by lia) iv iu rv ru h
    | tup ds =>
      cases e with
      | int j => simp [ltD] at h
      | str z => simp [ltD] at h
      | tup es =>
        intro E Q q
        rw [ltD] at h
        rw [Dt.dep] at hd
        rw [IsDt] at iv iu
        obtain ⟨a, xs, rfl, h1, h2⟩ := iv
        obtain ⟨b, ys, rfl, g1, g2⟩ := iu
        cases rv
        cases ru
        obtain ⟨_, its, r1, p1⟩ := ok a _ h1
        obtain ⟨_, its2, r2, p2⟩ := ok b _ g1
        obtain ⟨⟨cls, dd, data, sl⟩, ho, hc, n1, hd1⟩ := id p1
        obtain ⟨⟨cls2, dd2, data2, sl2⟩, ho2, hc2, n2, hd2⟩ := id p2
        simp only at hc hd1 hc2 hd2
        subst hc hd1 hc2 hd2
        exact wpAny_richCompare_same_room (op := .Lt) ⟨_, ho, rfl⟩ ⟨_, ho2, rfl⟩ PySem.F.slot_tuple_lt (call_meetsIn PySem.F.slot_tuple_lt ⟨_, ho, rfl⟩ PySem.F.entry_tuple_lt (PySem.F.args_tuple_lt_2 _ _) (tuple_ltD n ih a b its.toArray its2.toArray n1 n2 dd dd2 sl sl2 ds es (by simpa using drow_of h2 r1) (by simpa using drow_of g2 r2) (by lia) r h)
          ⟨by lia, ok, ho, ho2, show Value.bool r ≠ Value.notImplemented /\ Q (.bool r) s from ⟨(fun x => nomatch x), q⟩⟩) (by lia)
end
end L2
end
section
namespace L2
open PySem PySem.Spec PyProof.Rows PySem.W
open Kn (sLt krun)
theorem HOk.but {P : Program} {w : World} {H : Hp} {h h' : Heap} {a : Addr} (x : HOk P w H h) (ha : H a = none) (k : ∀ b u, b ≠ a -> h.get? b = some u -> h'.get? b = some u) : HOk P w H h' := fun b o e =>
  (x b o e).stay (fun c u hc q => k c u (by rintro rfl; rcases hc with rfl | hc; (· rw [ha] at e; cases e); (· rw [ha] at hc; cases hc)) q) (fun _ q => q) fun _ _ q => q
noncomputable def tyD : Dt -> String
  | .int _ => "int"
  | .str _ => "str"
  | .tup _ => "tuple"
theorem looks_tyD {P : Program} {w : World} {M : Model} {H : Hp} {h : Heap} (ok : HOk P w H h) {d : Dt} {v : V} {x : Value} (i : IsDt H d v) (r : RelV v x) : Looks M h (typeOf x) (.type (tyD d)) := by
  cases d with
  | int n => rw [IsDt] at i; subst i; obtain ⟨t, rfl⟩ := r; exact .now
  | str n => rw [IsDt] at i; subst i; obtain ⟨t, rfl⟩ := r; exact .now
  | tup ds =>
    rw [IsDt] at i
    obtain ⟨a, xs, rfl, h1, _⟩ := i
    cases r
    obtain ⟨_, its, _, o, ho, hc, _⟩ := ok a _ h1
    have := (show Looks M h (typeOf (.ref a)) o.cls from (Looks.ld ho).andThen .now)
    rw [hc] at this
    exact this
section
variable {prog : Program} {w : World} {A : Around} {E : Value -> Shared -> Prop} {s : Shared} {H : Hp}
theorem katLex_D {b fin : Bool} {Q : Bool -> Shared -> Prop} {n : Nat} (ok : HOk prog w H s.heap) (hu : A.units + n < cLine) : ∀ (ds es : List Dt) (us ws : List Value) (i : Nat) (r : Bool), DRow H ds us -> DRow H es ws -> depL ds <= n -> ltDs ds es = some r -> fin = decide (ds.length < es.length) ->
    ((b && i == 0) = true -> ∀ d e, ds.head? = some d -> es.head? = some e -> tyD d = tyD e /\ tyD d ≠ "tuple") -> Q r s -> KatLex prog w A b fin Q (us.zip ws) i s
  | _, _, _, _, i, r, .nil, .nil, _, h, hf, _, q => by
    rw [ltDs] at h; cases h
    subst hf
    refine kat_nil (by simpa using q)
  | _, _, _, _, i, r, .nil, .cons _ _ _, _, h, hf, _, q => by
    rw [ltDs] at h; cases h
    subst hf
    refine kat_nil (by simpa using q)
  | _, _, _, _, i, r, .cons _ _ _, .nil, _, h, hf, _, q => by
    rw [ltDs] at h; cases h
    rw [List.zip_nil_right]
    subst hf
    exact q
  | _, _, _, _, i, r, .cons (d := d) (v := v) (x := x) (ds := ds) (us := us) iv rv t, .cons (d := e) (v := u) (x := y) (ds := es) (us := ws) iu ru t', hd, h, hf, hb, q => by
    rw [depL] at hd
    rw [ltDs] at h
    rw [List.zip_cons_cons]
    refine kat_cons (eqAt_D n A s d e v u x y ok (by lia) hu iv iu rv ru _ _ _ _ ?_)
    by_cases ac : d = e
    · rw [if_pos ac] at h
      rw [decide_eq_true ac]
      refine kat_yes (katLex_D ok hu ds es us ws (i + 1) r t t' (by lia) h (by rw [hf]; simp) (fun z => ?_) q)
      simp at z
    · rw [if_neg ac] at h
      rw [decide_eq_false ac]
      refine kat_no ?_
      cases hbb : (b && i == 0) with
      | false => exact kat_one _ _ (rcLt_D n A s d e v u x y r ok (by lia) hu iv iu rv ru h _ _ q)
      | true =>
        obtain ⟨t1, t2⟩ := hb hbb d e rfl rfl
        cases d with
        | int m =>
          cases e with
          | int k =>
            rw [IsDt] at iv iu; subst iv iu
            obtain ⟨t, rfl⟩ := rv
            obtain ⟨t', rfl⟩ := ru
            rw [ltD] at h; cases h
            exact oneLt_int q
          | str z => simp [ltD] at h
          | tup z => simp [ltD] at h
        | str m =>
          cases e with
          | int k => simp [ltD] at h
          | str z =>
            rw [IsDt] at iv iu; subst iv iu
            obtain ⟨t, rfl⟩ := rv
            obtain ⟨t', rfl⟩ := ru
            rw [ltD] at h; cases h
            exact oneLt_str q
          | tup z => simp [ltD] at h
        | tup ds => exact absurd rfl t2
noncomputable def DTs (H : Hp) (vs : List Value) (ds : List (List Dt)) : Prop := vs.length = ds.length /\ ∀ (i : Nat) (d : List Dt), ds[i]? = some d -> ∃ (b : Addr) (xs : List V), vs[i]? = some (Value.ref b) /\ H b = some (.tup xs) /\ IsDts H d xs
structure Sortable (T : String) (ds : List (List Dt)) : Prop where
  first : ∀ d ∈ ds, ∃ e r, d = e :: r /\ tyD e = T
  tot : ∀ d ∈ ds, ∀ e ∈ ds, (ltDs d e).isSome = true
  dep : ∀ d ∈ ds, depL d <= 50
noncomputable def ltB (ds : List (List Dt)) (i j : Nat) : Bool := (ltDs (ds.getD i []) (ds.getD j [])).getD false
theorem DTs.firsts {T : String} (ok : HOk prog w H s.heap) : ∀ {vs : List Value} {ds : List (List Dt)}, DTs H vs ds -> (∀ d ∈ ds, ∃ e r, d = e :: r /\ tyD e = T) -> ∃ fs, KatTups s.heap vs fs /\ fs.length = vs.length /\ ∀ f ∈ fs, Looks (model prog w) s.heap (typeOf f) (.type T)
  | [], [], _, _ => ⟨[], .nil, rfl, fun f hf => (nomatch hf)⟩
  | [], _ :: _, t, _ => by have := t.1; simp at this
  | _ :: _, [], t, _ => by have := t.1; simp at this
  | v :: vs, d :: ds, t, hf => by
    obtain ⟨fs, h1, h2, h3⟩ := DTs.firsts ok (vs := vs) (ds := ds) ⟨by have := t.1; simpa using this, fun i y hy => t.2 (i + 1) y (by simpa using hy)⟩ (fun d hd => hf d (List.mem_cons_of_mem _ hd))
    obtain ⟨b, xs, e1, e2, e3⟩ := t.2 0 d rfl
    obtain ⟨e, r, rfl, et⟩ := hf d List.mem_cons_self
    rw [IsDts] at e3
    obtain ⟨y, ys, rfl, i1, i2⟩ := e3
    have ev : v = .ref b := by simpa using e1
    subst ev
    obtain ⟨_, its, r1, o, g1, g2, n, g3⟩ := ok b _ e2
    cases r1 with
    | @cons _ u _ ur ru _ =>
      refine ⟨u :: fs, .cons g1 g2 g3 (by simp) h1, by simp [h2], fun f hf => ?_⟩
      rcases List.mem_cons.mp hf with z | z
      · subst z; have := looks_tyD (M := model prog w) ok i1 ru; rw [et] at this; exact this
      · exact h3 f z
theorem dt_list_sort {a : Addr} {vs : List Value} {ds : List (List Dt)} {n : Nat} {T : String} {P : Fin -> Shared -> Prop} (hu : A.units + 60 < cLine) (ok : HOk prog w H s.heap) (ha : H a = none) (ho : s.heap.get? a = some (seqObj "list" vs.toArray n)) (hT : DTs H vs ds) (so : Sortable T ds) (h64 : vs.length < 64)
    (h : ∀ (p : List Nat), p.Perm (List.range vs.length) -> (2 <= vs.length -> p = (krun (ltB ds) (kas_sort vs.length)).toList) -> (vs.length < 2 -> p = List.range vs.length) -> P (.done (.ret .none)) { s with heap := sortedHeap s.heap a vs (p.map fun i => vs.getD i Value.none).toArray }) :
    wpAny (model prog w) A (Builtin.«list.sort» ⟨[.ref a], []⟩) P E s := by
  obtain ⟨e1, g1⟩ : ∃ e1, (s.heap.update a (Obj.mapSeq fun _ => (#[] : Array Value))).get? a = some (seqObj "list" #[] e1) := ⟨_, get?_update_seq ho fun _ => #[]⟩
  have g6 : (((s.heap.update a (Obj.mapSeq fun _ => (#[] : Array Value))).push (seqObj "tuple" vs.toArray 0)).push (seqObj "list" #[] 0)).get? a = some (seqObj "list" #[] e1) := Heap.get?_push_of_some _ (Heap.get?_push_of_some _ g1)
  have sb := Heap.SameBut.update s.heap a (Obj.mapSeq fun _ => (#[] : Array Value))
  have ok6 : HOk prog w H (((s.heap.update a (Obj.mapSeq fun _ => (#[] : Array Value))).push (seqObj "tuple" vs.toArray 0)).push (seqObj "list" #[] 0)) := ok.but ha fun b o nb e => Heap.get?_push_of_some _ (Heap.get?_push_of_some _ (sb.extBut b o nb e))
  rw [list_sort_plain]
  refine wpAny_bind (listItems_at ho rfl (wpAny_bind (listUpdate_at ho rfl ?_ (by rw [List.size_toArray, sizeLine_eq]; lia) (Nat.zero_le _))))
  refine wpAny_bind (seqEpoch_at g1 rfl (wpAny_bind (wpAny_newTuple ?_ (by show vs.length <= _; rw [sizeLine_eq]; lia))))
  refine wpAny_bind (wpAny_newList (wpAny_holding ?_) (Nat.zero_le _))
  show wpAny (model prog w) A _ P E { s with heap := ((s.heap.update a (Obj.mapSeq fun _ => (#[] : Array Value))).push (seqObj "tuple" vs.toArray 0)).push (seqObj "list" #[] 0) }
  dsimp only
  by_cases h2 : vs.toArray.size < 2
  · have h2' : vs.length < 2 := by simpa using h2
    rw [if_pos h2, if_pos h2]
    refine wpAny_bind (wpAny_pure ?_)
    rw [StateT.run_pure]
    refine wpAny_bind (wpAny_pure ?_)
    dsimp only
    have ez : (arrOf (SortSt.mk' general' (vs.toArray.zip vs.toArray) #[] 7 none)).map (·.2) = vs.toArray := by
      show (vs.toArray.zip vs.toArray).map (·.2) = vs.toArray
      apply Array.toList_inj.mp
      rw [Array.toList_map, Array.toList_zip]
      simp only [List.toList_toArray]
      have zz : ∀ l : List Value, (l.zip l).map (·.2) = l := fun l => by induction l with | nil => rfl | cons x l ih => simp [ih]
      exact zz vs
    rw [ez]
    refine wpAny_bind (seqEpoch_at g6 rfl (wpAny_bind (listUpdate_at g6 rfl ?_ (Nat.zero_le _) (by rw [List.size_toArray, sizeLine_eq]; lia))))
    simp only [bne_self_eq_false, Bool.false_eq_true, if_false]
    have q := h (List.range vs.length) (.refl _) (fun z => by lia) fun _ => rfl
    have zz : (List.range vs.length).map (fun i => vs.getD i Value.none) = vs := by
      refine List.ext_getElem (by simp) fun i h1 h2 => ?_
      simp [List.getD_eq_getElem?_getD, List.getElem?_eq_getElem h2]
    rw [zz] at q
    exact wpAny_pure q
  · have h2' : 2 ≤ vs.length := by have : ¬ vs.length < 2 := by simpa using h2
                                   lia
    rw [if_neg h2, if_neg h2]
    obtain ⟨fs, f1, f2, f3⟩ := hT.firsts (s := { s with heap := ((s.heap.update a (Obj.mapSeq fun _ => (#[] : Array Value))).push (seqObj "tuple" vs.toArray 0)).push (seqObj "list" #[] 0) }) ok6 so.first
    refine wpAny_bind (kat_kind (T := .type T) f1 (by rw [f2]; lia) f3 (by simp) ?_)
    have pp := Kn.prm_sort (lt := ltB ds) vs.length
    refine wpAny_bind (wpAny_mono (kat_run (ks := vs) (Q := fun st' s' => arrOf st' = (krun (ltB ds) (kas_sort vs.length)).map (kas_item (vs.toArray.zip vs.toArray)) /\ failedOf st' = none /\ s' = { s with heap := ((s.heap.update a (Obj.mapSeq fun _ => (#[] : Array Value))).push (seqObj "tuple" vs.toArray 0)).push (seqObj "list" #[] 0) })
      (G := fun q s' => q = krun (ltB ds) (kas_sort vs.length) /\ s' = { s with heap := ((s.heap.update a (Obj.mapSeq fun _ => (#[] : Array Value))).push (seqObj "tuple" vs.toArray 0)).push (seqObj "list" #[] 0) }) rfl h2' h64 (fun q st' s' _ a2 a3 ⟨a4, a5⟩ => ⟨a4 ▸ a2, a3, a5⟩) ?ask) ?_ fun _ _ e => e)
    case ask =>
      refine Kn.wp_of_run (n := vs.length) (R := fun _ => True) (lt := ltB ds) (fun i j C hi hj q => ?_) (Kn.asks_sort (by lia)) ⟨rfl, rfl⟩
      have hi' : i < ds.length := by rw [<- hT.1]; exact hi
      have hj' : j < ds.length := by rw [<- hT.1]; exact hj
      have di : ds[i]? = some ds[i] := List.getElem?_eq_getElem hi'
      have dj : ds[j]? = some ds[j] := List.getElem?_eq_getElem hj'
      obtain ⟨bi, xi, a1, a2, a3⟩ := hT.2 i _ di
      obtain ⟨bj, xj, c1, c2, c3⟩ := hT.2 j _ dj
      obtain ⟨_, ti, ri, oi, a4, a5, ni, a6⟩ := ok6 bi _ a2
      obtain ⟨_, tj, rj, oj, c4, c5, nj, c6⟩ := ok6 bj _ c2
      unfold kas_ask
      rw [List.getD_eq_getElem?_getD, List.getD_eq_getElem?_getD, a1, c1]
      refine kat_lt a4 a6 c4 c6 ?_
      have mi : ds[i] ∈ ds := List.getElem_mem _
      have mj : ds[j] ∈ ds := List.getElem_mem _
      obtain ⟨r, hr⟩ := Option.isSome_iff_exists.mp (so.tot _ mi _ mj)
      have eq : ltB ds i j = r := by
        unfold ltB
        rw [List.getD_eq_getElem?_getD, List.getD_eq_getElem?_getD, di, dj]
        show (ltDs ds[i] ds[j]).getD false = r
        rw [hr]; rfl
      rw [eq] at q
      refine katLex_D (n := 50) ok6 (by lia) ds[i] ds[j] _ _ 0 r (by simpa using drow_of a3 ri) (by simpa using drow_of c3 rj) (so.dep _ mi) hr ?_ (fun hb d e hd he => ?_) q
      · have l1 := (drow_of a3 ri).length
        have l2 := (drow_of c3 rj).length
        simp [l1, l2]
      · obtain ⟨d', r', q1, q2⟩ := so.first _ mi
        obtain ⟨e', r'', q3, q4⟩ := so.first _ mj
        rw [q1] at hd; rw [q3] at he
        cases hd; cases he
        refine ⟨q2.trans q4.symm, fun z => ?_⟩
        rw [q2] at z
        subst z
        simp at hb
    rintro ⟨⟨⟩, st'⟩ s' ⟨har, hf, rfl⟩
    dsimp only
    have hout := kat_snds rfl har
    rw [hout]
    have lp : (krun (ltB ds) (kas_sort vs.length)).toList.length = vs.length := by rw [Array.length_toList, pp.size_eq]; simp
    refine wpAny_bind (seqEpoch_at g6 rfl (wpAny_bind (listUpdate_at g6 rfl ?_ (Nat.zero_le _) (by rw [List.size_toArray, List.length_map, lp, sizeLine_eq]; lia))))
    rw [hf]
    simp only [bne_self_eq_false, Bool.false_eq_true, if_false]
    exact wpAny_pure (h _ (by have := Array.perm_iff_toList_perm.mp pp; simpa using this) (fun _ => rfl) fun z => by lia)
end
section
variable {X : Cx}
theorem vals_map {bs : List V} {us : List Value} (r : Vals bs us) : ∀ (p : List Nat), (∀ i ∈ p, i < us.length) -> Vals (p.map fun i => bs.getD i V.non) (p.map fun i => us.getD i Value.none)
  | [], _ => .nil
  | i :: p, h => by
    refine .cons ?_ (vals_map r p fun j hj => h j (List.mem_cons_of_mem _ hj))
    have hi : i < us.length := h i List.mem_cons_self
    have hi' : i < bs.length := by rw [r.length]; exact hi
    obtain ⟨u, h1, h2⟩ := r.get (List.getElem?_eq_getElem hi')
    show RelV (bs.getD i V.non) (us.getD i Value.none)
    rw [List.getD_eq_getElem?_getD, List.getD_eq_getElem?_getD, h1, List.getElem?_eq_getElem hi']
    exact h2
theorem dts_of {H : Hp} {bs : List V} {us : List Value} (r : Vals bs us) {ds : List (List Dt)} (h : IsDts H (ds.map Dt.tup) bs) : DTs H us ds := by
  refine ⟨by rw [<- r.length, h.length, List.length_map], fun i d hd => ?_⟩
  obtain ⟨y, e1, e2⟩ := h.get (i := i) (d := .tup d) (by rw [List.getElem?_map, hd]; rfl)
  obtain ⟨u, f1, f2⟩ := r.get e1
  rw [IsDt] at e2
  obtain ⟨a, xs, rfl, g1, g2⟩ := e2
  cases f2
  exact ⟨a, xs, f1, g1, g2⟩
theorem sortD_tail {pins : List (Addr × Obj)} {s : Shared} {σ : St} {H : Hp} {A : Around} {E : Value -> Shared -> Prop} {T : String} {bs : List V} {us : List Value} {ds : List (List Dt)} {Q : VK} (hu : A.units + 70 < cLine) (I : Inv X pins σ H s) (r : Vals bs us) (hD : IsDts H (ds.map Dt.tup) bs) (so : Sortable T ds) (h64 : ds.length < 64)
    (q : ∀ (a : Addr) (p : List Nat), H a = none -> p.Perm (List.range ds.length) -> (2 <= ds.length -> p = (krun (ltB ds) (kas_sort ds.length)).toList) -> (ds.length < 2 -> p = List.range ds.length) -> Q (.ref a) (upd H a (.lst (p.map fun i => bs.getD i V.non)))) :
    wpAny (model X.prog X.w) A (newList us >>= fun l => holding [l] (call (.builtin "list.sort") [l] []) >>= fun _ => ret l) (fun fin s' => ∃ v, fin = .done (.ret v) /\ EP X pins σ Q v s') E s := by
  have hT := dts_of r hD
  have hl : us.length = ds.length := hT.1
  refine wpAny_bind (wpAny_newList ?_ (by rw [hl, sizeLine_eq]; lia))
  have hoL : (s.heap.push { cls := .type "list", data := .seq us.toArray }).get? s.heap.objs.size = some (seqObj "list" us.toArray 0) := Heap.get?_push_size _ rfl
  have ok1 : HOk X.prog X.w H (s.heap.push { cls := .type "list", data := .seq us.toArray }) := I.hok.kept fun b o e => Heap.get?_push_of_some _ e
  refine wpAny_bind (wpAny_holding (wpAny_call_entry slot_list_sort ⟨_, hoL, rfl⟩ entry_list_sort (dt_list_sort (by show A.units + 1 + 60 < cLine; lia) ok1 (I.hok.fresh (Nat.le_refl _)) hoL hT so (by lia) fun p b1 b2 b3 => ⟨_, rfl, ?_⟩) (args_list_sort _)))
  refine wpAny_pure ⟨_, rfl, ?_⟩
  obtain ⟨e, hat⟩ := sortedHeap_at (out := (p.map fun i => us.getD i Value.none).toArray) hoL
  have lp : p.length = ds.length := by rw [b1.length_eq, List.length_range, hl]
  rw [hl] at b1 b2 b3
  refine ⟨.ref s.heap.objs.size, upd H s.heap.objs.size (.lst (p.map fun i => bs.getD i V.non)), ?_, rfl, q _ p (I.hok.fresh (Nat.le_refl _)) b1 b2 b3⟩
  refine I.laid (t' := s.toks) (fun b o hb => ?_) (Nat.le_refl _) ⟨by rw [List.length_map, lp, sizeLine_eq]; lia, _, e, vals_map r p (fun i hi => by rw [hl]; have := b1.mem_iff.mp hi; simpa using this), ?_⟩
  · have hlt : b < s.heap.objs.size := Heap.lt_size hb
    rw [sortedHeap_old (Nat.ne_of_lt hlt) (by rw [Heap.size_push]; exact Nat.lt_succ_of_lt hlt)]
    exact Heap.get?_push_of_some _ hb
  · rw [hat]
end
end L2
end
section
namespace L2
open PySem PySem.Spec PyProof.Rows PySem.W
section
variable {prog : Program} {w : World} {A : Around} {E : Value -> Shared -> Prop} {s : Shared}
theorem miss_keys_tuple : typeLookup (.type "tuple") "keys" = pure none := by rw [typeLookup_type, builtinLookup_eq_fast]; kernel_rfl
theorem miss_keys_list : typeLookup (.type "list") "keys" = pure none := by rw [typeLookup_type, builtinLookup_eq_fast]; kernel_rfl
theorem noKeys_tuple {a : Addr} {o : Obj} {xs : Array Value} {k : Nat} {Q : Option Value -> Shared -> Prop} (hx : s.heap.get? a = some o) (hc : o.cls = .type "tuple") (hdat : o.data = .seq xs k) (hd : o.dict = none) (hA : A.handled = none)
    (h : ∀ h' tk, (∀ b o, s.heap.get? b = some o -> h'.get? b = some o) -> Q none { s with heap := h', toks := tk }) : wpAny (model prog w) A (getAttr? (.ref a) "keys") Q E s := by
  obtain ⟨c, dct, dat, sl⟩ := o
  simp only at hc hdat hd
  subst hc hdat hd
  obtain ⟨hp, g, d, tk, os⟩ := s
  have hT : ∀ tk', (⟨hp, g, d, tk', os⟩ : Shared).TypeIs (.ref a) "tuple" := fun _ => ⟨_, hx, rfl⟩
  have f1 := sub_AttributeError
  have f3 := F.slot_tuple_getattribute.lookup
  have f4 := F.slot_tuple_getattribute.bind (.ref a)
  have f5 := am_tuple_getattr_none
  have hname : (["__module__", "__name__", "__qualname__", "__doc__", "__annotations__"] : List Str).contains "keys" = false := by decide
  unfold getAttr? getAttrBy? getAttrBy
  repeat (any_goals (first | assumption | exact hT _ | ((with_reducible show wpAny _ _ (call (Value.builtin "tuple.__getattribute__") _ _) _ _ _); refine call_meets F.slot_tuple_getattribute (hT _) am_entry_tuple_getattribute (F.args_tuple_getattribute_2 _ _) (meets_getattribute_miss_tuple a xs k sl "keys" _ miss_keys_tuple hname) ⟨hx, hA, fun h' tk' e hx' => ?_⟩) | wp_step))
  obtain ⟨t', u', he⟩ := hx'.there
  show wpAny _ _ (getattributeRaised _ _ _ _ _ _ _) _ _ _
  unfold getattributeRaised
  repeat (any_goals (first | assumption | wp_step))
  exact h _ _ hx'.keeps
theorem noKeys_list {a : Addr} {o : Obj} {xs : Array Value} {k : Nat} {Q : Option Value -> Shared -> Prop} (hx : s.heap.get? a = some o) (hc : o.cls = .type "list") (hdat : o.data = .seq xs k) (hd : o.dict = none) (hA : A.handled = none)
    (h : ∀ h' tk, (∀ b o, s.heap.get? b = some o -> h'.get? b = some o) -> Q none { s with heap := h', toks := tk }) : wpAny (model prog w) A (getAttr? (.ref a) "keys") Q E s := by
  obtain ⟨c, dct, dat, sl⟩ := o
  simp only at hc hdat hd
  subst hc hdat hd
  obtain ⟨hp, g, d, tk, os⟩ := s
  have hT : ∀ tk', (⟨hp, g, d, tk', os⟩ : Shared).TypeIs (.ref a) "list" := fun _ => ⟨_, hx, rfl⟩
  have f1 := sub_AttributeError
  have f3 := F.slot_list_getattribute.lookup
  have f4 := F.slot_list_getattribute.bind (.ref a)
  have f5 := am_list_getattr_none
  have hname : (["__module__", "__name__", "__qualname__", "__doc__", "__annotations__"] : List Str).contains "keys" = false := by decide
  unfold getAttr? getAttrBy? getAttrBy
  repeat (any_goals (first | assumption | exact hT _ | ((with_reducible show wpAny _ _ (call (Value.builtin "list.__getattribute__") _ _) _ _ _); refine call_meets F.slot_list_getattribute (hT _) am_entry_list_getattribute (F.args_list_getattribute_2 _ _) (meets_getattribute_miss_list a xs k sl "keys" _ miss_keys_list hname) ⟨hx, hA, fun h' tk' e hx' => ?_⟩) | wp_step))
  obtain ⟨t', u', he⟩ := hx'.there
  show wpAny _ _ (getattributeRaised _ _ _ _ _ _ _) _ _ _
  unfold getattributeRaised
  repeat (any_goals (first | assumption | wp_step))
  exact h _ _ hx'.keeps
theorem entry_update_loop : entryFor table "dict.update.loop" = some Builtin.«dict.update.loop» := entryFor_of_tree (by kernel_rfl)
theorem plain_update_loop : plainId "dict.update.loop" = true := by decide +kernel
variable {I : Addr} {fp wr : List Addr} {n : Nat} {P : Nat -> Value -> Prop} {St : Nat -> Heap -> Prop}
noncomputable def PutsAt (prog : Program) (w : World) (A : Around) (d : Addr) (n : Nat) (P : Nat -> Value -> Prop) (DK : Nat -> Heap -> Prop) : Prop :=
  ∀ (i : Nat) (v : Value) (s : Shared), i < n -> P i v -> DK i s.heap -> ∃ (a : Addr) (o : Obj) (xs : Array Value) (m : Nat) (k x : Value), v = .ref a /\ s.heap.get? a = some o /\ o.cls = .type "tuple" /\ o.data = .seq xs m /\ xs.toList = [k, x] /\
    ∀ (Q : Unit -> Shared -> Prop) (E : Value -> Shared -> Prop), (∀ h' tk, DK (i + 1) h' -> Heap.SameBut d s.heap h' -> Q () { s with heap := h', toks := tk }) -> wpAny (model prog w) A (dictSet d k x) Q E s
theorem codeAny_update_loop {R : Result -> Shared -> Prop} {DK : Nat -> Heap -> Prop} (W : Walks prog w A.in1 I fp wr n P St) (d : Addr) (hdf : d ∉ fp) (hfr : ∀ i h h', DK i h -> (∀ b o, b ∉ wr -> h.get? b = some o -> h'.get? b = some o) -> DK i h') (put : PutsAt prog w A.in1 d n P DK) (res : Value) :
    ∀ (k i : Nat) (t : Tok) (s : Shared), n - i = k -> i <= n -> St i s.heap -> DK i s.heap ->
    (∀ h' tk, DK n h' -> (∀ b o, b ∉ d :: wr -> s.heap.get? b = some o -> h'.get? b = some o) -> R (.ok (.ret res)) { s with heap := h', toks := tk }) ->
    codeAny (model prog w) A (.builtin "dict.update.loop" ⟨[.ref d, .ref I, .int i t, res], []⟩) R s := by
  have hdw : d ∉ wr := fun h => hdf (W.sub _ h)
  intro k
  induction k with
  | zero =>
    intro i t s hk hi hst hD hR
    have hin : i = n := by lia
    subst hin
    refine codeAny_builtin entry_update_loop ?_
    rw [Around.under_plainId plain_update_loop _]
    show wpAny _ A.in1 (pyNext (.ref I) >>= _) _ _ s
    refine wpAny_bind (W.done s _ _ hst fun h' tk hm => ?_)
    dsimp only
    unfold Builtin.Dict.addKeywords
    refine wpAny_bind (wpAny_pure ?_)
    exact wpAny_pure (hR h' tk (hfr _ _ _ hD hm) fun b o hb e => hm b o (fun z => hb (List.mem_cons_of_mem _ z)) e)
  | succ k ih =>
    intro i t s hk hi hst hD hR
    have hlt : i < n := by lia
    refine codeAny_builtin entry_update_loop ?_
    rw [Around.under_plainId plain_update_loop _]
    show wpAny _ A.in1 (pyNext (.ref I) >>= _) _ _ s
    refine wpAny_bind (W.item i s _ _ hlt hst fun v h' tk hP hst' hm => ?_)
    dsimp only
    obtain ⟨a, o, xs, m, ky, x, rfl, ho, hc, hdat, hxs, hput⟩ := put i v { s with heap := h', toks := tk } hlt hP (hfr _ _ _ hD hm)
    refine wpAny_bind (wpAny_holding (wpAny_bind (wpAny_tryCatch ?_)))
    unfold Builtin.Dict.pairItems
    refine wpAny_bind (wpAny_typeOf (T := "tuple") ⟨o, ho, hc⟩ ?_)
    rw [if_pos (by decide)]
    refine wpAny_bind (wpAny_seqItems ho hdat (wpAny_pure ?_))
    dsimp only [Option.getD_some]
    rw [hxs]
    dsimp only
    refine wpAny_holding (hput _ _ fun h'' tk' hD' hs => ?_)
    refine wpAny_pure ⟨plainId_quiet plain_update_loop _, ?_⟩
    have := ih (i + 1) 0 { s with heap := h'', toks := tk' } (by lia) hlt (W.frame _ _ _ hst' fun b hb o e => (hs.2 b (fun z => hdf (z ▸ hb))).trans e) hD' (fun h3 tk3 hD3 hk3 => hR h3 tk3 hD3 fun b o hb e => hk3 b o hb ((hs.2 b (fun z => hb (by simp [z]))).trans (hm b o (fun z => hb (List.mem_cons_of_mem _ z)) e)))
    exact this
end
end L2
end
section
namespace L2
open PySem PySem.Spec PyProof.Rows PySem.W
open Classical in
section
variable {P : Program} {w : World} {H : Hp}
end
end L2
end
section
namespace L2
open PySem PySem.Spec PyProof.Rows PySem.W
structure PSrc (prog : Program) (w : World) (T : String) (r : Addr) (n : Nat) (P : Nat -> Value -> Prop) (OK : Heap -> Prop) : Prop where
  type : ∀ s : Shared, OK s.heap -> s.TypeIs (.ref r) T
  there : ∀ h : Heap, OK h -> r < h.objs.size
  keep : ∀ h h' : Heap, OK h -> (∀ o, h.get? r = some o -> h'.get? r = some o) -> OK h'
  notDict : (Value.type T != Value.type "dict") = true
  noKeys : ∀ (A : Around) (E : Value -> Shared -> Prop) (s : Shared) (Q : Option Value -> Shared -> Prop), A.handled = none -> OK s.heap -> (∀ h' tk, (∀ b o, s.heap.get? b = some o -> h'.get? b = some o) -> Q none { s with heap := h', toks := tk }) -> wpAny (model prog w) A (getAttr? (.ref r) "keys") Q E s
  iter : ∀ (A : Around) (s : Shared), A.handled = none -> OK s.heap -> ∃ (oI : Obj) (St : Nat -> Heap -> Prop),
    (∀ (E : Value -> Shared -> Prop) (Q : Value -> Shared -> Prop), Q (.ref s.heap.objs.size) { s with heap := s.heap.push oI } -> wpAny (model prog w) A (pyIter (.ref r)) Q E s) /\
    Walks prog w A s.heap.objs.size [s.heap.objs.size, r] [s.heap.objs.size] n P St /\ St 0 (s.heap.push oI)
section
variable {prog : Program} {w : World} {A : Around} {E : Value -> Shared -> Prop} {s : Shared} {T : String} {r : Addr} {n : Nat} {P : Nat -> Value -> Prop} {OK : Heap -> Prop}
theorem psrc_list {k : Nat} {its : Array Value} : PSrc prog w "list" r its.size (fun i v => its[i]? = some v) (fun h => h.get? r = some { cls := .type "list", data := .seq its k }) where
  type := fun s h => ⟨_, h, rfl⟩
  there := fun h e => Heap.lt_size e
  keep := fun h h' e k => k _ e
  notDict := by decide
  noKeys := fun A E s Q hA e q => noKeys_list e rfl rfl rfl hA q
  iter := fun A s hA e => by
    have hl : s.heap.IsList r its := ⟨_, e, rfl, k, rfl⟩
    have ne : r ≠ s.heap.objs.size := Nat.ne_of_lt (Heap.lt_size e)
    exact ⟨_, _, fun _ _ q => wpAny_pyIter_list hl q, Walks.list hA s.heap.objs.size r ne its, ⟨⟨_, Heap.get?_push_size _ rfl, rfl, rfl⟩, hl.push _⟩⟩
theorem psrc_tup {its : Array Value} : PSrc prog w "tuple" r its.size (fun i v => its[i]? = some v) (fun h => ∃ o k, h.get? r = some o /\ o.cls = .type "tuple" /\ o.data = .seq its k /\ o.dict = none) where
  type := fun s ⟨o, k, h, c, _⟩ => ⟨_, h, c⟩
  there := fun h ⟨o, k, e, _⟩ => Heap.lt_size e
  keep := fun h h' ⟨o, k, e, c⟩ q => ⟨o, k, q _ e, c⟩
  notDict := by decide
  noKeys := fun A E s Q hA ⟨o, k, e, c, d, z⟩ q => noKeys_tuple e c d z hA q
  iter := fun A s hA ⟨o, k, e, c, d, z⟩ => by
    have hl : s.heap.IsTuple r its := ⟨o, e, c, k, d⟩
    have ne : r ≠ s.heap.objs.size := Nat.ne_of_lt (Heap.lt_size e)
    exact ⟨_, _, fun _ _ q => wpAny_pyIter_tuple hl q, Walks.tuple hA s.heap.objs.size r ne its, ⟨⟨_, Heap.get?_push_size _ rfl, rfl, rfl⟩, hl.push _⟩⟩
theorem call_dictP {DK : Nat -> Heap -> Prop} {Q : Value -> Shared -> Prop} (K : PSrc prog w T r n P OK) (hA : A.handled = none) (hok : OK s.heap) (d0 : DK 0 (s.heap.push { cls := .type "dict", data := .dict #[] }))
    (hfr : ∀ i h h' (it : Addr), s.heap.objs.size < it -> DK i h -> (∀ b o, b ≠ it -> h.get? b = some o -> h'.get? b = some o) -> DK i h') (put : ∀ A' : Around, A'.units <= A.units + 5 -> PutsAt prog w A' s.heap.objs.size n P DK)
    (h : ∀ h' tk, DK n h' -> (∀ b o, s.heap.get? b = some o -> h'.get? b = some o) -> Q (.ref s.heap.objs.size) { s with heap := h', toks := tk }) : wpAny (model prog w) A (call (.type "dict") [.ref r]) Q E s := by
  refine callType_codes (Q₁ := fun obj s₁ => obj = .ref s.heap.objs.size /\ s₁ = { s with heap := s.heap.push { cls := .type "dict", data := .dict #[] } }) F.kt_called_dict (F.kt_typeCall_dict_1 _) F.entry_dict_init (kt_code_dict_new _ ⟨rfl, rfl⟩) ?_
  rintro obj s₁ ⟨rfl, rfl⟩
  have k1 : ∀ b o, s.heap.get? b = some o -> (s.heap.push { cls := .type "dict", data := .dict #[] }).get? b = some o := fun b o e => Heap.get?_push_of_some _ e
  have ok1 : OK (s.heap.push { cls := .type "dict", data := .dict #[] }) := K.keep _ _ hok fun o e => k1 _ o e
  have hT0 : (Shared.TypeIs { s with heap := s.heap.push { cls := .type "dict", data := .dict #[] } } (.ref s.heap.objs.size) "dict") := ⟨_, Heap.get?_push_size _ rfl, rfl⟩
  refine ⟨hT0, F.args_dict_init_2 _ _, ?_⟩
  unfold Builtin.«dict.__init__»
  refine wpAny_bind ?_
  unfold Builtin.Dict.selfAndRest
  refine wpAny_bind (wpAny_notOrdered_dict hT0 ?_)
  show wpAny _ _ (pure (s.heap.objs.size, [Value.ref r])) _ _ _
  refine wpAny_pure ?_
  show wpAny _ _ (Builtin.Dict.updateFrom "dict.__init__" s.heap.objs.size (.ref r) [] .none) _ _ _
  unfold Builtin.Dict.updateFrom
  refine wpAny_bind (wpAny_typeOf (K.type _ ok1) ?_)
  rw [if_pos K.notDict]
  refine wpAny_bind (K.noKeys A.in1.in1 _ { s with heap := s.heap.push { cls := .type "dict", data := .dict #[] } } _ hA ok1 fun h2 tk2 k2 => ?_)
  simp only [Option.isNone_none, if_true]
  refine wpAny_bind (wpAny_rule ?_)
  have ok2 : OK h2 := K.keep _ _ ok1 fun o e => k2 _ o e
  obtain ⟨oI, St, hit, W, st⟩ := K.iter A.in1.in1 { s with heap := h2, toks := tk2 } hA ok2
  have lt2 : s.heap.objs.size < h2.objs.size := Heap.lt_size (k2 _ _ (Heap.get?_push_size _ rfl))
  refine wpAny_bind (hit _ _ ?_)
  have hr : r < s.heap.objs.size := K.there _ hok
  have loop := codeAny_update_loop (A := A.in1) (R := wants (fun r' s₂ => r' = .none /\ Q (.ref s.heap.objs.size) s₂) E) (DK := DK) W s.heap.objs.size (by
      simp only [List.mem_cons, List.not_mem_nil, or_false, not_or]
      exact ⟨Nat.ne_of_lt lt2, Nat.ne_of_gt hr⟩)
    (fun i h h' x k => hfr i h h' h2.objs.size lt2 x fun b o hb e => k b o (by simpa using hb) e) (put _ (by show A.units + 1 + 1 <= _; lia)) .none n 0 0 { s with heap := h2.push oI, toks := tk2 } rfl (Nat.zero_le _) st
    (hfr 0 _ _ h2.objs.size lt2 d0 fun b o _ e => Heap.get?_push_of_some _ (k2 b o e)) (fun h' tk hD hk => ⟨rfl, h h' tk hD fun b o e => hk b o (by
      have hb := Heap.lt_size e
      simp only [List.mem_cons, List.not_mem_nil, or_false, not_or]
      exact ⟨Nat.ne_of_lt hb, Nat.ne_of_lt (Nat.lt_trans hb lt2)⟩) (Heap.get?_push_of_some _ (k2 b o (k1 b o e)))⟩)
  first
    | exact wpAny_pure ⟨plainId_quiet plain_update_loop _, loop⟩
    | exact wpAny_pure (wpAny_pure ⟨plainId_quiet plain_update_loop _, loop⟩)
    | exact wpAny_bind (wpAny_pure (wpAny_pure ⟨plainId_quiet plain_update_loop _, loop⟩))
end
end L2
end
section
namespace L2
open PySem PySem.Spec PyProof.Rows PySem.W
noncomputable def mergeG {κ : Type} [DecidableEq κ] (kvs more : List (κ × V)) : List (κ × V) := more.foldl (fun acc kv => putK acc kv.1 kv.2) kvs
theorem mergeG_len {κ : Type} [DecidableEq κ] : ∀ (more kvs : List (κ × V)), (mergeG kvs more).length <= kvs.length + more.length
  | [], kvs => by simp [mergeG]
  | p :: more, kvs => by
    have h1 := mergeG_len more (putK kvs p.1 p.2)
    have h2 := length_putK kvs p.1 p.2
    have e : mergeG kvs (p :: more) = mergeG (putK kvs p.1 p.2) more := rfl
    rw [e, List.length_cons]
    lia
theorem mergeG_take {κ : Type} [DecidableEq κ] {kvs : List (κ × V)} {i : Nat} {p : κ × V} (h : kvs[i]? = some p) : mergeG [] (kvs.take (i + 1)) = putK (mergeG [] (kvs.take i)) p.1 p.2 := by
  rw [List.take_add_one, h]
  unfold mergeG
  rw [List.foldl_append]
  rfl
noncomputable def PairsK (H : Hp) : List (Key × V) -> List V -> Prop := Paired fun kv x => ∃ a, x = .ref a /\ H a = some (.tup [kV kv.1, kv.2])
theorem paired_get {α β : Type} {F : α -> β -> Prop} : ∀ {l : List α} {m : List β} {i : Nat} {b : β}, Paired F l m -> m[i]? = some b -> ∃ a, l[i]? = some a /\ F a b
  | _, _, _, _, .nil, e => by simp at e
  | _, _, 0, _, .cons r _, e => by simp at e; subst e; exact ⟨_, rfl, r⟩
  | _, _, i + 1, _, .cons _ t, e => by
    obtain ⟨a, h1, h2⟩ := paired_get (i := i) t (by simpa using e)
    exact ⟨a, by simpa using h1, h2⟩
section
variable {X : Cx}
noncomputable def SqA (H : Hp) (r : Addr) (xs : List V) : Prop := H r = some (.lst xs) \/ H r = some (.tup xs)
theorem sqA_src {pins : List (Addr × Obj)} {s : Shared} {σ : St} {H : Hp} {r : Addr} {xs : List V} (I : Inv X pins σ H s) (h : SqA H r xs) : ∃ (T : String) (its : List Value) (OK : Heap -> Prop), Vals xs its /\ xs.length <= sizeLine /\ OK s.heap /\ PSrc X.prog X.w T r its.toArray.size (fun i v => its.toArray[i]? = some v) OK := by
  rcases h with h | h
  · obtain ⟨z, its, n, rv, ho⟩ := I.hok r _ h
    exact ⟨_, its, _, rv, z, ho, psrc_list (k := n)⟩
  · obtain ⟨z, its, rv, o, ho, hc, n, hd⟩ := I.hok r _ h
    exact ⟨_, its, _, rv, z.1, ⟨o, n, ho, hc, hd, z.2 o ho⟩, psrc_tup⟩
noncomputable def rDictK : List V -> Hp -> VK -> Prop := fun ws H Q => ∃ (r : Addr) (xs : List V) (kvs : List (Key × V)), ws = [.ref r] /\ SqA H r xs /\ PairsK H kvs xs /\ ∀ p, H p = none -> Q (.ref p) (upd H p (.dK (mergeG [] kvs)))
theorem call_dictK (hc : X.calm = true) : CallR X (.type "dict") rDictK := by
  intro pins s σ H ws us Q I r h
  obtain ⟨a, xs, kvs, rfl, ha, hp, q⟩ := h
  obtain ⟨u, rfl, ru⟩ := r.one
  cases ru
  have hh := I.ok.hd hc
  obtain ⟨T, its, OK, rv, hz, hok, S⟩ := sqA_src I ha
  have fr : H s.heap.objs.size = none := I.hok.fresh (Nat.le_refl _)
  have lk : kvs.length = xs.length := Paired.length hp
  refine call_dictP (DK := fun i h => HOk X.prog X.w H h /\ ∃ vs, KV (mergeG [] (kvs.take i)) vs /\ h.DictOf (mixKind X.prog X.w) s.heap.objs.size vs) S hh hok ⟨I.hok.kept fun b o e => Heap.get?_push_of_some _ e, [], .nil, Heap.DictOf.new _⟩ (fun i h h' it hit x k => ?_) (fun A' hA' i v s' hi hP hD => ?_) fun h' tk hD keep => ?_
  · obtain ⟨ok, vs, rel, o, es, ep, e, rest⟩ := x
    exact ⟨ok.but (I.hok.fresh (Nat.le_of_lt hit)) k, vs, rel, o, es, ep, k _ _ (Nat.ne_of_lt hit) e, rest⟩
  · obtain ⟨ok, vs, rel, dd⟩ := hD
    have e1 : its[i]? = some v := by simpa using hP
    obtain ⟨x, x1, x2⟩ := vals_get rv e1
    obtain ⟨kv, k1, b, rfl, k3⟩ := paired_get hp x1
    cases x2
    obtain ⟨_, its2, r2, o, ho, hcl, n, hd⟩ := ok b _ k3
    cases r2 with
    | @cons _ uk _ _ rk r3 =>
    cases r3 with
    | @cons _ ux _ _ rx r4 =>
    cases r4
    refine ⟨b, o, _, n, uk, ux, rfl, ho, hcl, hd, rfl, fun Q E hq => ?_⟩
    have hv : vs.length <= sizeLine := by
      rw [<- rel.length]
      have := mergeG_len (kvs.take i) ([] : List (Key × V))
      rw [List.length_take, List.length_nil] at this
      lia
    refine wpAny_dictSet_pairs (hsz := hv) (kV_is rk) dd fun h2 dd2 sb => hq _ _ ⟨ok.but fr fun b o hb e => sb.extBut b o hb e, _, ?_, dd2⟩ sb
    rw [mergeG_take k1]
    exact rel.put kv.1 rx
  · obtain ⟨ok, vs, rel, dd⟩ := hD
    have ls : its.toArray.size = kvs.length := by rw [List.size_toArray, <- rv.length, lk]
    rw [ls, List.take_length] at rel
    have big : (s.heap.objs.size == sysModules) = false := by
      have := I.big
      simp only [beq_eq_false_iff_ne]
      exact Nat.ne_of_gt this
    have hl : (mergeG [] kvs).length <= sizeLine := by
      have := mergeG_len kvs ([] : List (Key × V))
      rw [List.length_nil] at this
      lia
    exact ⟨.ref s.heap.objs.size, _, I.laid (t' := tk) (o := .dK (mergeG [] kvs)) keep (Nat.le_refl _) ⟨hl, big, vs, rel, dd⟩, rfl, q _ fr⟩
end
end L2
end
section
namespace L2
open PySem PySem.Spec PyProof.Rows PySem.W
open Kn (krun)
noncomputable def ItemsV (v d : Addr) : Heap -> Prop := fun h => h.IsItemsView v d
theorem itemsV_ok {P : Program} {w : World} {H : Hp} {h : Heap} {v d : Addr} (x : h.IsItemsView v d) : ObjOk P w H h v (.ext (ItemsV v d)) :=
  ⟨x, let ⟨o, ho, _⟩ := x; ⟨o, ho⟩, fun h1 h2 ⟨o, ho, c⟩ k => ⟨o, k _ ho, c⟩⟩
section
variable {X : Cx}
noncomputable def rItems : V -> List V -> Hp -> VK -> Prop := fun x vs H Q => ∃ d kvs, x = .ref d /\ vs = [] /\ H d = some (.dK kvs) /\ ∀ p, H p = none -> Q (.ref p) (upd H p (.ext (ItemsV p d)))
theorem mt_items : MtR X "dict.items" rItems := by
  intro pins s σ H x xs v us Q I rx rxs h
  obtain ⟨d, kvs, rfl, rfl, hd, q⟩ := h
  cases rx
  cases rxs
  obtain ⟨z, lo, vs, rel, dd⟩ := dk_of I.hok hd
  refine call_meetsIn PySem.F.slot_dict_items dd.typeIs PySem.F.entry_dict_items (PySem.F.args_dict_items_1 _) (meets_dict_items (mixKind X.prog X.w) d lo) ⟨⟨vs, dd⟩, ?_⟩
  have fr : H s.heap.objs.size = none := I.hok.fresh (Nat.le_refl _)
  exact ⟨.ref s.heap.objs.size, _, I.laid (t' := s.toks) (o := .ext (ItemsV s.heap.objs.size d)) (fun b o e => Heap.get?_push_of_some _ e) (Nat.le_refl _) (itemsV_ok ⟨_, Heap.get?_push_size _ rfl, rfl, rfl⟩), rfl, q _ fr⟩
theorem relV_key {P : Program} {w : World} {k : Key} {u : Value} (h : (mixKind P w).is k u = true) : RelV (kV k) u := by
  rcases keyIs_shape (k := k) (v := u) h with ⟨i, t, rfl, rfl⟩ | ⟨x, t, rfl, rfl⟩
  · exact ⟨t, rfl⟩
  · exact ⟨t, rfl⟩
noncomputable def kD : Key -> Dt
  | .inl i => .int i
  | .inr x => .str x
theorem isDt_key {H : Hp} (k : Key) : IsDt H (kD k) (kV k) := by
  cases k with
  | inl i => exact isDt_int i
  | inr x => exact isDt_str x
noncomputable def addT (H : Hp) (m : List (Addr × (Key × V))) : Hp := fun b => match m.lookup b with | some kv => some (.tup [kV kv.1, kv.2]) | none => H b
theorem lookup_zip : ∀ {as : List Addr} {kvs : List (Key × V)} {b : Addr} {kv : Key × V}, (as.zip kvs).lookup b = some kv -> ∃ j : Nat, as[j]? = some b /\ kvs[j]? = some kv
  | [], _, _, _, h => by simp at h
  | _ :: _, [], _, _, h => by simp at h
  | a :: as, k :: kvs, b, kv, h => by
    rw [List.zip_cons_cons, List.lookup_cons] at h
    by_cases e : b = a
    · subst e
      simp at h
      exact ⟨0, rfl, by simp [h]⟩
    · have : (b == a) = false := by simpa using e
      rw [this] at h
      obtain ⟨j, h1, h2⟩ := lookup_zip (as := as) (kvs := kvs) h
      exact ⟨j + 1, by simpa using h1, by simpa using h2⟩
theorem lookup_get : ∀ {as : List Addr} {kvs : List (Key × V)} {j : Nat} {b : Addr} {kv : Key × V}, as.Nodup -> as[j]? = some b -> kvs[j]? = some kv -> (as.zip kvs).lookup b = some kv
  | [], _, _, _, _, _, h, _ => by simp at h
  | _ :: _, [], _, _, _, _, _, h => by simp at h
  | a :: as, k :: kvs, 0, b, kv, _, h, h' => by
    simp at h h'
    subst h h'
    rw [List.zip_cons_cons, List.lookup_cons]
    simp
  | a :: as, k :: kvs, j + 1, b, kv, nd, h, h' => by
    rw [List.nodup_cons] at nd
    have hb : b ∈ as := List.mem_of_getElem? (by simpa using h)
    have ne : b ≠ a := fun z => nd.1 (z ▸ hb)
    rw [List.zip_cons_cons, List.lookup_cons]
    have : (b == a) = false := by simpa using ne
    rw [this]
    exact lookup_get nd.2 (by simpa using h) (by simpa using h')
noncomputable def rSortI : List V -> Hp -> VK -> Prop := fun ws H Q => ∃ (v d : Addr) (kvs : List (Key × V)) (es : List Dt) (T : String), ws = [.ref v] /\ H v = some (.ext (ItemsV v d)) /\ H d = some (.dK kvs) /\ IsDts H es (kvs.map (·.2)) /\ Sortable T ((kvs.zip es).map fun p => [kD p.1.1, p.2]) /\ kvs.length < 64 /\
  ∀ (a : Addr) (H' : Hp) (bs : List V) (p : List Nat), H a = none -> (∀ b u, H b = some u -> H' b = some u) -> H' a = some (.lst bs) -> p.Perm (List.range kvs.length) -> (2 <= kvs.length -> p = (krun (ltB ((kvs.zip es).map fun p => [kD p.1.1, p.2])) (kas_sort kvs.length)).toList) -> (kvs.length < 2 -> p = List.range kvs.length) ->
    IsDts H' ((p.map fun i => ((kvs.zip es).map fun p => [kD p.1.1, p.2]).getD i []).map Dt.tup) bs -> Q (.ref a) H'
theorem isDts_perm {H : Hp} {ds : List (List Dt)} {bs : List V} (h : IsDts H (ds.map Dt.tup) bs) : ∀ (p : List Nat), (∀ i ∈ p, i < ds.length) -> IsDts H ((p.map fun i => ds.getD i []).map Dt.tup) (p.map fun i => bs.getD i V.non)
  | [], _ => .nil
  | i :: p, hp => by
    have hi : i < ds.length := hp i List.mem_cons_self
    refine .cons ?_ (isDts_perm h p fun j hj => hp j (List.mem_cons_of_mem _ hj))
    obtain ⟨y, e1, e2⟩ := h.get (i := i) (d := .tup ds[i]) (by rw [List.getElem?_map, List.getElem?_eq_getElem hi]; rfl)
    show IsDt H (Dt.tup (ds.getD i [])) (bs.getD i V.non)
    rw [List.getD_eq_getElem?_getD, List.getElem?_eq_getElem hi, List.getD_eq_getElem?_getD, e1]
    exact e2
theorem call_sortI (hc : X.calm = true) (hu : X.A.units + 110 < cLine) : CallR X (.builtin "sorted") rSortI := by
  intro pins s σ H ws us Q I r h
  obtain ⟨v, d, kvs, es, T, rfl, hv, hd, hD, so, h64, q⟩ := h
  obtain ⟨u, rfl, ru⟩ := r.one
  cases ru
  have hh := I.ok.hd hc
  obtain ⟨z, lo, vs, rel, o, ets, ep, e1, e2, e3, e4⟩ := dk_of I.hok hd
  obtain ⟨iv, _⟩ := (show ObjOk X.prog X.w H s.heap v (.ext (ItemsV v d)) from I.hok v _ hv)
  refine Calls.call_function_entry kind_sorted plain_sorted entry_sorted (args_sorted1 _) ?_
  unfold Builtin.«sorted»
  refine wpAny_bind (m := checkCount "sorted" 1 1 _) (wpAny_pure ?_)
  refine wpAny_bind (kdx_collect (knd := mixKind X.prog X.w) (A := X.A.in1) hh iv ⟨o, ets, e1, e2, e3, e4⟩ (by rw [<- rel.length]; exact z) fun h' tk as keep la G => ?_)
  have nd : as.Nodup := G.rise.imp fun h => Nat.ne_of_lt h
  have fr : ∀ a ∈ as, H a = none := fun a ha => I.hok.fresh (Nat.le_of_lt (G.above a ha))
  have ll : as.length = kvs.length := by rw [la, rel.length]
  have old : ∀ b u, H b = some u -> addT H (as.zip kvs) b = some u := fun b u e => by
    unfold addT
    cases hl : (as.zip kvs).lookup b with
    | none => exact e
    | some kv =>
      obtain ⟨j, j1, _⟩ := lookup_zip hl
      rw [fr b (List.mem_of_getElem? j1)] at e
      cases e
  have un : Un X.fs [] H (addT H (as.zip kvs)) s.heap h' := {
    keep := fun b o' q n _ _ => keep b o' q
    slot := fun b o' q n _ _ => ⟨o'.slots, keep b o' q⟩
    free := fun b o' q n _ => by
      unfold addT
      cases hl : (as.zip kvs).lookup b with
      | none => exact n
      | some kv =>
        obtain ⟨j, j1, _⟩ := lookup_zip hl
        have := G.above b (List.mem_of_getElem? j1)
        exact absurd (Nat.lt_trans this (Heap.lt_size q)) (Nat.lt_irrefl _)
    there := fun b o' q _ => ⟨o', keep b o' q⟩
    tups := fun b xs e => old b _ e
    frzs := fun b o' u e => old b _ e
    tbls := fun b ps e => ⟨#[], by simpa using old b _ e⟩ }
  have newT : ∀ (j : Nat) (b : Addr) (kv : Key × V), as[j]? = some b -> kvs[j]? = some kv -> ∃ its : List Value, Vals [kV kv.1, kv.2] its /\ h'.get? b = some { cls := .type "tuple", data := .seq its.toArray } := fun j b kv j1 j2 => by
    obtain ⟨key, k, x, g1, g2, g3⟩ := G.pairs j b j1
    obtain ⟨kv', p1, p2, p3⟩ := paired_get (l := kvs) (m := vs) rel g1
    rw [j2] at p1
    cases p1
    refine ⟨[key, x], .cons ?_ (.cons p3 .nil), g3⟩
    rw [p2]
    exact relV_key g2
  have ok : HOk X.prog X.w (addT H (as.zip kvs)) h' := fun b u e => by
    unfold addT at e
    cases hl : (as.zip kvs).lookup b with
    | none =>
      rw [hl] at e
      exact (I.hok b u e).stay (fun c v _ q => keep c v q) (fun c q => old c _ q) fun c xs q => old c _ q
    | some kv =>
      rw [hl] at e
      cases e
      obtain ⟨j, j1, j2⟩ := lookup_zip hl
      obtain ⟨its, r1, g3⟩ := newT j b kv j1 j2
      exact ⟨tupD_at (by show 2 <= sizeLine; decide) g3 rfl, its, r1, ⟨_, g3, rfl, 0, rfl⟩⟩
  have I2 : Inv X pins σ (addT H (as.zip kvs)) { s with heap := h', toks := tk } := I.un un ok
  have tp : Tups H (addT H (as.zip kvs)) := fun b xs e => old b _ e
  have lzip : ((kvs.zip es).map fun p => [kD p.1.1, p.2]).length = kvs.length := by
    rw [List.length_map, List.length_zip]
    have := hD.length
    rw [List.length_map] at this
    lia
  have isd : IsDts (addT H (as.zip kvs)) (((kvs.zip es).map fun p => [kD p.1.1, p.2]).map Dt.tup) (as.map V.ref) := by
    have gen : ∀ (ks : List (Key × V)) (fs : List Dt) (bs : List Addr), IsDts H fs (ks.map (·.2)) -> bs.length = ks.length -> (∀ (j : Nat) b kv, bs[j]? = some b -> ks[j]? = some kv -> addT H (as.zip kvs) b = some (.tup [kV kv.1, kv.2])) -> IsDts (addT H (as.zip kvs)) (((ks.zip fs).map fun p => [kD p.1.1, p.2]).map Dt.tup) (bs.map V.ref) := by
      intro ks
      induction ks with
      | nil =>
        intro fs bs h1 h2 h3
        have : bs = [] := List.length_eq_zero_iff.mp h2
        subst this
        exact .nil
      | cons k ks ih =>
        intro fs bs h1 h2 h3
        cases bs with
        | nil => simp at h2
        | cons b bs =>
          cases fs with
          | nil => rw [IsDts] at h1; simp at h1
          | cons f fs =>
            rw [IsDts] at h1
            obtain ⟨y, ys, e, i1, i2⟩ := h1
            rw [List.map_cons] at e
            cases e
            rw [List.zip_cons_cons, List.map_cons, List.map_cons, List.map_cons]
            refine .cons (isDt_tup (h3 0 b k rfl rfl) (.cons (isDt_key _) (.one (i1.mono tp)))) (ih fs bs i2 (by simpa using h2) fun j b' kv' q1 q2 => h3 (j + 1) b' kv' (by simpa using q1) (by simpa using q2))
    refine gen kvs es as hD ll fun j b kv j1 j2 => ?_
    unfold addT
    rw [lookup_get nd j1 j2]
  have rv : Vals (as.map V.ref) (as.map Value.ref) := by
    clear nd fr ll old un newT ok I2 tp lzip isd la G
    induction as with
    | nil => exact .nil
    | cons a as ih => exact .cons rfl ih
  refine sortD_tail (A := X.A.in1) (T := T) (by show X.A.units + 1 + 70 < cLine; lia) I2 rv isd so (by rw [lzip]; exact h64) fun a p ha p1 p2 p3 => ?_
  rw [lzip] at p1 p2 p3
  have haH : H a = none := by
    cases e : H a with
    | none => rfl
    | some u => rw [old a u e] at ha; cases ha
  refine q a _ _ p haH (fun b u e => ?_) upd_same p1 p2 p3 ((isDts_perm isd p fun i hi => ?_).mono (Tups.new ha _))
  · rw [upd_ne (fun z => by subst z; rw [haH] at e; cases e)]
    exact old b u e
  · rw [lzip]
    have := p1.mem_iff.mp hi
    simpa using this
end
end L2
end
section
namespace L2
open PySem PySem.Spec PyProof.Rows PySem.W
section
variable {X : Cx}
end
end L2
end
section
namespace L2
open PySem PySem.Spec PyProof.Rows
theorem _root_.PySem.Draws.tuple {prog : Program} {w : World} {A : Around} (hh : A.handled = none) (it l : Addr) (hne : l ≠ it) (items : Array Value) :
    Draws prog w A it [it, l] items.size (fun i v => items[i]? = some v) (fun i h => h.IsTupleIter it l i /\ h.IsTuple l items) where
  live := fun _ _ st => let ⟨o, ho, _⟩ := st.1; ⟨o, ho⟩
  frame := fun _ _ _ st hk => ⟨st.1.at fun o e => hk it (by simp) o e, st.2.at fun o e => hk l (by simp) o e⟩
  item := fun i s Q E hi st hQ => by
    refine nextOf_tup st.1 st.2 (x := items[i]) (by simp [hi]) fun h' hit' hs' => ?_
    exact hQ _ h' s.toks (by simp [hi]) ⟨hit', st.2.extBut hs'.extBut hne⟩ hs'
  done := fun s Q E st hE => nextOf_tup_end hh st.1 st.2 (by simp) hE
section
open AutoSeq1 (wpAny_loadPart')
theorem meets_enumerate_newT (l : Addr) (items : Array Value) (n : Nat) (dct : Option Addr) (sl : Array (Option Value)) :
    Meets (Builtin.«enumerate.__new__» ⟨[.type "enumerate", .ref l], []⟩) (fun _ R s => s.heap.get? l = some { cls := .type "tuple", dict := dct, data := .seq items n, slots := sl } /\
      R (.ok (.ret (.ref (s.heap.push { cls := .type "tuple_iterator", data := .fields #[.ref l, .int 0 0] }).objs.size)))
        { s with heap := (s.heap.push { cls := .type "tuple_iterator", data := .fields #[.ref l, .int 0 0] }).push { cls := .type "enumerate", data := .fields #[.none, .bool false, .ref s.heap.objs.size, rawInt 0, .none, .none] } }) :=
  .of_wp fun prog w A R s h => by
    obtain ⟨hp, g, d, tk, os⟩ := s; obtain ⟨hl, h⟩ := h
    have hsub := sub_enumerate
    have hL : Heap.IsTuple (Shared.heap ⟨hp, g, d, tk, os⟩) l items := ⟨_, hl, rfl, n, rfl⟩
    wp_walk using wpAny_loadPart' hl
    refine wpAny_stack_any fun st => wpAny_pure ?_
    split
    · rename_i c _ _ _ _ _
      cases (c == Value.type "enumerate")
      · wp_walk using wpAny_loadPart' hl, wpAny_pyIter_tuple hL
        exact ⟨_, rfl, h⟩
      · wp_walk using wpAny_loadPart' hl, wpAny_pyIter_tuple hL
        exact ⟨_, rfl, h⟩
    · wp_walk using wpAny_loadPart' hl, wpAny_pyIter_tuple hL
      exact ⟨_, rfl, h⟩
end
section
variable {prog : Program} {w : World} {A : Around} {E : Value -> Shared -> Prop} {s : Shared}
theorem call_enumerate_tuple {l : Addr} {items : Array Value} {Q : Value -> Shared -> Prop} (hL : IsTup s.heap l items)
    (h : ∀ h', IsEnum h' (s.heap.objs.size + 1) s.heap.objs.size 0 .none -> h'.IsTupleIter s.heap.objs.size l 0 -> h'.objs.size = s.heap.objs.size + 2 ->
      (∀ b o, s.heap.get? b = some o -> h'.get? b = some o) -> Q (.ref (s.heap.objs.size + 1)) { s with heap := h' }) :
    wpAny (model prog w) A (call (.type "enumerate") [.ref l]) Q E s := by
  obtain ⟨⟨c, dct, dt, sl⟩, hl, hc, n, hd⟩ := hL
  replace hc : c = .type "tuple" := hc
  replace hd : dt = .seq items n := hd
  subst hc hd
  refine callType_new F.called_enumerate (by decide) (F.typeCall_enumerate_1 _) (F.newCall_enumerate_1 _) (fun obj => F.args_object_init_2 obj _) F.entry_enumerate_new
    (meets_enumerate_newT l items n dct sl) ⟨hl, ?_⟩
  have hz : (s.heap.push { cls := .type "tuple_iterator", data := .fields #[.ref l, .int 0 0] }).objs.size = s.heap.objs.size + 1 := Heap.size_push ..
  show _ /\ _
  rw [hz]
  have he : IsEnum ((s.heap.push { cls := .type "tuple_iterator", data := .fields #[.ref l, .int 0 0] }).push
      { cls := .type "enumerate", data := .fields #[.none, .bool false, .ref s.heap.objs.size, rawInt 0, .none, .none] }) (s.heap.objs.size + 1) s.heap.objs.size 0 .none := by
    have := Heap.get?_push_size (s.heap.push { cls := .type "tuple_iterator", data := .fields #[.ref l, .int 0 0] })
      (o := { cls := .type "enumerate", data := .fields #[.none, .bool false, .ref s.heap.objs.size, rawInt 0, .none, .none] }) rfl
    rw [hz] at this; exact this
  refine ⟨⟨_, he, rfl⟩, h _ he ⟨_, Heap.get?_push_of_some _ (Heap.get?_push_size _ rfl), rfl, rfl⟩ (by rw [Heap.size_push, hz]) fun b o x => Heap.get?_push_of_some _ (Heap.get?_push_of_some _ x)⟩
theorem enum_tup_end {e it l : Addr} {i : Nat} {items : Array Value} {old : Value} {Q : Option Value -> Shared -> Prop} (hh : A.handled = none)
    (he : IsEnum s.heap e it i old) (hit : s.heap.IsTupleIter it l i) (hl : s.heap.IsTuple l items) (hx : items[i]? = none)
    (hQ : ∀ h', Heap.ExtBut it s.heap h' -> Q none { s with heap := h' }) : wpAny (model prog w) A (pyNext (.ref e)) Q E s := by
  have hT : s.TypeIs (.ref e) "enumerate" := ⟨_, he, rfl⟩
  unfold pyNext
  refine wpAny_bind (wpAny_attempt (wpAny_callSpecial?_slot (name := Str.ofString "__next__") hT F.slot_enumerate_next
    (wpAny_call_entry F.slot_enumerate_next hT F.entry_enumerate_next ?_ (F.args_enumerate_next_1 _))))
  show wpAny _ _ (field (.ref e) 2 >>= _) _ _ _
  refine wpAny_bind (wpAny_field he rfl (x := .ref it) rfl ?_)
  refine wpAny_bind (nextOf_tup_end hh hit hl hx fun h' x he' hx' => ?_)
  obtain ⟨o, ho, hc⟩ := hx'
  refine wpAny_bind (wpAny_isInstance (T := "StopIteration") (b := true) ⟨o, ho, hc⟩ isSubtype_stop ?_)
  exact wpAny_pure (hQ _ he')
end
noncomputable def IteT (K : PySem.W.Frag) (a : Addr) : It :=
  ⟨fun i H => ∃ xs x, SqT K H a xs /\ xs[i]? = some x,
   fun i H v H' => ∃ p, v = .ref p /\ H p = none /\ ∃ x, (∀ xs, SqT K H a xs -> xs[i]? = some x) /\ H' = upd H p (.tup [.int i, x]),
   fun i H => ∃ xs, SqT K H a xs /\ xs.length <= i⟩
noncomputable def EAtT (h : Heap) (e it a : Addr) (k : Nat) : Prop := (∃ old, IsEnum h e it k old) /\ h.IsTupleIter it a k
theorem turn_enumT {P : Program} {w : World} {K : PySem.W.Frag} {elts : List Expr} {kk : Nat} {tp : Pos} {e it a : Addr} (ne : e ≠ it) :
    Turn P w K (.Tuple elts kk tp) (IteT K a) [e, it] e (fun i h => EAtT h e it a i) where
  mem := by simp
  obj := fun i h st c hc => by
    obtain ⟨⟨old, q1⟩, ⟨o4, q4, _, d4⟩⟩ := st
    simp only [List.mem_cons, List.not_mem_nil, or_false] at hc
    rcases hc with rfl | rfl
    · exact ⟨_, q1, fun v z => by cases z⟩
    · exact ⟨_, q4, fun v z => by rw [d4] at z; cases z⟩
  keep := fun i h h' st k => by
    obtain ⟨⟨old, q1⟩, ⟨o4, q4, r4⟩⟩ := st
    exact ⟨⟨old, k e (by simp) _ q1⟩, ⟨o4, k it (by simp) _ q4, r4⟩⟩
  item := by
    intro X hP hw hK hc i pins s σ H E I hf st hg
    subst hP hw hK
    obtain ⟨xs, x, hq, hx⟩ := hg
    obtain ⟨its, rv, p, hz⟩ := I.tuple hq
    obtain ⟨u, hu, ru⟩ := rv.get hx
    obtain ⟨⟨old, q1⟩, hit⟩ := id st
    have helt : e < s.heap.objs.size := Heap.lt_size q1
    have hilt : it < s.heap.objs.size := by obtain ⟨o, q, _⟩ := hit; exact Heap.lt_size q
    have nta : a ≠ it := fun z => by
      obtain ⟨o1, g1, g2, _⟩ := hit
      obtain ⟨o2, g3, g4, _⟩ := p
      rw [z, g1] at g3
      cases g3
      rw [g2] at g4
      injection g4 with g5
      exact absurd g5 (by decide)
    have nea : e ≠ a := fun z => by
      obtain ⟨o2, g3, g4, _⟩ := p
      rw [<- z, q1] at g3
      cases g3
      have g4' : Value.type "enumerate" = Value.type "tuple" := g4
      injection g4' with g5
      exact absurd g5 (by decide)
    refine wpAny_pyNext_enum_itemD (Draws.tuple (A := X.A.in1) (I.ok.hd hc) it a nta its.toArray) q1 ⟨hit, p⟩ (by have := (List.getElem?_eq_some_iff.mp hu).1; simpa using this) ne (by simp only [List.mem_cons, List.not_mem_nil, or_false, not_or]; exact ⟨ne, nea⟩) fun u' h' tk' hP Z' J'' T' n' keep => ⟨_, rfl, ?_⟩
    obtain rfl : u = u' := by rw [show its.toArray[i]? = some u by simpa using hu] at hP; injection hP
    have J' := J''.1
    refine wpAny_letOwnedTupleGo_enum Z' fun h'' z'' sb => ?_
    have hT : h''.get? s.heap.objs.size = some { cls := .type "tuple", data := .seq #[.int i tk', u] } := sb.extBut _ _ (Nat.ne_of_gt helt) T'
    have k2 : ∀ c o, c ∉ [e, it] -> s.heap.get? c = some o -> h''.get? c = some o := fun c o hc q => by
      simp only [List.mem_cons, List.not_mem_nil, or_false, not_or] at hc
      exact sb.extBut _ _ hc.1 (keep c o hc.1 hc.2 q)
    have fresh : H s.heap.objs.size = none := I.hok.fresh (Nat.le_refl _)
    have none' : ∀ c ∈ [e, it], H c = none := fun c hc => (hf c hc).1
    have tne : ∀ c o, H c = some o -> c ≠ s.heap.objs.size := fun c o q => ne_of_none q fresh
    have new : ObjOk X.prog X.w (upd H s.heap.objs.size (.tup [.int i, x])) h'' s.heap.objs.size (.tup [.int i, x]) :=
      ⟨tupD_at (by show 2 <= sizeLine; decide) hT rfl, [.int i tk', u], .cons ⟨_, rfl⟩ (.cons ru .nil), ⟨_, hT, rfl, 0, rfl⟩⟩
    have ok : HOk X.prog X.w (upd H s.heap.objs.size (.tup [.int i, x])) h'' := fun c o q => by
      by_cases hc : c = s.heap.objs.size
      · subst hc
        rw [upd_same] at q
        cases q
        exact new
      · rw [upd_ne hc] at q
        refine (I.hok c o q).stay (fun d v hd e => k2 d v (fun m => ?_) e) (fun d e => ?_) fun d zs e => ?_
        · rcases hd with rfl | hd
          · rw [none' _ m] at q; cases q
          · rw [none' _ m] at hd; cases hd
        · rw [upd_ne (tne _ _ e)]; exact e
        · rw [upd_ne (tne _ _ e)]; exact e
    have hL : ∀ c ∈ [e, it], c ≠ X.env.locals := fun c hc => (hf c hc).2.1
    have I' : Inv X pins σ (upd H s.heap.objs.size (.tup [.int i, x])) { s with heap := h'', toks := tk' + 1 } := by
      refine I.step (g' := s.gens) (t' := tk' + 1) (d' := s.drawn) (ch := [e, it]) (fun c hc => ⟨(hf c hc).2.2.2.1, (hf c hc).2.1, (hf c hc).2.2.2.2.1, (hf c hc).2.2.2.2.2⟩)
        (fun c o _ _ hc q _ => k2 c o hc q) (fun c o _ _ hc q _ => ⟨o.slots, k2 c o hc q⟩) (fun c o hc q n => ?_) (fun c o hc q => ⟨o, k2 c o hc q⟩) (fun c zs q => ?_) (fun c o v q => ?_) (fun c ps q => ⟨#[], ?_⟩) (fun m' hm' => ?_) ok I.bare
      · rw [upd_ne (Nat.ne_of_lt (Heap.lt_size q))]; exact n
      · rw [upd_ne (tne _ _ q)]; exact q
      · rw [upd_ne (tne _ _ q)]; exact q
      · rw [upd_ne (tne _ _ q)]; simpa using q
      · obtain ⟨o, es, ep, e, rr⟩ := hm'
        exact ⟨o, es, ep, k2 _ _ (fun hc => hL _ hc rfl) e, rr⟩
    refine ⟨.ref s.heap.objs.size, _, I', rfl, ⟨_, rfl, fresh, x, fun zs hz => by rw [I.tuple_inj hz hq]; exact hx, rfl⟩, ?_, fun c hc => ?_⟩
    · have z3 : IsEnum h'' e it ((i + 1 : Nat) : Int) u := by rw [Int.natCast_add]; exact z''
      exact ⟨⟨_, z3⟩, J'.extBut sb.extBut ne.symm⟩
    · have hlt : c < s.heap.objs.size := by
        simp only [List.mem_cons, List.not_mem_nil, or_false] at hc
        rcases hc with rfl | rfl
        · exact helt
        · exact hilt
      rw [upd_ne (Nat.ne_of_lt hlt)]
      exact (hf c hc).1
  done := by
    intro X hP hw hK hc i pins s σ H E I hf st hg
    subst hP hw hK
    obtain ⟨xs, hq, hx⟩ := hg
    obtain ⟨its, rv, p, hz⟩ := I.tuple hq
    obtain ⟨⟨old, q1⟩, hit⟩ := st
    have hl := rv.length
    obtain ⟨f0, f1, f2, f3, f4, f5⟩ := hf it (by simp)
    have nta : a ≠ it := fun z => by
      obtain ⟨o1, g1, g2, _⟩ := hit
      obtain ⟨o2, g3, g4, _⟩ := p
      rw [z, g1] at g3
      cases g3
      rw [g2] at g4
      injection g4 with g5
      exact absurd g5 (by decide)
    exact enum_tup_end (I.ok.hd hc) q1 hit p (by simp; lia) fun h' eb => ⟨rfl, I.turned (t' := s.toks) (fun b o hb e => eb b o hb e) f0 f1 f3 f4 f5⟩
  self := fun _ _ _ _ _ st h => by
    obtain ⟨⟨old, q1⟩, _⟩ := st
    exact wpAny_pyIter_enum q1 h
section
variable {X : Cx}
noncomputable def iEnumT (K : PySem.W.Frag) (ta : TA) : TI := fun σ H R => ta σ H fun vs H1 => ∃ a xs, vs = [.ref a] /\ SqT K H1 a xs /\ R (IteT K a) H1
theorem pi_enumT {a : Expr} {ta : TA} {elts : List Expr} {kk : Nat} {tp p pos : Pos} (hg : Gl X "enumerate") (hm : X.mg "enumerate" = none) (ha : PA X [a] ta) (hs : starEach [a] X.env = [(false, eval a X.env)] := by rfl) :
    PI X (.Tuple elts kk tp) (.Call (.Name "enumerate" p) [a] [] pos) (iEnumT X.K ta) := by
  intro pins s σ H R I h
  refine Call_ (ld_blt I hg hm boot_enumerate (PyProof.Rows.callWith_type1 (thn (ha pos pins s σ H _ I h) fun us s1 ⟨vs, H1, I1, r1, q1⟩ => ?_) (by rw [hs]; rfl) (by rfl)))
  obtain ⟨x, xs, e, hx, q⟩ := q1
  subst e
  cases r1 with
  | cons r rr =>
    cases rr
    cases r
    obtain ⟨its, v1, p1, _⟩ := I1.tuple hx
    refine call_enumerate_tuple p1 fun h' Z J n2 keep => wpAny_pyIter_enum Z ?_
    have I2 : Inv X pins σ H1 { s1 with heap := h' } := I1.kept (t' := s1.toks) keep
    refine ⟨_, [s1.heap.objs.size + 1, s1.heap.objs.size], _, _, H1, rfl, I2, turn_enumT (by show (_ : Nat) ≠ _; lia), ⟨⟨_, Z⟩, J⟩, fun c hc => ?_, q⟩
    have hc' : s1.heap.objs.size <= c := by
      simp only [List.mem_cons, List.not_mem_nil, or_false] at hc
      rcases hc with rfl | rfl
      · exact Nat.le_add_right _ _
      · exact Nat.le_refl _
    exact I1.fpOk hc' (I1.hok.fresh hc')
theorem wi_enumT {a : Expr} {ta : TA} {elts : List Expr} {kk : Nat} {tp p pos : Pos} (hg : Gl X "enumerate") (hm : X.mg "enumerate" = none) (ha : Hd (PA X [a] ta)) (hs : notStar a = true := by rfl) :
    Hd (PI X (.Tuple elts kk tp) (.Call (.Name "enumerate" p) [a] [] pos) (iEnumT X.K ta)) := ⟨pi_enumT hg hm ha.out (by rw [star_cons hs]; rfl)⟩
end
end L2
end
section
namespace L2
open PySem PySem.Spec PyProof.Rows PySem.W
section
variable {X : Cx}
noncomputable def rRange : List V -> Hp -> VK -> Prop := fun ws H Q => ∃ n : Int, ws = [.int n] /\ ∀ p, H p = none -> Q (.ref p) (upd H p (.rng 0 n))
theorem call_range : CallR X (.type "range") rRange := by
  intro pins s σ H ws us Q I r h
  obtain ⟨n, rfl, q⟩ := h
  obtain ⟨u, rfl, t, rfl⟩ := r.one
  have fr : H s.heap.objs.size = none := I.hok.fresh (Nat.le_refl _)
  refine call_range_1 ?_
  exact ⟨.ref s.heap.objs.size, _, I.laid (t' := s.toks + 1 + 1) (o := .rng 0 n) (fun b o e => Heap.get?_push_of_some _ e) (Nat.le_refl _) ⟨_, _, _, Heap.get?_push_size _ rfl⟩, rfl, q _ fr⟩
noncomputable def rangeV (n : Nat) : List V := (List.range n).map fun (i : Nat) => V.int (i : Int)
noncomputable def rListR : List V -> Hp -> VK -> Prop := fun ws H Q => ∃ (r : Addr) (n : Nat), ws = [.ref r] /\ H r = some (.rng 0 n) /\ n <= 1000 /\ ∀ p, H p = none -> Q (.ref p) (upd H p (.lst (rangeV n)))
theorem vals_range {acc : List Value} {n : Nat} (hl : acc.length = n) (h : ∀ (i : Nat) (v : Value), acc[i]? = some v -> ∃ t, v = .int (i : Int) t) : Vals (rangeV n) acc := by
  subst hl
  have key : ∀ (k : Nat), k <= acc.length -> Vals (rangeV k) (acc.take k) := by
    intro k
    induction k with
    | zero => intro _; exact .nil
    | succ k ih =>
      intro hk
      have hi : acc[k]? = some acc[k] := List.getElem?_eq_getElem (by lia)
      obtain ⟨t, ht⟩ := h k _ hi
      rw [List.take_add_one, hi]
      unfold rangeV
      rw [List.range_succ, List.map_append]
      exact (ih (by lia)).append (.cons ⟨t, ht⟩ .nil)
  have := key acc.length (Nat.le_refl _)
  rwa [List.take_length] at this
theorem call_listR (hc : X.calm = true) : CallR X (.type "list") rListR := by
  intro pins s σ H ws us Q I r h
  obtain ⟨a, n, rfl, ha, hn, q⟩ := h
  obtain ⟨u, rfl, ru⟩ := r.one
  cases ru
  have hh := I.ok.hd hc
  obtain ⟨t, u, v, e⟩ := (show ObjOk X.prog X.w H s.heap a (.rng 0 n) from I.hok a _ ha)
  have fr : H s.heap.objs.size = none := I.hok.fresh (Nat.le_refl _)
  refine call_list_range (n := n) hh (show IsRange s.heap a 0 n 1 t u v from e) (small_one (by decide) (by decide) (by lia) (by lia)) ?_ (by lia) fun h' tk acc c keep hS items => ?_
  · rw [rangeSize_one]; split <;> lia
  have rv : Vals (rangeV n) acc.toList := vals_range (by rw [Array.length_toList]; exact items.1) fun i v hv => by
    obtain ⟨t, ht⟩ := items.2 i v (by rw [<- Array.getElem?_toList]; exact hv)
    exact ⟨t, by rw [ht]; simp⟩
  exact ⟨.ref s.heap.objs.size, _, I.laid (t' := tk) (o := .lst (rangeV n)) keep (Nat.le_refl _) ⟨by unfold rangeV; rw [List.length_map, List.length_range, sizeLine_eq]; lia, acc.toList, c, rv, by simpa using hS⟩, rfl, q _ fr⟩
theorem ofInts : ∀ {us : List Value} {ns : List Int}, IntsAre us ns -> Vals (ns.map V.int) us
  | _, _, .nil => .nil
  | _, _, .cons _ _ t => .cons ⟨_, rfl⟩ (ofInts t)
noncomputable def rSortN : List V -> Hp -> VK -> Prop := fun ws H Q => ∃ (l : Addr) (ns : List Int), ws = [.ref l] /\ H l = some (.lst (ns.map V.int)) /\ ns.length < 64 /\ ∀ (p : Addr) (ms : List Int), H p = none -> ms.Perm ns -> ms.Pairwise (· <= ·) -> Q (.ref p) (upd H p (.lst (ms.map V.int)))
theorem call_sortN : CallR X (.builtin "sorted") rSortN := by
  intro pins s σ H ws us Q I r h
  obtain ⟨l, ns, rfl, hl, h64, q⟩ := h
  obtain ⟨u, rfl, ru⟩ := r.one
  cases ru
  obtain ⟨z, its, n, rv, ho⟩ := (show ObjOk X.prog X.w H s.heap l (.lst (ns.map V.int)) from I.hok l _ hl)
  have hli : its.length = ns.length := by rw [<- rv.length, List.length_map]
  refine sorted_ints (vs := its) (ns := ns) ⟨_, ho, rfl, n, rfl⟩ (intsAre_of rv) (by lia) fun out ms a1 a2 a3 => ?_
  have fr : H (s.heap.objs.size + 1) = none := I.hok.fresh (Nat.le_succ _)
  have hsz : ((s.heap.push (seqObj "list" #[] 0)).update s.heap.objs.size (Obj.mapSeq (· ++ its.toArray))).objs.size = s.heap.objs.size + 1 := by
    rw [Heap.size_update, size_push']
  have hoL : (((s.heap.push (seqObj "list" #[] 0)).update s.heap.objs.size (Obj.mapSeq (· ++ its.toArray))).push (seqObj "list" its.toArray 0)).get? (s.heap.objs.size + 1) = some (seqObj "list" its.toArray 0) := by
    rw [<- hsz]; exact Heap.get?_push_size _ rfl
  obtain ⟨e, hat⟩ := sortedHeap_at (out := out) hoL
  refine ⟨.ref (s.heap.objs.size + 1), _, I.laid (t' := s.toks) (o := .lst (ms.map V.int)) (fun b o hb => ?_) (Nat.le_succ _) ⟨by rw [List.length_map, a2.length_eq]; rw [List.length_map] at z; exact z, out.toList, e, ofInts a1, ?_⟩, rfl, q _ ms fr a2 a3⟩
  · have hlt : b < s.heap.objs.size := Heap.lt_size hb
    unfold sortedAll
    rw [sortedHeap_old (show b ≠ s.heap.objs.size + 1 from Nat.ne_of_lt (Nat.lt_succ_of_lt hlt)) (by rw [Heap.size_push, hsz]; exact Nat.lt_succ_of_lt (Nat.lt_succ_of_lt hlt))]
    refine Heap.get?_push_of_some _ ?_
    exact (Heap.SameBut.update (s.heap.push (seqObj "list" #[] 0)) s.heap.objs.size (Obj.mapSeq (· ++ its.toArray))).extBut b o (Nat.ne_of_lt hlt) (Heap.get?_push_of_some _ hb)
  · unfold sortedAll
    rw [hat]
noncomputable def rEqLD : R2 := fun x y H Q => ∃ a b xs ys ds es, x = .ref a /\ y = .ref b /\ H a = some (.lst xs) /\ H b = some (.lst ys) /\ IsDts H ds xs /\ IsDts H es ys /\ depL ds <= depMax /\ Q (.bl (decide (ds = es))) H
theorem op_eqLD (hu : X.A.units + 110 < cLine) : OpR X (compareOp .Eq) rEqLD := by
  intro pins s σ H x y v u Q I rx ry h
  obtain ⟨a, b, xs, ys, ds, es, rfl, rfl, ha, hb, h2, g2, hd, q⟩ := h
  cases rx
  cases ry
  obtain ⟨its, r, p, _⟩ := I.list (SqL.of ha)
  obtain ⟨its2, r2, p2, _⟩ := I.list (SqL.of hb)
  have l1 : its.toArray.size = ds.length := by rw [List.size_toArray, <- r.length, h2.length]
  have l2 : its2.toArray.size = es.length := by rw [List.size_toArray, <- r2.length, g2.length]
  by_cases hl : ds.length = es.length
  · refine SeqAt.RcAt.lists (s := s) (A := X.A) (e := fun j => decide (ds[j]? = es[j]?)) p.isList p2.isList (by rw [l1, l2, hl]) (by lia) (items_eq (n := depMax) (A := X.A.in1) I.hok hd (by show X.A.units + 1 + depMax < cLine; unfold depMax; lia) h2 g2 r r2) _ _ _ _ ⟨.bl (decide (ds = es)), H, I, ?_, q⟩
    have := all_eq ds es
    rw [<- hl, Nat.min_self] at this
    simp only [beq_self_eq_true, Bool.and_true] at this
    rw [<- this, l1]
    rfl
  · refine SeqAt.RcAt.lists_lengths (A := X.A) p.isList p2.isList (by rw [l1, l2]; simpa using hl) (by lia) _ _ _ _ ⟨.bl false, H, I, rfl, ?_⟩
    rw [decide_eq_false (fun z => hl (by rw [z]))] at q
    exact q
theorem op_eqX (hu : X.A.units + 110 < cLine) : OpR X (compareOp .Eq) (fun x y H Q => (rEq x y H Q \/ rEqD x y H Q) \/ rEqLD x y H Q) := (op_eqU hu).or (op_eqLD hu)
theorem op_notT : OpR X (compareOp .IsNot) (fun x y H Q => ∃ b, x = .bl b /\ y = .bl true /\ Q (.bl (!b)) H) := by
  intro pins s σ H x y v u Q I rx ry h
  obtain ⟨b, rfl, rfl, q⟩ := h
  cases rx
  cases ry
  cases b
  · exact wpAny_pure ⟨.bl true, H, I, rfl, q⟩
  · exact wpAny_pure ⟨.bl false, H, I, rfl, q⟩
theorem call_isiN : CallR X (.builtin "isinstance") (fun xs H Q => ∃ x b, xs = [x, .ty "int"] /\ ((∃ i, x = .int i) /\ b = true \/ (∃ z, x = .str z) /\ b = false) /\ Q (.bl b) H) := by
  intro pins s σ H xs us Q I r h
  obtain ⟨x, b, rfl, hi, q⟩ := h
  obtain ⟨u, v, rfl, ru, rv⟩ := r.two
  cases rv
  rcases hi with ⟨⟨i, rfl⟩, rfl⟩ | ⟨⟨z, rfl⟩, rfl⟩
  · obtain ⟨t, rfl⟩ := ru
    exact IsiPair.int_int ⟨.bl true, H, I, rfl, q⟩
  · obtain ⟨t, rfl⟩ := ru
    exact IsiPair.str_int ⟨.bl false, H, I.tok _, rfl, q⟩
theorem call_isiX : CallR X (.builtin "isinstance") (fun xs H Q => ((∃ x T b, xs = [x, .ty T] /\ isiV H x T b /\ Q (.bl b) H) \/ ∃ x T b, xs = [x, .ty T] /\ isiW x T b /\ Q (.bl b) H) \/ ∃ x b, xs = [x, .ty "int"] /\ ((∃ i, x = .int i) /\ b = true \/ (∃ z, x = .str z) /\ b = false) /\ Q (.bl b) H) := call_isiU.or call_isiN
end
end L2
end
section
namespace L2
open PySem PySem.Spec PyProof.Rows PySem.W
theorem rev_pick (xs : Array Value) : ((List.range xs.size).filterMap fun (k : Nat) => xs[(((xs.size : Int) - 1) + (k : Int) * (-1)).toNat]?).toArray = xs.toList.reverse.toArray := by
  congr 1
  have gen : ∀ (l : List Nat), (∀ k ∈ l, k < xs.size) -> l.filterMap (fun (k : Nat) => xs[(((xs.size : Int) - 1) + (k : Int) * (-1)).toNat]?) = l.map fun k => xs.toList.getD (xs.size - 1 - k) Value.none := by
    intro l
    induction l with
    | nil => intro _; rfl
    | cons k l ih =>
      intro h
      have hk' : k < xs.size := h k List.mem_cons_self
      have e1 : (((xs.size : Int) - 1) + (k : Int) * (-1)).toNat = xs.size - 1 - k := by lia
      have e2 : xs[(((xs.size : Int) - 1) + (k : Int) * (-1)).toNat]? = some (xs.toList.getD (xs.size - 1 - k) Value.none) := by
        rw [e1, List.getD_eq_getElem?_getD, <- Array.getElem?_toList, List.getElem?_eq_getElem (by rw [Array.length_toList]; lia)]
        rfl
      rw [List.filterMap_cons, e2, List.map_cons, ih fun z hz => h z (List.mem_cons_of_mem _ hz)]
  rw [gen _ fun k hk => List.mem_range.mp hk]
  apply List.ext_getElem?
  intro i
  by_cases hi : i < xs.size
  · rw [List.getElem?_map, List.getElem?_range hi, List.getElem?_reverse (by rw [Array.length_toList]; exact hi), Array.length_toList]
    show some (xs.toList.getD (xs.size - 1 - i) Value.none) = _
    rw [List.getD_eq_getElem?_getD, List.getElem?_eq_getElem (by rw [Array.length_toList]; lia)]
    rfl
  · rw [List.getElem?_eq_none (by simpa using hi), List.getElem?_eq_none (by simpa using hi)]
section
variable {prog : Program} {w : World} {A : Around} {E : Value -> Shared -> Prop} {s : Shared}
theorem getItem_tuple_rev {t sl : Addr} {items : Array Value} {tk : Tok} {Q : Value -> Shared -> Prop} (ht : IsTup s.heap t items) (hs : s.heap.IsSliceOf sl .none .none (.int (-1) tk))
    (h : Q (.ref s.heap.objs.size) { s with heap := s.heap.push { cls := .type "tuple", data := .seq items.toList.reverse.toArray } })
    (hsz : items.size <= sizeLine) : wpAny (model prog w) A (getItem (.ref t) (.ref sl)) Q E s := by
  have htake : sizeOk (.seq items.toList.reverse.toArray) := by
    show items.toList.reverse.toArray.size <= sizeLine
    rw [List.size_toArray, List.length_reverse, Array.length_toList]
    exact hsz
  obtain ⟨os, hos, hcs, hds⟩ := id hs
  have hTs : s.TypeIs (.ref sl) "slice" := ⟨os, hos, hcs⟩
  unfold getItem
  try with_reducible refine wpAny_holding ?_
  first | refine wpAny_bind (wpAny_pure ?_) | skip
  refine wpAny_bind (wpAny_sequenceKey ht.typeIs (by decide) ?_)
  refine wpAny_bind (wpAny_callSpecial?_slot (name := Str.ofString "__getitem__") ht.typeIs PyProof.Rows.slot_tuple_getitem
    (wpAny_call_entry PyProof.Rows.slot_tuple_getitem ht.typeIs entry_tuple_getitem ?_ (args_tuple_getitem _ _)))
  show wpAny _ _ (Builtin.Tuple.tupleItemsOf (.ref t) >>= _) _ _ s
  refine wpAny_bind (tupleItemsOf_ ht ?_)
  refine wpAny_bind (wpAny_typeOf hTs ?_)
  rw [if_pos (by decide)]
  have ap : ∀ {Q : Int × Int × Nat -> Shared -> Prop} {E : Value -> Shared -> Prop} {A : Around}, Q ((items.size : Int) - 1, -1, items.size) s -> wpAny (model prog w) A (Builtin.Slice.sliceApplied (.ref sl) (pure (items.size : Int))) Q E s := by
    intro Q E A q
    unfold Builtin.Slice.sliceApplied Builtin.Slice.sliceFields
    refine wpAny_bind (wpAny_bind (wpAny_field hos hds (x := .none) rfl (wpAny_bind (wpAny_field hos hds (x := .none) rfl (wpAny_bind (wpAny_field hos hds (x := .int (-1) tk) rfl (wpAny_pure ?_)))))))
    refine wpAny_bind (slicePart_int ?_)
    show wpAny _ _ (if ((-1 : Int) == 0) = true then _ else _) _ _ s
    rw [if_neg (by decide)]
    refine wpAny_bind (slicePart_none (wpAny_bind (slicePart_none (wpAny_bind (wpAny_pure ?_)))))
    refine wpAny_pure ?_
    have e : Builtin.Slice.slicePlaces ((items.size : Int) - 1) (-1) (-1) = items.size := by
      unfold Builtin.Slice.slicePlaces
      rw [if_neg (by decide)]
      split
      · have : ((items.size : Int) - 1 - -1 - 1) / (- -1) = (items.size : Int) - 1 := by rw [show (- -1 : Int) = 1 from rfl, Int.ediv_one]; lia
        lia
      · lia
    show Q ((items.size : Int) - 1, -1, Builtin.Slice.slicePlaces ((items.size : Int) - 1) (-1) (-1)) s
    rw [e]
    exact q
  refine wpAny_bind (ap ?_)
  show wpAny _ _ (if (((items.size : Int) - 1 == 0) && (-1 : Int) == 1 && (items.size == items.size)) = true then _ else _) _ _ s
  rw [if_neg (by simp), rev_pick]
  first
    | exact wpAny_bind (m := Builtin.Tuple.tupleExact _) (wpAny_newObj_type (wpAny_pure ⟨_, rfl, wpAny_pure h⟩) htake)
    | exact wpAny_bind (m := Builtin.Tuple.tupleExact _) (wpAny_newObj_type (wpAny_bind (wpAny_pure (wpAny_pure ⟨_, rfl, wpAny_pure h⟩))) htake)
    | exact wpAny_bind (wpAny_bind (m := Builtin.Tuple.tupleExact _) (wpAny_newObj_type (wpAny_pure (wpAny_pure ⟨_, rfl, wpAny_pure h⟩)) htake))
    | exact wpAny_bind (wpAny_bind (m := Builtin.Tuple.tupleExact _) (wpAny_newObj_type (wpAny_pure ⟨_, rfl, wpAny_pure h⟩) htake))
end
section
variable {X : Cx}
noncomputable def tRevT (K : PySem.W.Frag) (te : TE) : TE := fun σ H Q => te σ H fun x H1 => ∃ a xs, x = .ref a /\ SqT K H1 a xs /\ ∀ p, H1 p = none -> Q (.ref p) (upd H1 p (.tup xs.reverse))
theorem pe_revT {e : Expr} {te : TE} {k : Nat} {p2 p3 p4 pos : Pos} (he : PE X e te) : PE X (.Subscript e (.Slice none none (some (.UnaryOp .USub (.Constant (.int 1) k p3) p4)) p2) pos) (tRevT X.K te) := by
  intro pins s σ H Q I h
  refine Subscript_ (thn (he pins s σ H _ I h) fun v s1 ⟨x, H1, I1, r1, q1⟩ => ?_)
  obtain ⟨a, xs, rfl, hx, q⟩ := q1
  cases r1
  refine wpAny_Slice ?_
  rw [evalPart_none]
  refine wpAny_pure (wpAny_pure ?_)
  rw [evalPart_some]
  refine thn (pe_un un_neg pe_int pins s1 σ H1 (fun y H2 => y = .int (-1) /\ H2 = H1) I1 ⟨1, rfl, rfl, rfl⟩) fun u s2 ⟨y, H2, I2, r2, e1, e2⟩ => ?_
  subst e1 e2
  obtain ⟨t, rfl⟩ := r2
  have I4 : Inv X pins σ H2 { s2 with heap := s2.heap.push { cls := .type "slice", data := .fields #[.none, .none, .int (-1) t] } } := I2.kept (t' := s2.toks) fun b ob q => Heap.get?_push_of_some _ q
  obtain ⟨its, r, ht, hz⟩ := I4.tuple hx
  have hlen := r.length
  refine tail_any (ops := [.ref a, .ref s2.heap.objs.size]) (T := "tuple") ht.typeIs slot_tuple_getitem.lookup ?_ (by with_unfolding_all rfl)
  refine getItem_tuple_rev ht (Heap.IsSliceOf.new ..) ?_ (by rw [List.size_toArray]; lia)
  refine ⟨.ref _, _, I4.laid (t' := s2.toks) (o := .tup xs.reverse) (fun b ob q => Heap.get?_push_of_some _ q) (Nat.le_refl _) ?_, rfl, q _ (I4.hok.fresh (Nat.le_refl _))⟩
  exact ⟨tupD_new (by rw [List.length_reverse]; exact hz), _, r.reverse, ⟨_, Heap.get?_push_size _ rfl, rfl, _, rfl⟩⟩
theorem we_revT {e : Expr} {te : TE} {k : Nat} {p2 p3 p4 pos : Pos} (he : Hd (PE X e te)) : Hd (PE X (.Subscript e (.Slice none none (some (.UnaryOp .USub (.Constant (.int 1) k p3) p4)) p2) pos) (tRevT X.K te)) := ⟨pe_revT he.out⟩
end
end L2
end
section
namespace L2
open PySem PySem.Spec PyProof.Rows PySem.W
section
variable {X : Cx} {e o : Expr} {te to : TE}
theorem m1_of {m : Str} {apos cpos : Pos} (hb : attributeBase o m X.env (eval o X.env) = eval o X.env) (h1 : notStar e = true) (hline : (apos.endLine == cpos.line) = true) : M1 X o m apos e cpos :=
  ⟨hb, few_of (by show (notStar e && true) = true; rw [h1]; rfl) (by show 1 < 29; decide), hline, by rw [star_cons h1]; rfl⟩
theorem we_dget1 {apos cpos : Pos} (hu : X.A.units + 1 < cLine) (ho : Hd (PE X o to)) (he : Hd (PE X e te)) (hb : attributeBase o "get" X.env (eval o X.env) = eval o X.env := by rfl) (h1 : notStar e = true := by rfl) (hline : (apos.endLine == cpos.line) = true := by rfl) :
    Hd (PE X (.Call (.Attribute o "get" apos) [e] [] cpos) (tDGet1 to te)) := ⟨pe_dget1 hu ho.out he.out (m1_of hb h1 hline)⟩
theorem bt_range : bootBuiltins "range" = some (.type "range") := boot_range
end
end L2
end
section
namespace Kn
open PySem
noncomputable def isNum (c : Nat) : Bool := c == 45 || (decide (48 <= c) && decide (c <= 57))
noncomputable def isLet (c : Nat) : Bool := decide (97 <= c) && decide (c <= 122)
noncomputable def stop (r : List Nat) : Prop := ∀ c t, r = c :: t -> isNum c = false /\ isLet c = false
end Kn
end
section
namespace Kn
open PySem L2
mutual
noncomputable def dat : Val -> Dt
  | .num i => .tup [.str "num", .int i]
  | .word s => .tup [.str "word", .str s]
  | .row ps => .tup [.str "row", .tup (datR ps)]
  | .bag ps => .tup [.str "bag", .tup (datB ps)]
noncomputable def datR : List (Str × Val) -> List Dt
  | [] => []
  | p :: ps => .tup [.str p.1, dat p.2] :: datR ps
noncomputable def datB : List (Val × Int) -> List Dt
  | [] => []
  | p :: ps => .tup [dat p.1, .int p.2] :: datB ps
end
end Kn
end
section
namespace Kn
open PySem L2
end Kn
end
section
namespace Kn
open PySem L2
end Kn
end
section
namespace Kn
open PySem L2
theorem pick (b : Bool) : atI [V.int 1, V.int (-1)] (if b = true then 1 else 0) = some (.int (if b = true then -1 else 1)) := by cases b <;> rfl
end Kn
end
section
namespace Kn
open PySem L2
end Kn
end
section
namespace Kn
open PySem L2
inductive At where
  | int (i : Int)
  | txt (s : Str)
noncomputable def atD : At -> Dt
  | .int i => .int i
  | .txt s => .str s
end Kn
end
section
namespace K66
open PySem L2 Kn
noncomputable def top (i : Nat) : Stmt := PySem.Challenge.pw_keptnest_k66_fits.main.body.getD i (.Pass ⟨0, 0, 0, 0⟩)
structure Tx (mg : Str -> Option Value) : Prop where
  z_len : mg "len" = none
  z_int : mg "int" = none
  z_tuple : mg "tuple" = none
  z_range : mg "range" = none
  z_isinstance : mg "isinstance" = none
  z_sorted : mg "sorted" = none
  z_bool : mg "bool" = none
  z_dict : mg "dict" = none
  z_list : mg "list" = none
  z_all : mg "all" = none
  z_zip : mg "zip" = none
  z_enumerate : mg "enumerate" = none
  z_set : mg "set" = none
noncomputable def Dk (H : Hp) (p c : Addr) (n : Int) : Prop := ∃ (m : Int) (cs : List Int), H p = some (.lst [.ref c, .int m]) /\ H c = some (.lst (cs.map V.int)) /\ c ≠ p /\ 0 <= m /\ m <= n
noncomputable def Ex (p : Addr) (H H' : Hp) : Prop := ∀ b o, b ≠ p -> H b = some o -> H' b = some o
theorem Ex.trans {p : Addr} {H H1 H2 : Hp} (a : Ex p H H1) (b : Ex p H1 H2) : Ex p H H2 := fun c o n h => b c o n (a c o n h)
theorem ex_upd {p : Addr} {H : Hp} {o : HO} : Ex p H (upd H p o) := fun b u n h => by rw [upd_ne n]; exact h
theorem ex_new {p q : Addr} {H : Hp} {o : HO} (h : H q = none) : Ex p H (upd H q o) := fun b u n e => by rw [upd_ne (ne_of_none e h)]; exact e
theorem Same.ex {p : Addr} {H H' : Hp} (s : Same H H') : Ex p H H' := fun b o _ h => s b o h
theorem Ex.upd' {p c : Addr} {H H' : Hp} {o : HO} (e : Ex p H H') (h : H c = none) : Ex p H (upd H' c o) := fun b q n z => by rw [upd_ne (ne_of_none z h)]; exact e b q n z
theorem Dk.mono {H : Hp} {p c : Addr} {n m : Int} (h : Dk H p c n) (l : n <= m) : Dk H p c m := by
  obtain ⟨k, cs, e, r, ne, a, b⟩ := h; exact ⟨k, cs, e, r, ne, a, by lia⟩
theorem Dk.keep {H H' : Hp} {p c : Addr} {n : Int} (h : Dk H p c n) (s : Same H H') : Dk H' p c n := by
  obtain ⟨k, cs, e, r, ne, a, b⟩ := h; exact ⟨k, cs, s _ _ e, s _ _ r, ne, a, b⟩
theorem Dk.new {H : Hp} {p c q : Addr} {n : Int} {o : HO} (h : Dk H p c n) (hq : H q = none) : Dk (upd H q o) p c n := h.keep fun b u e => by rw [upd_ne (ne_of_none e hq)]; exact e
theorem Dk.tups {H H' : Hp} {p c : Addr} {n : Int} (h : Dk H p c n) (x : Ex p H H') : Tups H H' := fun b xs e => by
  obtain ⟨k, cs, e', _⟩ := h
  exact x b _ (ne_of e e' (by intro z; cases z)) e
theorem Dk.ne {H : Hp} {p c q : Addr} {n : Int} (h : Dk H p c n) (hq : H q = none) : q ≠ p /\ q ≠ c := by
  obtain ⟨k, cs, e, r, _⟩ := h
  exact ⟨fun z => (by rw [z, e] at hq; cases hq), fun z => (by rw [z, r] at hq; cases hq)⟩
theorem Dk.upd {H : Hp} {p c q : Addr} {n : Int} {o : HO} (h : Dk H p c n) (hp : q ≠ p) (hc : q ≠ c) : Dk (upd H q o) p c n := by
  obtain ⟨k, cs, e, r, ne, a, b⟩ := h
  exact ⟨k, cs, by rw [upd_ne (Ne.symm hp)]; exact e, by rw [upd_ne (Ne.symm hc)]; exact r, ne, a, b⟩
theorem same_new {H : Hp} {p : Addr} (h : H p = none) (o : HO) : Same H (upd H p o) := fun b u q => by rw [upd_ne (ne_of_none q h)]; exact q
theorem same_back {H H' : Hp} (s : Same H H') {l : Addr} (h : H' l = none) : H l = none := by
  cases e : H l with
  | none => rfl
  | some u => rw [s _ _ e] at h; cases h
theorem hideG {G : Prop} (h : ∀ PP : Prop, (G -> PP) -> PP) : G := h G id
theorem wh_hideD {Nx : St -> Hp -> Prop} {tb : TS} {D : Ends} {σ : St} {H : Hp} (b : ∀ E : Ends, (∀ σ H, Nx σ H -> E.nx σ H) -> (∀ σ H, Nx σ H -> E.ct σ H) -> (∀ v H, D.rt v H -> E.rt v H) -> (∀ σ H, D.nx σ H -> E.bk σ H) -> tb E σ H) : ∃ N : St -> Hp -> Prop, (∀ σ' H', N σ' H' -> Nx σ' H') /\ tb { D with nx := N, ct := N, bk := D.nx } σ H := ⟨Nx, fun _ _ h => h, b _ (fun _ _ h => h) (fun _ _ h => h) (fun _ _ h => h) (fun _ _ h => h)⟩
theorem for_hide {go : Prop} {Nx : St -> Hp -> Prop} {J : It} {i : Nat} {σ : St} {H : Hp} {g : TG} {tb : TS} {D : Ends} (g0 : go) (M : St -> Hp -> Prop) (hM : ∀ σ H, M σ H -> Nx σ H) (b : ∀ E : Ends, (∀ σ H, M σ H -> E.nx σ H) -> (∀ σ H, M σ H -> E.ct σ H) -> (∀ v H, D.rt v H -> E.rt v H) -> (∀ σ H, D.nx σ H -> E.bk σ H) -> ∀ x H', J.yld i H x H' -> g x σ H' fun σ2 H2 => tb E σ2 H2) :
    go /\ ∃ N : St -> Hp -> Prop, (∀ σ' H', N σ' H' -> Nx σ' H') /\ ∀ x H', J.yld i H x H' -> g x σ H' fun σ2 H2 => tb { D with nx := N, ct := N, bk := D.nx } σ2 H2 := ⟨g0, M, hM, b _ (fun _ _ h => h) (fun _ _ h => h) (fun _ _ h => h) (fun _ _ h => h)⟩
theorem for_rangeH {lo : Int} {n : Nat} {g : TG} {tb : TS} {D : Ends} {σ : St} {H : Hp} (Pv : Nat -> St -> Hp -> Prop) (h0 : Pv 0 σ H)
    (hs : ∀ (E : Ends) i σ H, i < n -> Pv i σ H -> (∀ σ H, Pv (i + 1) σ H -> E.nx σ H) -> g (.int (lo + i)) σ H fun σ2 H2 => tb E σ2 H2) (hd : ∀ σ H, Pv n σ H -> D.nx σ H) :
    ∃ W : Nat -> Nat -> St -> Hp -> Prop, (∃ m, W 0 m σ H) /\ ∀ i m σ H, W i m σ H ->
      ((Itr lo n).stop i H /\ D.nx σ H) \/ ((Itr lo n).go i H /\ ∃ N : St -> Hp -> Prop, (∀ σ' H', N σ' H' -> ∃ m', m' < m /\ W (i + 1) m' σ' H') /\ ∀ x H', (Itr lo n).yld i H x H' -> g x σ H' fun σ2 H2 => tb { D with nx := N, ct := N, bk := D.nx } σ2 H2) :=
  for_range Pv h0 (fun i σ H hi q => hs _ i σ H hi q fun _ _ h => h) hd
theorem ixt {K : PySem.W.Frag} {a : Addr} {xs : List V} {i : Int} {v : V} {H : Hp} {Q : VK} (h : SqT K H a xs) (e : atI xs i = some v) (k : Q v H) : rIxL K (.ref a) (.int i) H Q \/ (rIxT K (.ref a) (.int i) H Q \/ (rIxS (.ref a) (.int i) H Q \/ rIxD (.ref a) (.int i) H Q)) := .inr (.inl ⟨a, xs, i, v, rfl, rfl, h, e, k⟩)
theorem ixl {K : PySem.W.Frag} {a : Addr} {xs : List V} {i : Int} {v : V} {H : Hp} {Q : VK} (h : SqL K H a xs) (e : atI xs i = some v) (k : Q v H) : rIxL K (.ref a) (.int i) H Q \/ (rIxT K (.ref a) (.int i) H Q \/ (rIxS (.ref a) (.int i) H Q \/ rIxD (.ref a) (.int i) H Q)) := .inl ⟨a, xs, i, v, rfl, rfl, h, e, k⟩
theorem opI {C : Int -> Int -> Prop} {g : Int -> Int -> V} {i j : Int} {H : Hp} {Q : VK} (c : C i j) (k : Q (g i j) H) : rI C g (.int i) (.int j) H Q := ⟨i, j, rfl, rfl, c, k⟩
theorem bm (a k : Int) (h : 0 < k) (h2 : k < 2 ^ 64) : -(2 ^ 64) < a % k /\ a % k < 2 ^ 64 := by
  have h1 := Int.emod_nonneg a (by lia : k ≠ 0)
  have h3 := Int.emod_lt_of_pos a h
  lia
section
variable {P : Program} {w : World} {K : PySem.W.Frag} {mg : Str -> Option Value} {base : Heap} {f : Addr} {fd : FuncData}
theorem u110 {k : Nat} {A : Around} (hr : Room k A) : A.units + 110 < cLine := by have := hr.un; lia
theorem u0 {k : Nat} {A : Around} (hr : Room k A) : A.units < cLine := by have := hr.un; lia
theorem sc__law_next : FnScope ["deck", "cells", "at", "mixed"] ["deck"] (defScope (top 20)) := ⟨rfl, rfl, rfl, by decide +kernel, rfl, by decide +kernel, by decide +kernel⟩
noncomputable def spNext : Sp := fun vs H Q _ => ∃ (p c : Addr) (n : Int), vs = [.ref p] /\ Dk H p c n /\ n < 1000000000000 /\
  ∀ (r : Int) (H' : Hp), Ex p H H' -> Dk H' p c (n + 1) -> Q (.int r) H'
theorem ok_next (T : Tx mg) (D : Df K mg "_law_next" (top 20) f fd ["deck"]) : FnOk P w K mg base CX0 1 f fd ["deck"] spNext := by
  refine D.fn.okH sc__law_next (fun vs H Q E h => ?_) (fun cdv A outer s H vs Q E hr h => ?_)
  · obtain ⟨p, c, n, rfl, _⟩ := h; rfl
  obtain ⟨p, c, n, rfl, ⟨m, cs, hp, hc, ne, hm0, hmn⟩, hn, q⟩ := h
  have hu := u110 hr
  have hu0 := u0 hr
  have hu1 := hu_of hr
  refine ⟨_, (wss_cons (ws_set (i := 1) sc__law_next.nd rfl (Or.inl rfl) (we_ix (ix_U hu1) (wv 0) we_int (fun _ _ => rfl)))
      (wss_cons (ws_set (i := 2) sc__law_next.nd rfl (Or.inl rfl) (we_ix (ix_U hu1) (wv 0) we_int (fun _ _ => rfl)))
      (wss_cons (ws_asg (we_op op_plus (wv 2) we_int) (wg_sub (wv 0) we_int (set_U hu1)))
      (wss_cons (ws_if (wt_cmpR (op_ltU hu0) (wv 2) (we_callB call_lenU rfl T.z_len bt_len (wa_cons (wv 1) wa_nil)) (nomark _)) (wss_one (ws_ret (we_ix (ix_U hu1) (wv 1) (wv 2) (fun _ _ => rfl)))) wss_nil)
      (wss_cons (ws_if (wt_cmpR (op_eqU hu) (we_callB call_lenU rfl T.z_len bt_len (wa_cons (wv 1) wa_nil)) we_int (nomark _)) (wss_one (ws_ret (we_op op_plus (we_op op_mul (we_op op_mul (wv 2) (wv 2)) we_int) (wv 2)))) wss_nil)
      (wss_cons (ws_set (i := 3) sc__law_next.nd rfl (Or.inl rfl) (we_op op_mod (we_op op_mul (we_op op_plus (we_op op_plus (we_op op_mod (we_ix (ix_U hu1) (wv 1) (we_op op_mod (wv 2) (we_callB call_lenU rfl T.z_len bt_len (wa_cons (wv 1) wa_nil))) (fun _ _ => rfl)) we_int) (we_op op_mul (wv 2) we_int)) we_int) we_int) we_int))
      (wss_one (ws_ret (we_op op_mod (we_op op_mul (wv 3) (wv 3)) we_int))))))))), ?_⟩
  obtain ⟨X', gX'⟩ : ∃ X', X' = (cxOf CX0 P w K mg base ["deck", "cells", "at", "mixed"] "_law_next" (defScope (top 20)) f cdv A outer s H E).nox := ⟨_, rfl⟩
  try rw [<- gX']
  clear gX'
  refine ⟨_, rfl, .inl ⟨p, _, _, _, rfl, rfl, SqL.of hp, rfl, ?_⟩⟩
  refine ⟨_, rfl, .inl ⟨p, _, _, _, rfl, rfl, SqL.of hp, rfl, ?_⟩⟩
  refine ⟨_, rfl, .inl ⟨_, _, rfl, rfl, _, rfl, .inl ⟨p, _, _, 1, rfl, rfl, hp, rfl, ?_⟩⟩⟩
  have hp1 : (upd H p (.lst ([V.ref c, .int m].set 1 (.int (m + 1))))) p = some (.lst [V.ref c, .int (m + 1)]) := upd_same
  have hc1 : (upd H p (.lst ([V.ref c, .int m].set 1 (.int (m + 1))))) c = some (.lst (cs.map V.int)) := by rw [upd_ne ne]; exact hc
  have ex1 : Ex p H (upd H p (.lst ([V.ref c, .int m].set 1 (.int (m + 1))))) := ex_upd
  generalize upd H p (.lst ([V.ref c, .int m].set 1 (.int (m + 1)))) = H1 at hp1 hc1 ex1 ⊢
  have dk1 : Dk H1 p c (n + 1) := ⟨m + 1, cs, hp1, hc1, ne, by lia, by lia⟩
  have get : ∀ i : Int, 0 <= i -> i < cs.length -> ∃ z : Int, atI (cs.map V.int) i = some (.int z) := fun i h0 h1 => by
    obtain ⟨k, rfl⟩ : ∃ k : Nat, i = (k : Int) := ⟨i.toNat, by lia⟩
    have hk : k < cs.length := by lia
    exact ⟨cs[k], atI_nat (by rw [List.getElem?_map, List.getElem?_eq_getElem hk]; rfl)⟩
  refine ⟨_, rfl, _, rfl, .inl ⟨c, _, rfl, .inl (SqL.of hc1), .inl ⟨_, _, rfl, rfl, _, rfl, ?_⟩⟩⟩
  refine ite2 (fun e1 => ?a) (fun e1 => ?b)
  case a =>
    have e1' : m < ((cs.map V.int).length : Int) := of_decide_eq_true e1
    rw [List.length_map] at e1'
    obtain ⟨z, hz⟩ := get m hm0 e1'
    exact ⟨_, rfl, _, rfl, .inl ⟨c, _, _, _, rfl, rfl, SqL.of hc1, hz, q z H1 ex1 dk1⟩⟩
  case b =>
    refine ⟨_, rfl, .inl ⟨c, _, rfl, .inl (SqL.of hc1), .inl ⟨rfl, _, rfl, ?_⟩⟩⟩
    refine ite2 (fun e2 => ?d) (fun e2 => ?e)
    case d =>
      exact ⟨_, rfl, _, rfl, _, _, rfl, rfl, .inl ⟨by lia, by lia⟩, _, _, rfl, rfl, .inr ⟨by decide, by decide⟩, _, rfl, .inl ⟨_, _, rfl, rfl, q _ H1 ex1 dk1⟩⟩
    case e =>
      have pos : (0 : Int) < cs.length := by
        have : ¬ V.int ((cs.map V.int).length : Int) = V.int 0 := fun z => e2 (decide_eq_true z)
        rw [List.length_map] at this
        have h0 : cs.length ≠ 0 := fun z => this (by rw [z]; rfl)
        lia
      have hl : ((cs.map V.int).length : Int) = cs.length := by rw [List.length_map]
      obtain ⟨z, hz⟩ := get (m % (cs.length : Int)) (Int.emod_nonneg _ (by lia)) (Int.emod_lt_of_pos _ pos)
      refine ⟨_, rfl, _, rfl, _, rfl, .inl ⟨c, _, rfl, .inl (SqL.of hc1), _, _, rfl, rfl, (by rw [hl]; exact pos), .inl ⟨c, _, _, .int z, rfl, rfl, SqL.of hc1, (by rw [hl]; exact hz), ?_⟩⟩⟩
      refine ⟨_, _, rfl, rfl, (by show (0 : Int) < 2147483629; decide), _, rfl, _, _, rfl, rfl, .inl ⟨by lia, by lia⟩, .inl ⟨_, _, rfl, rfl, .inl ⟨_, _, rfl, rfl, _, _, rfl, rfl, .inr ⟨by decide, by decide⟩, _, _, rfl, rfl, (by show (0 : Int) < 2147483587; decide), ?_⟩⟩⟩
      exact ⟨_, rfl, _, rfl, _, _, rfl, rfl, .inl (bm _ _ (by decide) (by decide)), _, _, rfl, rfl, (by show (0 : Int) < 2147483563; decide), q _ H1 ex1 dk1⟩
end
end K66
end
section
namespace K66
open PySem L2 Kn
theorem atI_mem {α : Type} {xs : List α} {r : Int} (h0 : 0 <= r) (h1 : r < xs.length) : ∃ v, atI xs r = some v /\ v ∈ xs := by
  obtain ⟨k, rfl⟩ : ∃ k : Nat, r = (k : Int) := ⟨r.toNat, by lia⟩
  have hk : k < xs.length := by lia
  exact ⟨xs[k], atI_nat (List.getElem?_eq_getElem hk), List.getElem_mem hk⟩
theorem mod_lt (a k : Int) (h : 0 < k) : 0 <= a % k /\ a % k < k := ⟨Int.emod_nonneg a (by lia), Int.emod_lt_of_pos a h⟩
theorem iteP {c A B : Prop} [Decidable c] (h : c) (x : A) : if c then A else B := by rw [if_pos h]; exact x
theorem iteN {c A B : Prop} [Decidable c] (h : ¬ c) (x : B) : if c then A else B := by rw [if_neg h]; exact x
theorem line1 {n : Nat} (h : n <= 1000) : n < sizeLine := Nat.lt_of_le_of_lt h (by decide)
theorem tallT {σ : St} {H : Hp} {A B : Hp -> Prop} (h : A H) : tAll σ H fun b H3 => if b = true then A H3 else B H3 := by
  show (if true = true then A H else B H)
  rw [if_pos rfl]; exact h
theorem gall {i : Nat} {x : V} {σ : St} {H : Hp} {A B : St -> Hp -> Prop} (h : A (σ.set i (some x)) H) : gName i x σ H fun σ2 H2 => tAll σ2 H2 fun b H3 => if b = true then A σ2 H3 else B σ2 H3 := by
  show (if true = true then A (σ.set i (some x)) H else B (σ.set i (some x)) H)
  rw [if_pos rfl]; exact h
section
variable {K : PySem.W.Frag}
structure GoodIt (J : It) (p : Addr) (o : HO) (us : List V) : Prop where
  go : ∀ i H', H' p = some o -> i < us.length -> J.go i H'
  yl : ∀ i H' x H'', H' p = some o -> J.yld i H' x H'' -> H'' = H' /\ us[i]? = some x
  st : ∀ i H', H' p = some o -> us.length <= i -> J.stop i H'
theorem iU {σ : St} {H : Hp} {i : Nat} {p : Addr} {o : HO} {us : List V} {R : It -> Hp -> Prop} (e : σ[i]? = some (some (.ref p))) (ho : o = .lst us \/ o = .tup us) (h : H p = some o) (key : ∀ J, GoodIt J p o us -> R J H) :
    iList K (tVar i) σ H R \/ iTup K (tVar i) σ H R := by
  rcases ho with rfl | rfl
  · exact .inl ⟨_, e, p, rfl, ⟨us, SqL.of h⟩, key _ ⟨fun i H' h l => ⟨us, _, SqL.of h, List.getElem?_eq_getElem l⟩, fun i H' x H'' h y => ⟨y.1, y.2 us (SqL.of h)⟩, fun i H' h l => ⟨us, SqL.of h, l⟩⟩⟩
  · exact .inr ⟨_, e, p, rfl, ⟨us, SqT.of h⟩, key _ ⟨fun i H' h l => ⟨us, _, SqT.of h, List.getElem?_eq_getElem l⟩, fun i H' x H'' h y => ⟨y.1, y.2 us (SqT.of h)⟩, fun i H' h l => ⟨us, SqT.of h, l⟩⟩⟩
end
inductive Qt where
  | num (n : Int)
  | word (s : Str)
  | var (x : Str)
  | at (f : Str) (t : Qt)
  | two (w : Str) (a b : Qt)
  | neg (a : Qt)
noncomputable def dQL : Qt -> List Dt
  | .num n => [.str "num", .int n]
  | .word s => [.str "word", .str s]
  | .var x => [.str "var", .str x]
  | .at f t => [.str "at", .str f, .tup (dQL t)]
  | .two w a b => [.str w, .tup (dQL a), .tup (dQL b)]
  | .neg a => [.str "not", .tup (dQL a)]
noncomputable def dQ (t : Qt) : Dt := .tup (dQL t)
noncomputable def nmQ : Qt -> List Str
  | .num _ => []
  | .word _ => []
  | .var x => [x]
  | .at _ t => nmQ t
  | .two _ a b => nmQ a ++ nmQ b
  | .neg a => nmQ a
noncomputable def W2 : List Str := ["add", "mul", "same", "under", "and", "or"]
noncomputable def QW : Nat -> Qt -> Prop
  | _, .num _ => True
  | _, .word _ => True
  | _, .var _ => True
  | 0, .at _ _ => False
  | n + 1, .at _ t => QW n t
  | 0, .two _ _ _ => False
  | n + 1, .two w a b => w ∈ W2 /\ QW n a /\ QW n b
  | 0, .neg _ => False
  | n + 1, .neg a => QW n a
theorem QW.up : ∀ {n : Nat} {t : Qt}, QW n t -> QW (n + 1) t
  | _, .num _, _ => trivial
  | _, .word _, _ => trivial
  | _, .var _, _ => trivial
  | 0, .at _ _, h => h.elim
  | n + 1, .at _ t, h => QW.up (n := n) (t := t) h
  | 0, .two _ _ _, h => h.elim
  | n + 1, .two w a b, h => ⟨h.1, QW.up (n := n) h.2.1, QW.up (n := n) h.2.2⟩
  | 0, .neg _, h => h.elim
  | n + 1, .neg a, h => QW.up (n := n) (t := a) h
theorem QW.mono {n m : Nat} {t : Qt} (l : n <= m) (h : QW n t) : QW m t := by
  induction l with
  | refl => exact h
  | step _ ih => exact ih.up
theorem QW.dep : ∀ {n : Nat} {t : Qt}, QW n t -> depL (dQL t) <= n
  | _, .num _, _ => by simp [dQL, depL, Dt.dep]
  | _, .word _, _ => by simp [dQL, depL, Dt.dep]
  | _, .var _, _ => by simp [dQL, depL, Dt.dep]
  | 0, .at _ _, h => h.elim
  | n + 1, .at _ t, h => by have := QW.dep (n := n) (t := t) h; simp only [dQL, depL, Dt.dep]; lia
  | 0, .two _ _ _, h => h.elim
  | n + 1, .two w a b, h => by
    have h1 := QW.dep (n := n) h.2.1
    have h2 := QW.dep (n := n) h.2.2
    simp only [dQL, depL, Dt.dep]; lia
  | 0, .neg _, h => h.elim
  | n + 1, .neg a, h => by have := QW.dep (n := n) (t := a) h; simp only [dQL, depL, Dt.dep]; lia
theorem nmQ_len : ∀ {n : Nat} {t : Qt}, QW n t -> (nmQ t).length <= 2 ^ n
  | n, .num _, _ => Nat.zero_le _
  | n, .word _, _ => Nat.zero_le _
  | n, .var _, _ => Nat.one_le_two_pow
  | 0, .at _ _, h => h.elim
  | n + 1, .at _ t, h => by have := nmQ_len (n := n) (t := t) h; show (nmQ t).length <= _; rw [Nat.pow_succ]; lia
  | 0, .two _ _ _, h => h.elim
  | n + 1, .two w a b, h => by
    have h1 := nmQ_len (n := n) h.2.1
    have h2 := nmQ_len (n := n) h.2.2
    show (nmQ a ++ nmQ b).length <= _
    rw [List.length_append, Nat.pow_succ]; lia
  | 0, .neg _, h => h.elim
  | n + 1, .neg a, h => by have := nmQ_len (n := n) (t := a) h; show (nmQ a).length <= _; rw [Nat.pow_succ]; lia
noncomputable def kidsQ : Qt -> List Qt
  | .num _ => []
  | .word _ => []
  | .var _ => []
  | .at _ t => [t]
  | .two _ a b => [a, b]
  | .neg a => [a]
theorem one_of {H : Hp} {d : Dt} {zs : List V} (h : IsDts H [d] zs) : ∃ u, zs = [u] /\ IsDt H d u := by
  rw [IsDts] at h
  obtain ⟨y, r, rfl, h1, h2⟩ := h
  rw [IsDts] at h2
  subst h2
  exact ⟨y, rfl, h1⟩
theorem cons_of {H : Hp} {d : Dt} {ds : List Dt} {zs : List V} (h : IsDts H (d :: ds) zs) : ∃ u r, zs = u :: r /\ IsDt H d u /\ IsDts H ds r := by
  rw [IsDts] at h
  exact h
theorem str_of {H : Hp} {x : Str} {u : V} (h : IsDt H (.str x) u) : u = .str x := by rw [IsDt] at h; exact h
theorem int_of {H : Hp} {x : Int} {u : V} (h : IsDt H (.int x) u) : u = .int x := by rw [IsDt] at h; exact h
theorem tup_of {H : Hp} {ds : List Dt} {u : V} (h : IsDt H (.tup ds) u) : ∃ a xs, u = .ref a /\ H a = some (.tup xs) /\ IsDts H ds xs := by rw [IsDt] at h; exact h
noncomputable def wdQ : Qt -> Str
  | .num _ => "num"
  | .word _ => "word"
  | .var _ => "var"
  | .at _ _ => "at"
  | .two w _ _ => w
  | .neg _ => "not"
theorem q_at {H : Hp} {t : Qt} {v : V} (h : IsDt H (dQ t) v) : ∃ a xs, v = .ref a /\ H a = some (.tup (.str (wdQ t) :: xs)) /\ IsDts H (dQL t) (.str (wdQ t) :: xs) := by
  obtain ⟨a, xs, rfl, h1, h2⟩ := tup_of h
  have : ∃ ds, dQL t = .str (wdQ t) :: ds := by cases t <;> exact ⟨_, rfl⟩
  obtain ⟨ds, e⟩ := this
  have h2' := h2
  rw [e] at h2'
  obtain ⟨u, r, rfl, h3, h4⟩ := cons_of h2'
  obtain rfl := str_of h3
  exact ⟨a, r, rfl, h1, h2⟩
theorem q_var {H : Hp} {x : Str} {v : V} (h : IsDt H (dQ (.var x)) v) : ∃ a, v = .ref a /\ H a = some (.tup [.str "var", .str x]) := by
  obtain ⟨a, xs, rfl, h1, h2⟩ := q_at h
  obtain ⟨u, r, e, h3, h4⟩ := cons_of h2
  cases e
  obtain ⟨u2, rfl, h5⟩ := one_of h4
  obtain rfl := str_of h5
  exact ⟨a, rfl, h1⟩
theorem q_atf {H : Hp} {f : Str} {t : Qt} {v : V} (h : IsDt H (dQ (.at f t)) v) : ∃ a u, v = .ref a /\ H a = some (.tup [.str "at", .str f, u]) /\ IsDt H (dQ t) u := by
  obtain ⟨a, xs, rfl, h1, h2⟩ := q_at h
  obtain ⟨u, r, e, h3, h4⟩ := cons_of h2
  cases e
  obtain ⟨u2, r2, rfl, h5, h6⟩ := cons_of h4
  obtain rfl := str_of h5
  obtain ⟨u3, rfl, h7⟩ := one_of h6
  exact ⟨a, u3, rfl, h1, h7⟩
theorem q_two {H : Hp} {w : Str} {b c : Qt} {v : V} (h : IsDt H (dQ (.two w b c)) v) : ∃ a u1 u2, v = .ref a /\ H a = some (.tup [.str w, u1, u2]) /\ IsDt H (dQ b) u1 /\ IsDt H (dQ c) u2 := by
  obtain ⟨a, xs, rfl, h1, h2⟩ := q_at h
  obtain ⟨u, r, e, h3, h4⟩ := cons_of h2
  cases e
  obtain ⟨u2, r2, rfl, h5, h6⟩ := cons_of h4
  obtain ⟨u3, rfl, h7⟩ := one_of h6
  exact ⟨a, u2, u3, rfl, h1, h5, h7⟩
noncomputable def atV : At -> V
  | .int i => .int i
  | .txt s => .str s
noncomputable abbrev Step := Str × List At
noncomputable def stV (s : Step) : List V := .str s.1 :: s.2.map atV
noncomputable def stD (s : Step) : Dt := .tup (.str s.1 :: s.2.map atD)
theorem isDt_atV {H : Hp} (a : At) : IsDt H (atD a) (atV a) := by
  cases a with
  | int i => exact isDt_int i
  | txt s => exact isDt_str s
theorem at_of {H : Hp} {a : At} {u : V} (h : IsDt H (atD a) u) : u = atV a := by
  cases a with
  | int i => exact int_of h
  | txt s => exact str_of h
theorem ats_of {H : Hp} : ∀ {as : List At} {xs : List V}, IsDts H (as.map atD) xs -> xs = as.map atV
  | [], xs, h => by rw [List.map_nil, IsDts] at h; exact h
  | a :: as, xs, h => by
    obtain ⟨u, r, rfl, h1, h2⟩ := cons_of (d := atD a) (ds := as.map atD) h
    rw [at_of h1, ats_of h2]
    rfl
theorem isDts_ats {H : Hp} : ∀ (as : List At), IsDts H (as.map atD) (as.map atV)
  | [] => .nil
  | a :: as => .cons (isDt_atV a) (isDts_ats as)
theorem st_of {H : Hp} {s : Step} {v : V} (h : IsDt H (stD s) v) : ∃ a, v = .ref a /\ H a = some (.tup (stV s)) := by
  obtain ⟨a, xs, rfl, h1, h2⟩ := tup_of h
  obtain ⟨u, r, rfl, h3, h4⟩ := cons_of h2
  obtain rfl := str_of h3
  rw [ats_of h4] at h1
  exact ⟨a, rfl, h1⟩
theorem st_is {H : Hp} {s : Step} {a : Addr} (h : H a = some (.tup (stV s))) : IsDt H (stD s) (.ref a) := isDt_tup h (.cons (isDt_str _) (isDts_ats _))
end K66
end
section
namespace K66
open PySem L2 Kn
noncomputable def HM : List Str := ["num", "word", "var", "table", "none", "at", "times", "for", "let"]
theorem inV_str (w : Str) : ∀ l : List Str, inV (.str w) (l.map V.str) = true ↔ w ∈ l
  | [] => by simp [inV]
  | x :: l => by
    have ih := inV_str w l
    unfold inV at ih ⊢
    rw [List.map_cons, List.any_cons, Bool.or_eq_true, ih, List.mem_cons]
    show (x == w) = true \/ _ ↔ _
    rw [beq_iff_eq]
    exact ⟨fun h => h.elim (fun e => .inl e.symm) .inr, fun h => h.elim (fun e => .inl e.symm) .inr⟩
theorem flat_strs (l : List Str) : (l.map V.str).all flatV = true := by rw [List.all_map]; exact List.all_eq_true.mpr fun _ _ => rfl
theorem cutN {xs : List V} {k : Nat} : cutV xs (some (k : Int)) none = xs.drop k := by
  unfold cutV
  rw [HT.sIx_nat, show HT.sIx xs.length xs.length none = xs.length from rfl]
  rw [List.take_of_length_le (by rw [List.length_drop]; lia)]
  by_cases h : k <= xs.length
  · rw [Nat.min_eq_left h]
  · rw [List.drop_of_length_le (by lia), List.drop_of_length_le (by lia)]
theorem ncutN {xs : List V} {k : Nat} (h : 0 < k) (h2 : 0 < xs.length) : ¬ (HT.sIx xs.length 0 (some (k : Int)) = 0 /\ HT.sIx xs.length xs.length none = xs.length) := fun z => by
  rw [HT.sIx_nat] at z; lia
noncomputable def isI : At -> Bool
  | .int _ => true
  | .txt _ => false
theorem vne {a b : Str} (h : a ≠ b) : ¬ decide (V.str a = V.str b) = true := fun z => h (by have := of_decide_eq_true z; injection this)
theorem veq {a : Str} : decide (V.str a = V.str a) = true := decide_eq_true rfl
noncomputable def AllW : List Str := ["num", "word", "var", "at", "not", "add", "mul", "same", "under", "and", "or"]
theorem wd_mem {n : Nat} {t : Qt} (h : QW n t) : wdQ t ∈ AllW := by
  cases t with
  | num _ => show (Str.ofString "num") ∈ AllW; decide +kernel
  | word _ => show (Str.ofString "word") ∈ AllW; decide +kernel
  | var _ => show (Str.ofString "var") ∈ AllW; decide +kernel
  | «at» _ _ => show (Str.ofString "at") ∈ AllW; decide +kernel
  | neg _ => show (Str.ofString "not") ∈ AllW; decide +kernel
  | two w b c =>
    cases n with
    | zero => exact h.elim
    | succ n =>
      have := h.1
      show w ∈ AllW
      unfold W2 at this
      simp only [List.mem_cons, List.not_mem_nil, or_false] at this
      rcases this with rfl | rfl | rfl | rfl | rfl | rfl <;> decide +kernel
theorem allW_row : ∀ w ∈ AllW, w ≠ Str.ofString "row" := by decide +kernel
theorem allW_for : ∀ w ∈ AllW, w ∉ ([Str.ofString "for", Str.ofString "let"] : List Str) := by decide +kernel
theorem w2_hm : ∀ w ∈ W2, w ∉ HM := by decide +kernel
section
variable {P : Program} {w : World} {K : PySem.W.Frag} {mg : Str -> Option Value} {base : Heap} {f f_under f_bound : Addr} {fd fd_under fd_bound : FuncData} {aH : Addr}
theorem sc_is_whole : FnScope ["thing"] ["thing"] (defScope (top 1)) := ⟨rfl, rfl, rfl, by decide +kernel, rfl, by decide +kernel, by decide +kernel⟩
noncomputable def spWhole : Sp := fun vs H Q _ => ∃ a : At, vs = [atV a] /\ Q (.bl (isI a)) H
theorem ok_whole (T : Tx mg) (D : Df K mg "is_whole" (top 1) f fd ["thing"]) : FnOk P w K mg base CX0 1 f fd ["thing"] spWhole := by
  refine D.fn.okH sc_is_whole (fun vs H Q E h => ?_) (fun cdv A outer s H vs Q E hr h => ?_)
  · obtain ⟨a, rfl, _⟩ := h; rfl
  obtain ⟨a, rfl, fin⟩ := h
  have hu := u110 hr
  refine ⟨_, (wss_one (ws_ret (we_and (we_callB call_isiX rfl T.z_isinstance bt_isinstance (wa_cons (wv 0) (wa_cons (we_bltn rfl T.z_int bt_int (relv_ty _)) wa_nil))) (we_one (we_not (we_callB call_isiX rfl T.z_isinstance bt_isinstance (wa_cons (wv 0) (wa_cons (we_bltn rfl T.z_bool bt_bool (relv_ty _)) wa_nil)))))))), ?_⟩
  cases a with
  | int i => exact ⟨_, rfl, .inr ⟨_, true, rfl, .inl ⟨⟨i, rfl⟩, rfl⟩, true, rfl, iteP rfl ⟨_, rfl, .inl (.inr ⟨_, _, false, rfl, .inr (.inl ⟨rfl, ⟨i, rfl⟩, rfl⟩), false, rfl, fin⟩)⟩⟩⟩
  | txt z => exact ⟨_, rfl, .inr ⟨_, false, rfl, .inr ⟨⟨z, rfl⟩, rfl⟩, false, rfl, iteN (by decide) fin⟩⟩
theorem sc_under : FnScope ["question"] ["question"] (defScope (top 4)) := ⟨rfl, rfl, rfl, by decide +kernel, rfl, by decide +kernel, by decide +kernel⟩
noncomputable def spUnder : Sp := fun vs H Q _ => ∃ (v : V) (t : Qt) (n : Nat), vs = [v] /\ IsDt H (dQ t) v /\ QW n t /\
  ∀ (a : Addr) (us : List V) (H' : Hp), Same H H' -> H' a = some (.tup us) -> IsDts H' ((kidsQ t).map dQ) us -> Q (.ref a) H'
theorem ok_under (T : Tx mg) (g_HAVE_MORE : mg "HAVE_MORE" = some (.ref aH)) (hHM : ∀ H, SqT K H aH (HM.map V.str)) (D : Df K mg "under" (top 4) f fd ["question"]) : FnOk P w K mg base CX0 1 f fd ["question"] spUnder := by
  refine D.fn.okH sc_under (fun vs H Q E h => ?_) (fun cdv A outer s H vs Q E hr h => ?_)
  · obtain ⟨v, t, n, rfl, _⟩ := h; rfl
  obtain ⟨v, t, n, rfl, hx, qw, fin⟩ := h
  have hu := u110 hr
  have hu0 := u0 hr
  have hu1 := hu_of hr
  refine ⟨_, (wss_cons (ws_if (wt_cmpR (op_eqU hu) (we_ix (ix_U hu1) (wv 0) we_int (fun _ _ => rfl)) we_str (nomark _)) (wss_one (ws_ret (we_callTy call_tuple_of rfl T.z_tuple bt_tuple (wa_cons (we_lc (Nt := ["field", "part"]) (fr := []) (LcOk.of (sc := defScope (top 4)) (N := ["question"]) rfl rfl (by decide +kernel)) rfl (wi_U (we_ix (ix_U hu1) (wv 0) we_int (fun _ _ => rfl))) (fun z => wg_tup rfl (wgs_cons (wg_name (i := 0) (by show (["field", "part"] : List Str).Nodup; decide +kernel) rfl (Or.inl rfl) (.inr rfl)) (wgs_cons (wg_name (i := 1) (by show (["field", "part"] : List Str).Nodup; decide +kernel) rfl (Or.inl rfl) (.inr rfl)) wgs_nil))) (fun z => tgt_two (by decide) (by decide)) (fun z => wif_nil) (fun z => (wv 1))) wa_nil)))) wss_nil)
      (wss_one (ws_ret (we_ifExp (wt_cmpR (op_inU hu) (we_ix (ix_U hu1) (wv 0) we_int (fun _ _ => rfl)) (we_glob rfl g_HAVE_MORE (relv_ref _)) (by with_unfolding_all rfl)) (we_slice sl_U (wv 0) (wo_some we_int) wo_none) (we_slice sl_U (wv 0) (wo_some we_int) wo_none))))), ?_⟩
  obtain ⟨a, xs, rfl, ha, hxs⟩ := q_at hx
  have hw : wdQ t ≠ "row" := allW_row _ (wd_mem qw)
  refine ⟨_, rfl, (ixt (v := .str (wdQ t)) (SqT.of ha) (show atI (V.str (wdQ t) :: xs) ((0 : Nat) : Int) = _ from atI_nat rfl) (.inl ⟨rfl, _, rfl, iteN (vne hw) ?_⟩))⟩
  refine ⟨_, rfl, (ixt (v := .str (wdQ t)) (SqT.of ha) (show atI (V.str (wdQ t) :: xs) ((0 : Nat) : Int) = _ from atI_nat rfl) (.inl ⟨aH, _, rfl, .inr (hHM H), rfl, flat_strs HM, _, rfl, ?_⟩))⟩
  have key : ∀ k : Nat, IsDts H ((kidsQ t).map dQ) ((V.str (wdQ t) :: xs).drop k) -> ∀ q, H q = none -> Q (.ref q) (upd H q (.tup (cutV (V.str (wdQ t) :: xs) (some (k : Int)) none))) := fun k hk q hq => by
    rw [cutN]
    exact fin q _ _ (same_new hq _) upd_same (IsDts.mono (same_new hq _).tups hk)
  refine ite2 (fun e => ?_) (fun e => ?_)
  · have hm : wdQ t ∈ HM := (inV_str (wdQ t) HM).mp e
    refine ⟨_, rfl, _, rfl, .inr (.inl ⟨a, _, rfl, SqT.of ha, ncutN (k := 2) (by decide) (by simp), fun q hq => key 2 ?_ q hq⟩)⟩
    obtain ⟨u, r, e0, h3, h4⟩ : ∃ u r, V.str (wdQ t) :: xs = u :: r /\ True /\ True := ⟨_, _, rfl, trivial, trivial⟩
    cases t with
    | num i => obtain ⟨_, _, e1, _, h2⟩ := cons_of hxs; cases e1; obtain ⟨_, rfl, _⟩ := one_of h2; exact .nil
    | word i => obtain ⟨_, _, e1, _, h2⟩ := cons_of hxs; cases e1; obtain ⟨_, rfl, _⟩ := one_of h2; exact .nil
    | var i => obtain ⟨_, _, e1, _, h2⟩ := cons_of hxs; cases e1; obtain ⟨_, rfl, _⟩ := one_of h2; exact .nil
    | «at» f t => obtain ⟨_, _, e1, _, h2⟩ := cons_of hxs; cases e1; obtain ⟨_, _, rfl, _, h3⟩ := cons_of h2; exact h3
    | two w b c =>
      exfalso
      cases n with
      | zero => exact qw.elim
      | succ n => exact w2_hm _ qw.1 hm
    | neg b => exfalso; revert hm; show (Str.ofString "not") ∈ HM -> False; decide +kernel
  · have hm : wdQ t ∉ HM := fun z => e ((inV_str (wdQ t) HM).mpr z)
    refine ⟨_, rfl, _, rfl, .inr (.inl ⟨a, _, rfl, SqT.of ha, ncutN (k := 1) (by decide) (by simp), fun q hq => key 1 ?_ q hq⟩)⟩
    cases t with
    | num i => exact absurd (show (Str.ofString "num") ∈ HM by decide +kernel) hm
    | word i => exact absurd (show (Str.ofString "word") ∈ HM by decide +kernel) hm
    | var i => exact absurd (show (Str.ofString "var") ∈ HM by decide +kernel) hm
    | «at» f t => exact absurd (show (Str.ofString "at") ∈ HM by decide +kernel) hm
    | two w b c => obtain ⟨_, _, e1, _, h2⟩ := cons_of hxs; cases e1; exact h2
    | neg b => obtain ⟨_, _, e1, _, h2⟩ := cons_of hxs; cases e1; exact h2
theorem sc_bound_in : FnScope ["question", "place"] ["question", "place"] (defScope (top 6)) := ⟨rfl, rfl, rfl, by decide +kernel, rfl, by decide +kernel, by decide +kernel⟩
noncomputable def spBound : Sp := fun vs H Q _ => ∃ (v : V) (t : Qt) (n : Nat) (i : Int), vs = [v, .int i] /\ IsDt H (dQ t) v /\ QW n t /\ ∀ (a : Addr) (H' : Hp), Same H H' -> H' a = some (.tup []) -> Q (.ref a) H'
theorem ok_bound (T : Tx mg) (D : Df K mg "bound_in" (top 6) f fd ["question", "place"]) : FnOk P w K mg base CX0 1 f fd ["question", "place"] spBound := by
  refine D.fn.okH sc_bound_in (fun vs H Q E h => ?_) (fun cdv A outer s H vs Q E hr h => ?_)
  · obtain ⟨v, t, n, i, rfl, _⟩ := h; rfl
  obtain ⟨v, t, n, i, rfl, hx, qw, fin⟩ := h
  have hu := u110 hr
  have hu0 := u0 hr
  have hu1 := hu_of hr
  refine ⟨_, (wss_cons (ws_if (wt_pw (ww_and (wt_cmpR (op_inU hu) (we_ix (ix_U hu1) (wv 0) we_int (fun _ _ => rfl)) (we_tup (wa_consts rfl)) (by with_unfolding_all rfl)) (ww_and1 (wt_cmpR (op_eqU hu) (wv 1) we_int (nomark _))))) (wss_one (ws_ret (we_tup (wa_cons (we_ix (ix_U hu1) (wv 0) we_int (fun _ _ => rfl)) wa_nil)))) wss_nil)
      (wss_one (ws_ret (we_tup wa_nil)))), ?_⟩
  obtain ⟨X', gX'⟩ : ∃ X', X' = (cxOf CX0 P w K mg base ["question", "place"] "bound_in" (defScope (top 6)) f cdv A outer s H E).nox := ⟨_, rfl⟩
  try rw [<- gX']
  clear gX'
  obtain ⟨a, xs, rfl, ha, hxs⟩ := q_at hx
  have hw : wdQ t ∉ (["for", "let"] : List Str) := allW_for _ (wd_mem qw)
  refine ⟨_, rfl, (ixt (v := .str (wdQ t)) (SqT.of ha) (show atI (V.str (wdQ t) :: xs) ((0 : Nat) : Int) = _ from atI_nat rfl) ⟨(by show 2 <= sizeLine; decide), fun l hl => .inl ⟨l, _, rfl, .inr (SqT.of upd_same), rfl, rfl, _, rfl, ?_⟩⟩)⟩
  refine iteN (fun z => hw ((inV_str (wdQ t) ["for", "let"]).mp z)) ?_
  refine iteN (by decide) ?_
  exact ⟨(by show 0 <= sizeLine; decide), fun q hq => fin q _ ((same_new hl _).trans (same_new hq _)) upd_same⟩
end
end K66
end
section
namespace K66
open PySem L2 Kn
noncomputable def szQ : Qt -> Nat
  | .num _ => 1
  | .word _ => 1
  | .var _ => 1
  | .at _ t => 1 + szQ t
  | .two _ a b => 1 + szQ a + szQ b
  | .neg a => 1 + szQ a
noncomputable def nL (ts : List Qt) : Nat := (ts.map fun t => (nmQ t).length).sum
noncomputable def sL (ts : List Qt) : Nat := (ts.map szQ).sum
theorem nL_app (a b : List Qt) : nL (a ++ b) = nL a + nL b := by unfold nL; rw [List.map_append, List.sum_append]
theorem sL_app (a b : List Qt) : sL (a ++ b) = sL a + sL b := by unfold sL; rw [List.map_append, List.sum_append]
theorem sL_kids (t : Qt) : sL (kidsQ t) + 1 = szQ t := by cases t <;> simp [kidsQ, sL, szQ] <;> lia
theorem sz_pos (t : Qt) : 1 <= szQ t := by cases t <;> simp [szQ] <;> lia
theorem len_sL (ts : List Qt) : ts.length <= sL ts := by
  induction ts with
  | nil => exact Nat.zero_le _
  | cons t ts ih => have := sz_pos t; show ts.length + 1 <= szQ t + sL ts; lia
theorem szQ_le : ∀ {n : Nat} {t : Qt}, QW n t -> szQ t + 1 <= 2 ^ (n + 1)
  | n, .num _, _ => by have := Nat.one_le_two_pow (n := n); show 2 <= _; rw [Nat.pow_succ]; lia
  | n, .word _, _ => by have := Nat.one_le_two_pow (n := n); show 2 <= _; rw [Nat.pow_succ]; lia
  | n, .var _, _ => by have := Nat.one_le_two_pow (n := n); show 2 <= _; rw [Nat.pow_succ]; lia
  | 0, .at _ _, h => h.elim
  | n + 1, .at _ t, h => by
    have := szQ_le (n := n) (t := t) h
    have := Nat.one_le_two_pow (n := n)
    show 1 + szQ t + 1 <= _; rw [Nat.pow_succ, Nat.pow_succ] at *; lia
  | 0, .two _ _ _, h => h.elim
  | n + 1, .two w a b, h => by
    have h1 := szQ_le (n := n) h.2.1
    have h2 := szQ_le (n := n) h.2.2
    show 1 + szQ a + szQ b + 1 <= _; rw [Nat.pow_succ]; lia
  | 0, .neg _, h => h.elim
  | n + 1, .neg a, h => by
    have := szQ_le (n := n) (t := a) h
    have := Nat.one_le_two_pow (n := n)
    show 1 + szQ a + 1 <= _; rw [Nat.pow_succ, Nat.pow_succ] at *; lia
theorem kids_qw {n : Nat} {t : Qt} (h : QW n t) : ∀ k ∈ kidsQ t, QW n k := by
  cases t with
  | num _ => intro k hk; cases hk
  | word _ => intro k hk; cases hk
  | var _ => intro k hk; cases hk
  | «at» f t =>
    cases n with
    | zero => exact h.elim
    | succ n => intro k hk; rw [List.mem_singleton.mp hk]; exact QW.up (n := n) (t := t) h
  | two w a b =>
    cases n with
    | zero => exact h.elim
    | succ n =>
      intro k hk
      rcases List.mem_cons.mp hk with rfl | hk
      · exact QW.up (n := n) h.2.1
      · rw [List.mem_singleton.mp hk]; exact QW.up (n := n) h.2.2
  | neg t =>
    cases n with
    | zero => exact h.elim
    | succ n => intro k hk; rw [List.mem_singleton.mp hk]; exact QW.up (n := n) (t := t) h
theorem kids_nm {t : Qt} (h : ∀ x, t ≠ .var x) : (∀ x, x ∈ nmQ t ↔ ∃ k ∈ kidsQ t, x ∈ nmQ k) /\ nL (kidsQ t) = (nmQ t).length := by
  cases t with
  | var x => exact absurd rfl (h x)
  | _ => simp [nmQ, kidsQ, nL]
theorem kids_len (t : Qt) : (kidsQ t).length <= 2 := by cases t <;> simp [kidsQ]
noncomputable def WItem (H : Hp) (t : Qt) (u : V) : Prop := ∃ c v b, u = .ref c /\ H c = some (.tup [v, .ref b]) /\ H b = some (.tup []) /\ IsDt H (dQ t) v
noncomputable abbrev WL (H : Hp) : List Qt -> List V -> Prop := Paired (WItem H)
theorem WItem.mono {H H' : Hp} (s : Tups H H') {t : Qt} {u : V} (h : WItem H t u) : WItem H' t u := by
  obtain ⟨c, v, b, e, h1, h2, h3⟩ := h
  exact ⟨c, v, b, e, s _ _ h1, s _ _ h2, IsDt.mono s h3⟩
theorem WL.mono {H H' : Hp} (s : Tups H H') {ts : List Qt} {us : List V} (h : WL H ts us) : WL H' ts us := Paired.mapP h fun _ _ z => z.mono s
theorem paired_last {α β : Type} {F : α -> β -> Prop} : ∀ {l : List α} {m : List β} {a : α}, Paired F (l ++ [a]) m -> ∃ m' b, m = m' ++ [b] /\ Paired F l m' /\ F a b
  | [], _, a, h => by
    cases h with
    | cons r t => cases t; exact ⟨[], _, rfl, .nil, r⟩
  | x :: l, _, a, h => by
    cases h with
    | cons r t =>
      obtain ⟨m', b, rfl, h1, h2⟩ := paired_last t
      exact ⟨_ :: m', b, rfl, .cons r h1, h2⟩
section
variable {P : Program} {w : World} {K : PySem.W.Frag} {mg : Str -> Option Value} {base : Heap} {f f_under f_bound : Addr} {fd fd_under fd_bound : FuncData}
theorem sc_free : FnScope ["question", "found", "waiting", "part", "bound", "place", "inner"] ["question"] (defScope (top 5)) := ⟨rfl, rfl, rfl, by decide +kernel, rfl, by decide +kernel, by decide +kernel⟩
noncomputable def spFree : Sp := fun vs H Q _ => ∃ (v : V) (t : Qt), vs = [v] /\ IsDt H (dQ t) v /\ QW 5 t /\
  ∀ (p : Addr) (ys : List Str) (H' : Hp), Same H H' -> H' p = some (.lst (ys.map V.str)) -> (∀ x, x ∈ ys ↔ x ∈ nmQ t) -> ys.length <= 32 -> Q (.ref p) H'
theorem ok_free (T : Tx mg) (D : Df K mg "free" (top 5) f fd ["question"]) (D_under : Df K mg "under" (top 4) f_under fd_under ["question"]) (G_under : FnOk P w K mg base CX0 1 f_under fd_under ["question"] spUnder)
    (D_bound_in : Df K mg "bound_in" (top 6) f_bound fd_bound ["question", "place"]) (G_bound_in : FnOk P w K mg base CX0 1 f_bound fd_bound ["question", "place"] spBound) :
    FnOk P w K mg base CX0 2 f fd ["question"] spFree := by
  refine D.fn.okH sc_free (fun vs H Q E h => ?_) (fun cdv A outer s H vs Q E hr h => ?_)
  · obtain ⟨v, t, rfl, _⟩ := h; rfl
  obtain ⟨v, t0, rfl, hx, qw, fin⟩ := h
  have hu := u110 hr
  have hu0 := u0 hr
  have hu1 := hu_of hr
  refine ⟨_, (wss_cons (ws_set (i := 1) sc_free.nd rfl (Or.inl rfl) (we_lst wa_nil))
      (wss_cons (ws_set (i := 2) sc_free.nd rfl (Or.inl rfl) (we_lst (wa_cons (we_tup (wa_cons (wv 0) (wa_cons (we_tup wa_nil) wa_nil))) wa_nil)))
      (wss_cons (ws_while PassesOwn.never (wt_truth (wv 2) (fun _ => rfl)) (wss_cons (ws_asg (we_bm0 PySem.F.plainAttrs_list PySem.F.slot_list_pop PySem.F.type_list_pop mt_pop (wv 2)) (wg_tup rfl (wgs_cons (wg_name (i := 3) sc_free.nd rfl (Or.inl rfl)) (wgs_cons (wg_name (i := 4) sc_free.nd rfl (Or.inl rfl)) wgs_nil))))
      (wss_cons (ws_if (wt_pw (ww_and (wt_cmpR (op_eqU hu) (we_ix (ix_U hu1) (wv 3) we_int (fun _ _ => rfl)) we_str (nomark _)) (ww_and1 (wt_cmpR (op_notInU hu) (we_ix (ix_U hu1) (wv 3) we_int (fun _ _ => rfl)) (wv 4) (by with_unfolding_all rfl))))) (wss_one (ws_expr (we_bm PySem.F.plainAttrs_list PySem.F.slot_list_append PySem.F.type_list_append mt_append (wv 1) (wa_cons (we_ix (ix_U hu1) (wv 3) we_int (fun _ _ => rfl)) wa_nil)))) wss_nil)
      (wss_one (ws_for PassesOwn.never rfl (wi_enumT rfl T.z_enumerate (wa_cons (we_call G_under (hr.mono (by lia)) rfl D_under.mg D_under.kp D_under.b .nil pass0 (wa_cons (wv 3) wa_nil)) wa_nil)) (wg_tup rfl (wgs_cons (wg_name (i := 5) sc_free.nd rfl (Or.inl rfl)) (wgs_cons (wg_name (i := 6) sc_free.nd rfl (Or.inl rfl)) wgs_nil))) (wss_one (ws_expr (we_bm PySem.F.plainAttrs_list PySem.F.slot_list_append PySem.F.type_list_append mt_append (wv 2) (wa_cons (we_tup (wa_cons (wv 6) (wa_cons (we_op op_plus (wv 4) (we_call G_bound_in (hr.mono (by lia)) rfl D_bound_in.mg D_bound_in.kp D_bound_in.b .nil pass0 (wa_cons (wv 3) (wa_cons (wv 5) wa_nil)))) wa_nil))) wa_nil)))))))))
      (wss_one (ws_ret (we_ss rfl rfl T.z_sorted rfl T.z_set (wv 1))))))), ?_⟩
  obtain ⟨X', gX'⟩ : ∃ X', X' = (cxOf CX0 P w K mg base ["question", "found", "waiting", "part", "bound", "place", "inner"] "free" (defScope (top 5)) f cdv A outer s H E).nox := ⟨_, rfl⟩
  try rw [<- gX']
  clear gX'
  refine ⟨(by show 0 <= sizeLine; decide), fun p hp => ?_⟩
  refine ⟨_, rfl, (by show 0 <= sizeLine; decide), fun b0 hb0 => ⟨(by show 2 <= sizeLine; decide), fun t1 ht1 => ⟨(by show 1 <= sizeLine; decide), fun l hl => ?_⟩⟩⟩
  have sA := same_new hp (.lst [])
  have sB := sA.trans (same_new hb0 (.tup []))
  have sC := sB.trans (same_new ht1 (.tup [v, .ref b0]))
  have sD := sC.trans (same_new hl (.lst [.ref t1]))
  have hpD : (upd (upd (upd (upd H p (.lst [])) b0 (.tup [])) t1 (.tup [v, .ref b0])) l (.lst [.ref t1])) p = some (.lst []) := same_new hl _ _ _ (same_new ht1 _ _ _ (same_new hb0 _ _ _ upd_same))
  have hbD : (upd (upd (upd (upd H p (.lst [])) b0 (.tup [])) t1 (.tup [v, .ref b0])) l (.lst [.ref t1])) b0 = some (.tup []) := same_new hl _ _ _ (same_new ht1 _ _ _ upd_same)
  have htD : (upd (upd (upd (upd H p (.lst [])) b0 (.tup [])) t1 (.tup [v, .ref b0])) l (.lst [.ref t1])) t1 = some (.tup [v, .ref b0]) := same_new hl _ _ _ upd_same
  have hlD : (upd (upd (upd (upd H p (.lst [])) b0 (.tup [])) t1 (.tup [v, .ref b0])) l (.lst [.ref t1])) l = some (.lst [.ref t1]) := upd_same
  have hlH : H l = none := by
    cases e : H l with
    | none => rfl
    | some u => rw [sC _ _ e] at hl; cases hl
  generalize upd (upd (upd (upd H p (.lst [])) b0 (.tup [])) t1 (.tup [v, .ref b0])) l (.lst [.ref t1]) = H1 at sD hpD hbD htD hlD ⊢
  have npl : p ≠ l := fun z => by rw [z, hlD] at hpD; cases hpD
  have szb := szQ_le qw
  have nmb := nmQ_len qw
  refine ⟨fun m σ H' => ∃ (zs : List Str) (ts : List Qt) (us : List V) (o3 o4 o5 o6 : Option V), σ = [some v, some (.ref p), some (.ref l), o3, o4, o5, o6] /\ Same H H' /\ H' p = some (.lst (zs.map V.str)) /\ H' l = some (.lst us) /\ WL H' ts us /\ (∀ t ∈ ts, QW 5 t) /\ (∀ x, x ∈ nmQ t0 ↔ x ∈ zs \/ ∃ t ∈ ts, x ∈ nmQ t) /\ zs.length + nL ts = (nmQ t0).length /\ m = sL ts /\ sL ts <= szQ t0,
    ⟨_, [], [t0], [.ref t1], none, none, none, none, rfl, sD, hpD, hlD, .cons ⟨t1, v, b0, rfl, htD, hbD, IsDt.mono sD.tups hx⟩ .nil, fun t ht => by rw [List.mem_singleton.mp ht]; exact qw, fun x => by simp, by simp [nL], rfl, by simp [sL]⟩, ?_⟩
  rintro m σ H' ⟨zs, ts, us, o3, o4, o5, o6, rfl, sH, hP, hL, hw, qts, nms, cnt, rfl, lsz⟩
  refine ⟨_, rfl, _, .inl ⟨us, SqL.of hL, rfl⟩, ?_⟩
  rcases List.eq_nil_or_concat ts with rfl | ⟨rest, t, ets⟩
  · cases hw
    refine iteF ?_
    refine ⟨_, rfl, p, zs, rfl, hP, by simp [nL] at cnt; lia, fun q ys hq nd mem srt => ?_⟩
    refine fin q ys _ (sH.trans (same_new hq _)) upd_same (fun x => (mem x).trans ?_) ?_
    · rw [nms]; simp
    · have h1 : ys.length <= zs.length := by
        have key : ∀ {l m : List Str}, l.Nodup -> (∀ x ∈ l, x ∈ m) -> l.length <= m.length := by
          intro l
          induction l with
          | nil => intro m _ _; exact Nat.zero_le _
          | cons a l ih =>
            intro m nd h
            rw [List.nodup_cons] at nd
            have ha : a ∈ m := h a List.mem_cons_self
            have ih' := ih (m := m.erase a) nd.2 fun x hx => (List.mem_erase_of_ne (fun e : x = a => nd.1 (by rw [<- e]; exact hx))).mpr (h x (List.mem_cons_of_mem _ hx))
            rw [List.length_erase_of_mem ha] at ih'
            have : 0 < m.length := List.length_pos_of_mem ha
            rw [List.length_cons]
            lia
        exact key nd fun x hx => (mem x).mp hx
      simp [nL] at cnt
      lia
  · rw [List.concat_eq_append] at ets
    subst ets
    obtain ⟨ys, y, rfl, hys, hy⟩ := paired_last hw
    have ne : (!(ys ++ [y]).isEmpty) = true := by simp
    refine iteP ne ?_
    refine wh_hideD fun E' toN _ _ _ => ?_
    refine ⟨_, rfl, .inl ⟨rfl, _, SqL.of hL⟩, l, ys ++ [y], y, rfl, rfl, hL, by simp, ?_⟩
    rw [List.dropLast_concat]
    have sH3 : Same H (upd H' l (.lst ys)) := fun b o e => by rw [upd_ne (ne_of_none e hlH)]; exact sH b o e
    have t3 : Tups H' (upd H' l (.lst ys)) := Tups.lst hL
    have hP3 : (upd H' l (.lst ys)) p = some (.lst (zs.map V.str)) := by rw [upd_ne npl]; exact hP
    have hL3 : (upd H' l (.lst ys)) l = some (.lst ys) := upd_same
    have hys3 := WL.mono t3 hys
    obtain ⟨c, pv, b, rfl, hc3, hb3, ip3⟩ := hy.mono t3
    generalize upd H' l (.lst ys) = H3 at sH3 t3 hP3 hL3 hys3 hc3 hb3 ip3 ⊢
    have qt : QW 5 t := qts t (by simp)
    have sz1 := sL_app rest [t]
    have sz2 : sL [t] = szQ t := by simp [sL]
    have sz3 := sL_kids t
    have nn := nL_app rest [t]
    have nn2 : nL [t] = (nmQ t).length := by simp [nL]
    have lrest := len_sL rest
    have lys : ys.length = rest.length := (Paired.length hys).symm
    refine ⟨c, _, rfl, SqT.of hc3, rfl, _, _, rfl, _, _, rfl, rfl, ?_⟩
    have ip := ip3
    obtain ⟨a, xs, rfl, ha, hxs⟩ := q_at ip3
    refine ⟨_, rfl, (ixt (v := .str (wdQ t)) (SqT.of ha) (show atI (V.str (wdQ t) :: xs) ((0 : Nat) : Int) = _ from atI_nat rfl) (.inl ⟨rfl, _, rfl, ?_⟩))⟩
    by_cases hv : ∃ x, t = .var x
    · obtain ⟨x, rfl⟩ := hv
      obtain ⟨a', e1, ha'⟩ := q_var ip
      cases e1
      rw [ha] at ha'
      have exs : xs = [.str x] := by injection ha' with ha'; injection ha' with ha'; injection ha' with _ ha'
      subst exs
      refine iteP veq ?_
      refine ⟨_, rfl, (ixt (v := .str x) (SqT.of ha) rfl ⟨_, rfl, .inl ⟨b, [], rfl, .inr (SqT.of hb3), rfl, rfl, _, rfl, ?_⟩⟩)⟩
      refine iteP rfl ?_
      refine ⟨_, rfl, .inl ⟨rfl, _, SqL.of hP3⟩, _, rfl, (ixt (v := .str x) (SqT.of ha) rfl ⟨p, _, _, rfl, rfl, hP3, ?_, ?_⟩)⟩
      · rw [List.length_map]; exact line1 (by lia)
      have t4 : Tups H3 (upd H3 p (.lst (zs.map V.str ++ [.str x]))) := Tups.lst hP3
      have sH4 : Same H (upd H3 p (.lst (zs.map V.str ++ [.str x]))) := fun b o e => by rw [upd_ne (ne_of_none e hp)]; exact sH3 b o e
      have hP4 : (upd H3 p (.lst (zs.map V.str ++ [.str x]))) p = some (.lst ((zs ++ [x]).map V.str)) := by rw [upd_same, List.map_append]; rfl
      have hL4 : (upd H3 p (.lst (zs.map V.str ++ [.str x]))) l = some (.lst ys) := by rw [upd_ne npl.symm]; exact hL3
      have hys4 := WL.mono t4 hys3
      have ip4 := IsDt.mono t4 ip
      generalize upd H3 p (.lst (zs.map V.str ++ [.str x])) = H4 at sH4 hP4 hL4 hys4 ip4 ⊢
      refine ⟨_, rfl, _, .var x, 5, rfl, ip4, qt, fun ku kus H5 s5 hku iku => ⟨ku, _, rfl, SqT.of hku, ?_⟩⟩
      rw [kidsQ, List.map_nil, IsDts] at iku
      subst iku
      refine ⟨fun i m σ H' => i = 0 /\ m = 0 /\ H' = H5 /\ σ = [some v, some (.ref p), some (.ref l), some (.ref a), some (.ref b), o5, o6], ⟨0, rfl, rfl, rfl, rfl⟩, ?_⟩
      rintro i m σ H' ⟨rfl, rfl, rfl, rfl⟩
      refine .inl ⟨⟨[], SqT.of hku, Nat.le_refl _⟩, ?_⟩
      refine toN _ _ ⟨sL rest, by lia, zs ++ [x], rest, ys, _, _, _, _, rfl, sH4.trans s5, s5 _ _ hP4, s5 _ _ hL4, WL.mono s5.tups hys4, fun t ht => qts t (List.mem_append_left _ ht), fun z => ?_, ?_, rfl, by lia⟩
      · rw [nms]
        constructor
        · rintro (h | ⟨t, ht, h⟩)
          · exact .inl (List.mem_append_left _ h)
          · rcases List.mem_append.mp ht with ht | ht
            · exact .inr ⟨t, ht, h⟩
            · rw [List.mem_singleton.mp ht] at h
              exact .inl (List.mem_append_right _ h)
        · rintro (h | ⟨t, ht, h⟩)
          · rcases List.mem_append.mp h with h | h
            · exact .inl h
            · exact .inr ⟨.var x, by simp, h⟩
          · exact .inr ⟨t, List.mem_append_left _ ht, h⟩
      · rw [List.length_append]
        have : (nmQ (.var x)).length = 1 := rfl
        show zs.length + 1 + nL rest = _
        lia
    · have hv' : ∀ x, t ≠ .var x := fun x z => hv ⟨x, z⟩
      have hwd : wdQ t ≠ "var" := by
        cases t with
        | var x => exact absurd rfl (hv' x)
        | two w b c => exact fun z => by have := qt.1; rw [show w = Str.ofString "var" from z] at this; revert this; decide +kernel
        | num _ => exact fun z => absurd (show Str.ofString "num" = Str.ofString "var" from z) (by decide)
        | word _ => exact fun z => absurd (show Str.ofString "word" = Str.ofString "var" from z) (by decide)
        | «at» _ _ => exact fun z => absurd (show Str.ofString "at" = Str.ofString "var" from z) (by decide)
        | neg _ => exact fun z => absurd (show Str.ofString "not" = Str.ofString "var" from z) (by decide)
      obtain ⟨kn1, kn2⟩ := kids_nm hv'
      refine iteN (vne hwd) ?_
      refine iteF ?_
      refine ⟨_, rfl, _, t, 5, rfl, ip, qt, fun ku kus H5 s5 hku iku => ⟨ku, _, rfl, SqT.of hku, ?_⟩⟩
      have lk : kus.length = (kidsQ t).length := by rw [iku.length, List.length_map]
      have l2 := kids_len t
      refine ⟨fun i m σ H6 => m + i = (kidsQ t).length /\ i <= (kidsQ t).length /\ Same H H6 /\ Tups H5 H6 /\ (∃ o5 o6, σ = [some v, some (.ref p), some (.ref l), some (.ref a), some (.ref b), o5, o6]) /\ H6 p = some (.lst (zs.map V.str)) /\ ∃ us, H6 l = some (.lst us) /\ WL H6 (rest ++ (kidsQ t).take i) us,
        ⟨(kidsQ t).length, rfl, Nat.zero_le _, sH3.trans s5, fun _ _ e => e, ⟨o5, o6, rfl⟩, s5 _ _ hP3, ys, s5 _ _ hL3, by simpa using WL.mono s5.tups hys3⟩, ?_⟩
      rintro i m σ H6 ⟨hm, hik, sH6, t6, ⟨o5, o6, rfl⟩, hP6, us6, hL6, hw6⟩
      have lus : us6.length = rest.length + i := by have := Paired.length hw6; rw [List.length_append, List.length_take] at this; lia
      by_cases hi : i < (kidsQ t).length
      · have hki : kus[i]? = some kus[i] := List.getElem?_eq_getElem (by lia)
        refine .inr (for_hide ⟨_, _, SqT.of (t6 _ _ hku), hki⟩ (fun σ' H7 => (m - 1) + (i + 1) = (kidsQ t).length /\ i + 1 <= (kidsQ t).length /\ Same H H7 /\ Tups H5 H7 /\ (∃ o5 o6, σ' = [some v, some (.ref p), some (.ref l), some (.ref a), some (.ref b), o5, o6]) /\ H7 p = some (.lst (zs.map V.str)) /\ ∃ us, H7 l = some (.lst us) /\ WL H7 (rest ++ (kidsQ t).take (i + 1)) us) (fun σ' H7 hW => ⟨m - 1, by lia, hW⟩) fun E2 toN2 _ _ _ => ?_)
        intro x H7 hy
        obtain ⟨pt, rfl, hpt, x', hx', rfl⟩ := hy
        have e7 := hx' _ (SqT.of (t6 _ _ hku))
        rw [hki] at e7
        cases e7
        obtain ⟨kd, e8, ikd⟩ := iku.get (i := i) (d := dQ (kidsQ t)[i]) (by rw [List.getElem?_map, List.getElem?_eq_getElem hi]; rfl)
        rw [hki] at e8
        cases e8
        have s7 := same_new hpt (.tup [.int i, kus[i]])
        have hpt7 : (upd H6 pt (.tup [.int i, kus[i]])) pt = some (.tup [.int i, kus[i]]) := upd_same
        generalize upd H6 pt (.tup [.int i, kus[i]]) = H7 at s7 hpt7 ⊢
        refine ⟨pt, _, rfl, SqT.of hpt7, rfl, _, _, rfl, _, _, rfl, rfl, ?_⟩
        have t37 : Tups H3 H7 := fun b o e => s7.tups _ _ (t6 _ _ (s5.tups _ _ e))
        have hL7 : H7 l = some (.lst us6) := s7 _ _ hL6
        refine ⟨_, rfl, .inl ⟨rfl, _, SqL.of hL7⟩, _, rfl, _, rfl, _, rfl, _, rfl, _, t, 5, i, rfl, IsDt.mono t37 ip, qt, fun e0 H8 s8 he0 => ?_⟩
        have hb8 : H8 b = some (.tup []) := s8 _ _ (t37 _ _ hb3)
        refine .inr (.inr (.inr ⟨b, e0, [], [], rfl, rfl, hb8, he0, Nat.zero_le _, fun nb H9 s9 hnb => ⟨(by show 2 <= sizeLine; decide), fun tn htn => ?_⟩⟩))
        have s9' : Same H8 H9 := s9
        have s10 := s9'.trans (same_new htn (.tup [kus[i], .ref nb]))
        have hL10 := s10 _ _ (s8 _ _ hL7)
        refine ⟨l, us6, _, rfl, rfl, hL10, line1 (by lia), ?_⟩
        have htn' : (upd H9 tn (.tup [kus[i], .ref nb])) tn = some (.tup [kus[i], .ref nb]) := upd_same
        have hnb' : (upd H9 tn (.tup [kus[i], .ref nb])) nb = some (.tup []) := same_new htn _ _ _ hnb
        generalize upd H9 tn (.tup [kus[i], .ref nb]) = HA at s10 hL10 htn' hnb' ⊢
        have tB : Tups HA (upd HA l (.lst (us6 ++ [.ref tn]))) := Tups.lst hL10
        have t6A : Tups H6 HA := fun b o e => s10.tups _ _ (s8.tups _ _ (s7.tups _ _ e))
        refine toN2 _ _ ⟨by lia, by lia, fun z o e => by rw [upd_ne (ne_of_none e hlH)]; exact s10 _ _ (s8 _ _ (s7 _ _ (sH6 _ _ e))), fun z o e => tB _ _ (t6A _ _ (t6 _ _ e)), ⟨_, _, rfl⟩, by rw [upd_ne npl]; exact s10 _ _ (s8 _ _ (s7 _ _ hP6)), us6 ++ [.ref tn], upd_same, ?_⟩
        have tk : (kidsQ t).take (i + 1) = (kidsQ t).take i ++ [(kidsQ t)[i]] := by rw [List.take_add_one, List.getElem?_eq_getElem hi]; rfl
        rw [tk, <- List.append_assoc]
        exact Paired.snoc (WL.mono (fun z o e => tB _ _ (t6A _ _ e)) hw6) ⟨tn, kus[i], nb, rfl, tB _ _ htn', tB _ _ hnb', IsDt.mono (fun z o e => tB _ _ (t6A _ _ (t6 _ _ e))) ikd⟩
      · refine .inl ⟨⟨_, SqT.of (t6 _ _ hku), by lia⟩, ?_⟩
        rw [List.take_of_length_le (by lia)] at hw6
        refine toN _ _ ⟨sL (rest ++ kidsQ t), by rw [sL_app]; lia, zs, rest ++ kidsQ t, us6, _, _, _, _, rfl, sH6, hP6, hL6, hw6, fun k hk => ?_, fun z => ?_, ?_, rfl, by rw [sL_app]; lia⟩
        · rcases List.mem_append.mp hk with hk | hk
          · exact qts k (List.mem_append_left _ hk)
          · exact kids_qw qt k hk
        · rw [nms]
          constructor
          · rintro (h | ⟨k, hk, h⟩)
            · exact .inl h
            · rcases List.mem_append.mp hk with hk | hk
              · exact .inr ⟨k, List.mem_append_left _ hk, h⟩
              · rw [List.mem_singleton.mp hk] at h
                obtain ⟨k', hk', h'⟩ := (kn1 z).mp h
                exact .inr ⟨k', List.mem_append_right _ hk', h'⟩
          · rintro (h | ⟨k, hk, h⟩)
            · exact .inl h
            · rcases List.mem_append.mp hk with hk | hk
              · exact .inr ⟨k, List.mem_append_left _ hk, h⟩
              · exact .inr ⟨t, by simp, (kn1 z).mpr ⟨k, hk, h⟩⟩
        · rw [nL_app]; lia
end
end K66
end
section
namespace K66
open PySem L2 Kn
noncomputable abbrev Gen := Str × Str
noncomputable def genD (g : Gen) : Dt := .tup [.str g.1, .str g.2]
noncomputable def nmG (gs : List Gen) (j : Nat) : Str := (gs.getD j ("", "")).1
noncomputable def lastI (gs : List Gen) (x : Str) (i : Nat) : Option Nat := ((List.range i).filter fun j => decide (nmG gs j = x)).getLast?
noncomputable def lastN (gs : List Gen) (x : Str) : Option Nat := lastI gs x gs.length
noncomputable def kvT (gs : List Gen) (i : Nat) : List (Key × V) := (List.range i).map fun (j : Nat) => (Sum.inr (nmG gs j), V.int (j : Int))
noncomputable def kvL (o : Option Nat) : Option V := o.map fun (i : Nat) => V.int (i : Int)
theorem lastI_succ (gs : List Gen) (x : Str) (i : Nat) : lastI gs x (i + 1) = if nmG gs i = x then some i else lastI gs x i := by
  unfold lastI
  rw [List.range_succ, List.filter_append]
  by_cases e : nmG gs i = x
  · rw [if_pos e]
    have : [i].filter (fun j => decide (nmG gs j = x)) = [i] := by simp [e]
    rw [this]
    simp
  · rw [if_neg e]
    have : [i].filter (fun j => decide (nmG gs j = x)) = [] := by simp [e]
    rw [this, List.append_nil]
theorem val_kvT (gs : List Gen) (x : Str) : ∀ i : Nat, valV (mergeG [] (kvT gs i)) (Sum.inr x) = kvL (lastI gs x i)
  | 0 => rfl
  | i + 1 => by
    have e : mergeG [] (kvT gs (i + 1)) = putK (mergeG [] (kvT gs i)) (Sum.inr (nmG gs i)) (V.int (i : Int)) := by
      unfold kvT mergeG
      rw [List.range_succ, List.map_append, List.foldl_append]
      rfl
    rw [e, valV_put, val_kvT gs x i, lastI_succ]
    by_cases c : nmG gs i = x
    · rw [if_pos (by rw [c]), if_pos c]; rfl
    · rw [if_neg (by intro z; injection z with z; exact c z.symm), if_neg c]
theorem lastI_lt {gs : List Gen} {x : Str} {i k : Nat} (h : lastI gs x i = some k) : k < i /\ nmG gs k = x := by
  unfold lastI at h
  have := List.mem_of_getLast? h
  rw [List.mem_filter] at this
  exact ⟨List.mem_range.mp this.1, of_decide_eq_true this.2⟩
theorem lastI_some {gs : List Gen} {x : Str} {i : Nat} (h : ∃ j, j < i /\ nmG gs j = x) : ∃ k, lastI gs x i = some k := by
  obtain ⟨j, h1, h2⟩ := h
  cases e : lastI gs x i with
  | some k => exact ⟨k, rfl⟩
  | none =>
    unfold lastI at e
    rw [List.getLast?_eq_none_iff] at e
    have : j ∈ (List.range i).filter fun j => decide (nmG gs j = x) := List.mem_filter.mpr ⟨List.mem_range.mpr h1, decide_eq_true h2⟩
    rw [e] at this
    cases this
theorem lastN_some {gs : List Gen} {x : Str} (h : x ∈ gs.map (·.1)) : ∃ k, lastN gs x = some k /\ k < gs.length := by
  obtain ⟨g, hg, rfl⟩ := List.mem_map.mp h
  obtain ⟨j, hj⟩ := List.mem_iff_getElem?.mp hg
  have hl := (List.getElem?_eq_some_iff.mp hj).1
  obtain ⟨k, hk⟩ := lastI_some (gs := gs) (x := g.1) (i := gs.length) ⟨j, hl, by unfold nmG; rw [List.getD_eq_getElem?_getD, hj]; rfl⟩
  exact ⟨k, hk, (lastI_lt hk).1⟩
noncomputable def Br (H : Hp) (b : Addr) (gs : List Gen) (cs : List Qt) : Prop := ∃ (f : Int) (g c : Addr) (row : V) (gus cus : List V), H b = some (.tup [.int f, .ref g, .ref c, row]) /\ H g = some (.tup gus) /\ IsDts H (gs.map genD) gus /\ H c = some (.tup cus) /\ IsDts H (cs.map dQ) cus /\ gs.length <= 4 /\ cs.length <= 4 /\ ∀ t ∈ cs, QW 5 t /\ ∀ x ∈ nmQ t, x ∈ gs.map (·.1)
theorem Br.mono {H H' : Hp} (s : Tups H H') {b : Addr} {gs : List Gen} {cs : List Qt} (h : Br H b gs cs) : Br H' b gs cs := by
  obtain ⟨f, g, c, row, gus, cus, h1, h2, h3, h4, h5, r⟩ := h
  exact ⟨f, g, c, row, gus, cus, s _ _ h1, s _ _ h2, IsDts.mono s h3, s _ _ h4, IsDts.mono s h5, r⟩
theorem gen_at {H : Hp} {gs : List Gen} {gus : List V} (h : IsDts H (gs.map genD) gus) {i : Nat} (hi : i < gs.length) : ∃ c, gus[i]? = some (.ref c) /\ H c = some (.tup [.str (nmG gs i), .str gs[i].2]) := by
  obtain ⟨u, e, d⟩ := h.get (i := i) (d := genD gs[i]) (by rw [List.getElem?_map, List.getElem?_eq_getElem hi]; rfl)
  obtain ⟨c, xs, rfl, h1, h2⟩ := tup_of d
  obtain ⟨u1, r, rfl, h3, h4⟩ := cons_of h2
  obtain ⟨u2, rfl, h5⟩ := one_of h4
  obtain rfl := str_of h3
  obtain rfl := str_of h5
  have : nmG gs i = gs[i].1 := by unfold nmG; rw [List.getD_eq_getElem?_getD, List.getElem?_eq_getElem hi]; rfl
  rw [this]
  exact ⟨c, e, h1⟩
theorem PairsK.mono {H H' : Hp} (s : Tups H H') {kvs : List (Key × V)} {xs : List V} (h : PairsK H kvs xs) : PairsK H' kvs xs := Paired.mapP h fun _ _ ⟨a, e, h1⟩ => ⟨a, e, s _ _ h1⟩
section
variable {P : Program} {w : World} {K : PySem.W.Frag} {mg : Str -> Option Value} {base : Heap} {f f_last f_free : Addr} {fd fd_last fd_free : FuncData}
theorem sc_last_gens : FnScope ["branch"] ["branch"] (defScope (top 8)) := ⟨rfl, rfl, rfl, by decide +kernel, rfl, by decide +kernel, by decide +kernel⟩
noncomputable def spLastG : Sp := fun vs H Q _ => ∃ (b : Addr) (gs : List Gen) (cs : List Qt), vs = [.ref b] /\ Br H b gs cs /\
  ∀ (d : Addr) (kvs : List (Key × V)) (H' : Hp), Same H H' -> H' d = some (.dK kvs) -> (∀ x, valV kvs (Sum.inr x) = kvL (lastN gs x)) -> Q (.ref d) H'
theorem ok_lastG (T : Tx mg) (D : Df K mg "last_gens" (top 8) f fd ["branch"]) : FnOk P w K mg base CX0 1 f fd ["branch"] spLastG := by
  refine D.fn.okH sc_last_gens (fun vs H Q E h => ?_) (fun cdv A outer s H vs Q E hr h => ?_)
  · obtain ⟨b, gs, cs, rfl, _⟩ := h; rfl
  obtain ⟨b, gs, cs, rfl, ⟨ff, g, c, row, gus, cus, hb, hg, ig, hc, ic, lg, lc, cok⟩, fin⟩ := h
  have hu := u110 hr
  have hu0 := u0 hr
  have hu1 := hu_of hr
  refine ⟨_, (wss_one (ws_ret (we_callTy (call_dictK rfl) rfl T.z_dict bt_dict (wa_cons (we_lc (Nt := ["number", "gen"]) (fr := []) (LcOk.of (sc := defScope (top 8)) (N := ["branch"]) rfl rfl (by decide +kernel)) rfl (wi_enumT rfl T.z_enumerate (wa_cons (we_ix (ix_U hu1) (wv 0) we_int (fun _ _ => rfl)) wa_nil)) (fun z => wg_tup rfl (wgs_cons (wg_name (i := 0) (by show (["number", "gen"] : List Str).Nodup; decide +kernel) rfl (Or.inl rfl) (.inr rfl)) (wgs_cons (wg_name (i := 1) (by show (["number", "gen"] : List Str).Nodup; decide +kernel) rfl (Or.inl rfl) (.inr rfl)) wgs_nil))) (fun z => tgt_two (by decide) (by decide)) (fun z => wif_nil) (fun z => (we_tup (wa_cons (we_ix (ix_U hu1) (wv 1) we_int (fun _ _ => rfl)) (wa_cons (wv 0) wa_nil))))) wa_nil)))), ?_⟩
  obtain ⟨X', gX'⟩ : ∃ X', X' = (cxOf CX0 P w K mg base ["branch"] "last_gens" (defScope (top 8)) f cdv A outer s H E).nox := ⟨_, rfl⟩
  try rw [<- gX']
  clear gX'
  have lgu : gus.length = gs.length := by rw [ig.length, List.length_map]
  refine ⟨_, rfl, (ixt (SqT.of hb) rfl ⟨g, _, rfl, SqT.of hg, ?_⟩)⟩
  refine ⟨fun i2 m2 zs H8 => Same H H8 /\ m2 + i2 = gs.length /\ i2 <= gs.length /\ PairsK H8 (kvT gs i2) zs, ⟨gs.length, .refl _, rfl, Nat.zero_le _, .nil⟩, ?_⟩
  rintro i2 m2 zs H8 ⟨s8, hm2, li2, iz⟩
  have nz : zs.length = i2 := by have := Paired.length iz; unfold kvT at this; rw [List.length_map, List.length_range] at this; lia
  refine ⟨line1 (by lia), ?_⟩
  by_cases hi2 : i2 < gs.length
  · obtain ⟨cg, e1, hcg⟩ := gen_at ig hi2
    refine .inr ⟨⟨_, _, SqT.of (s8 _ _ hg), e1⟩, fun zc x H9 hy => ?_⟩
    obtain ⟨pt, rfl, hpt, x', hx', rfl⟩ := hy
    have e2 := hx' _ (SqT.of (s8 _ _ hg))
    rw [e1] at e2
    cases e2
    have s9 := same_new hpt (.tup [.int i2, .ref cg])
    have hpt9 : (upd H8 pt (.tup [.int i2, .ref cg])) pt = some (.tup [.int i2, .ref cg]) := upd_same
    generalize upd H8 pt (.tup [.int i2, .ref cg]) = H9 at s9 hpt9 ⊢
    refine ⟨pt, _, rfl, SqT.of hpt9, rfl, _, _, rfl, _, _, rfl, rfl, ?_⟩
    refine tallT ?_
    refine ⟨_, rfl, (ixt (SqT.of (s9 _ _ (s8 _ _ hcg))) rfl ⟨_, rfl, (by show 2 <= sizeLine; decide), fun t ht => ?_⟩)⟩
    have sA := same_new ht (.tup [.str (nmG gs i2), .int i2])
    refine ⟨m2 - 1, by lia, s8.trans (s9.trans sA), by lia, by lia, ?_⟩
    have tk : kvT gs (i2 + 1) = kvT gs i2 ++ [(Sum.inr (nmG gs i2), V.int (i2 : Int))] := by unfold kvT; rw [List.range_succ, List.map_append]; rfl
    rw [tk]
    exact Paired.snoc (PairsK.mono (s9.trans sA).tups iz) ⟨t, rfl, upd_same⟩
  · refine .inl ⟨⟨_, SqT.of (s8 _ _ hg), by lia⟩, fun l8 hl8 => ?_⟩
    have e : i2 = gs.length := by lia
    subst e
    refine ⟨l8, zs, kvT gs gs.length, rfl, .inl upd_same, PairsK.mono (same_new hl8 _).tups iz, fun d hd => ?_⟩
    exact fin d _ _ (s8.trans ((same_new hl8 _).trans (same_new hd _))) upd_same fun x => val_kvT gs x gs.length
theorem sc_gens_named : FnScope ["branch", "question", "numbers"] ["branch", "question"] (defScope (top 9)) := ⟨rfl, rfl, rfl, by decide +kernel, rfl, by decide +kernel, by decide +kernel⟩
noncomputable def spNamed : Sp := fun vs H Q _ => ∃ (b : Addr) (v : V) (t : Qt) (gs : List Gen) (cs : List Qt), vs = [.ref b, v] /\ Br H b gs cs /\ IsDt H (dQ t) v /\ QW 5 t /\ (∀ x ∈ nmQ t, x ∈ gs.map (·.1)) /\
  ∀ (l : Addr) (ns : List Int) (H' : Hp), Same H H' -> H' l = some (.lst (ns.map V.int)) -> ns.length <= 32 -> (∀ n, n ∈ ns ↔ ∃ x ∈ nmQ t, ∃ k : Nat, lastN gs x = some k /\ n = k) -> Q (.ref l) H'
theorem ok_named (T : Tx mg) (D : Df K mg "gens_named" (top 9) f fd ["branch", "question"]) (D_last_gens : Df K mg "last_gens" (top 8) f_last fd_last ["branch"]) (G_last_gens : FnOk P w K mg base CX0 1 f_last fd_last ["branch"] spLastG)
    (D_free : Df K mg "free" (top 5) f_free fd_free ["question"]) (G_free : FnOk P w K mg base CX0 2 f_free fd_free ["question"] spFree) : FnOk P w K mg base CX0 3 f fd ["branch", "question"] spNamed := by
  refine D.fn.okH sc_gens_named (fun vs H Q E h => ?_) (fun cdv A outer s H vs Q E hr h => ?_)
  · obtain ⟨b, v, t, gs, cs, rfl, _⟩ := h; rfl
  obtain ⟨b, v, t, gs, cs, rfl, br, iv, qw, vin, fin⟩ := h
  have hu := u110 hr
  have hu0 := u0 hr
  have hu1 := hu_of hr
  refine ⟨_, (wss_cons (ws_set (i := 2) sc_gens_named.nd rfl (Or.inr rfl) (we_call G_last_gens (hr.mono (by lia)) rfl D_last_gens.mg D_last_gens.kp D_last_gens.b .nil pass0 (wa_cons (wv 0) wa_nil)))
      (wss_one (ws_ret (we_lc (Nt := ["name"]) (fr := [("numbers", 2)]) (LcOk.of (sc := defScope (top 9)) (N := ["branch", "question", "numbers"]) rfl rfl (by decide +kernel)) rfl (wi_U (we_call G_free (hr.mono (by lia)) rfl D_free.mg D_free.kp D_free.b .nil pass0 (wa_cons (wv 1) wa_nil))) (fun z => wg_name (i := 0) (by show (["name", "numbers"] : List Str).Nodup; decide +kernel) rfl (Or.inl rfl) (.inr rfl)) (fun z => tgt_name (by decide)) (fun z => wif_nil) (fun z => (we_dget2 hu1 (wv 1) (wv 0) (we_un un_neg we_int))))))), ?_⟩
  obtain ⟨X', gX'⟩ : ∃ X', X' = (cxOf CX0 P w K mg base ["branch", "question", "numbers"] "gens_named" (defScope (top 9)) f cdv A outer s H E).nox := ⟨_, rfl⟩
  try rw [<- gX']
  clear gX'
  refine ⟨_, rfl, b, gs, cs, rfl, br, fun d kvs H1 s1 hd hval => ?_⟩
  refine .inl ⟨_, rfl, v, t, rfl, IsDt.mono s1.tups iv, qw, fun p ys H2 s2 hp mem ly => ⟨p, rfl, ⟨_, SqL.of hp⟩, ?_⟩⟩
  let num : Str -> Int := fun x => match lastN gs x with | some k => (k : Int) | none => -1
  have hnum : ∀ x, (valV kvs (Sum.inr x)).getD (.int (-1)) = V.int (num x) := fun x => by
    rw [hval]
    show _ = V.int (match lastN gs x with | some k => (k : Int) | none => -1)
    cases lastN gs x <;> rfl
  refine ⟨fun i2 m2 zs H8 => H8 = H2 /\ m2 + i2 = ys.length /\ i2 <= ys.length /\ zs = ((ys.take i2).map num).map V.int, ⟨ys.length, rfl, rfl, Nat.zero_le _, rfl⟩, ?_⟩
  rintro i2 m2 zs H8 ⟨rfl, hm2, li2, rfl⟩
  refine ⟨line1 (by rw [List.length_map, List.length_map, List.length_take]; lia), ?_⟩
  by_cases hi2 : i2 < ys.length
  · have hyi : (ys.map V.str)[i2]? = some (.str ys[i2]) := by rw [List.getElem?_map, List.getElem?_eq_getElem hi2]; rfl
    refine .inr ⟨⟨_, _, SqL.of hp, hyi⟩, fun zc x H9 hy => ?_⟩
    obtain ⟨rfl, hx⟩ := hy
    have e2 := hx _ (SqL.of hp)
    rw [hyi] at e2
    cases e2
    refine gall ?_
    refine ⟨_, rfl, d, rfl, .inl ⟨_, .inl (s2 _ _ hd)⟩, _, rfl, _, rfl, _, DGet.k (k := Sum.inr ys[i2]) (s2 _ _ hd), ?_⟩
    refine ⟨m2 - 1, by lia, rfl, by lia, by lia, ?_⟩
    have e3 := hnum ys[i2]
    show ((ys.take i2).map num).map V.int ++ [(valV kvs (Sum.inr ys[i2])).getD (.int (-1))] = _
    rw [e3, List.take_add_one, List.getElem?_eq_getElem hi2, List.map_append, List.map_append]
    rfl
  · refine .inl ⟨⟨_, SqL.of hp, by rw [List.length_map]; lia⟩, fun l hl => ?_⟩
    rw [List.take_of_length_le (by lia)]
    refine fin l (ys.map num) _ (s1.trans (s2.trans (same_new hl _))) upd_same (by rw [List.length_map]; exact ly) fun n => ?_
    constructor
    · intro hn
      obtain ⟨x, hx, rfl⟩ := List.mem_map.mp hn
      have hx' := (mem x).mp hx
      obtain ⟨k, hk, _⟩ := lastN_some (vin x hx')
      refine ⟨x, hx', k, hk, ?_⟩
      show (match lastN gs x with | some k => (k : Int) | none => -1) = _
      rw [hk]
    · rintro ⟨x, hx, k, hk, rfl⟩
      refine List.mem_map.mpr ⟨x, (mem x).mpr hx, ?_⟩
      show (match lastN gs x with | some k => (k : Int) | none => -1) = _
      rw [hk]
end
end K66
end
section
namespace K66
open PySem L2 Kn
noncomputable def okN : At -> Int -> Bool
  | .int i, m => decide (0 <= i) && decide (i < m)
  | .txt _, _ => false
noncomputable def nfit (as : List At) (bs : List Int) : Bool := decide (as.length = bs.length) && (as.zip bs).all fun p => okN p.1 p.2
noncomputable def tryOne (gs : List Gen) (i : Nat) (o1 o2 : Qt) : Option (Str × Qt) := match o1 with
  | .at f (.var x) => if lastN gs x = some i then some (f, o2) else none
  | _ => none
noncomputable def soughtL (gs : List Gen) (i : Nat) (l : List (Qt × Qt)) : Option (Str × Qt) := l.findSome? fun p => tryOne gs i p.1 p.2
noncomputable def soughtC (gs : List Gen) (i : Nat) (c : Qt) : Option (Str × Qt) := match c with
  | .two w a b => if w = "same" then soughtL gs i [(a, b), (b, a)] else none
  | _ => none
noncomputable def soughtQ (gs : List Gen) (cs : List Qt) (i j : Nat) : Option (Str × Qt) := (cs[j]?).bind (soughtC gs i)
theorem same_of {n : Nat} {t : Qt} (h : QW n t) (e : wdQ t = "same") : ∃ a b, t = .two "same" a b := by
  cases t with
  | two w a b => exact ⟨a, b, by rw [show w = "same" from e]⟩
  | num _ => exact absurd (show Str.ofString "num" = Str.ofString "same" from e) (by decide)
  | word _ => exact absurd (show Str.ofString "word" = Str.ofString "same" from e) (by decide)
  | var _ => exact absurd (show Str.ofString "var" = Str.ofString "same" from e) (by decide)
  | «at» _ _ => exact absurd (show Str.ofString "at" = Str.ofString "same" from e) (by decide)
  | neg _ => exact absurd (show Str.ofString "not" = Str.ofString "same" from e) (by decide)
theorem not_same {gs : List Gen} {i : Nat} {t : Qt} (e : wdQ t ≠ "same") : soughtC gs i t = none := by
  cases t with
  | two w a b => show (if w = "same" then _ else none) = none; rw [if_neg (show ¬ w = Str.ofString "same" from e)]
  | _ => rfl
theorem at_of_wd {n : Nat} {t : Qt} (h : QW n t) (e : wdQ t = "at") : ∃ f u, t = .at f u := by
  cases t with
  | «at» f u => exact ⟨f, u, rfl⟩
  | two w a b =>
    exfalso
    cases n with
    | zero => exact h
    | succ n => have := h.1; rw [show w = Str.ofString "at" from e] at this; revert this; decide +kernel
  | num _ => exact absurd (show Str.ofString "num" = Str.ofString "at" from e) (by decide)
  | word _ => exact absurd (show Str.ofString "word" = Str.ofString "at" from e) (by decide)
  | var _ => exact absurd (show Str.ofString "var" = Str.ofString "at" from e) (by decide)
  | neg _ => exact absurd (show Str.ofString "not" = Str.ofString "at" from e) (by decide)
theorem var_of_wd {n : Nat} {t : Qt} (h : QW n t) (e : wdQ t = "var") : ∃ x, t = .var x := by
  cases t with
  | var x => exact ⟨x, rfl⟩
  | two w a b =>
    exfalso
    cases n with
    | zero => exact h
    | succ n => have := h.1; rw [show w = Str.ofString "var" from e] at this; revert this; decide +kernel
  | num _ => exact absurd (show Str.ofString "num" = Str.ofString "var" from e) (by decide)
  | word _ => exact absurd (show Str.ofString "word" = Str.ofString "var" from e) (by decide)
  | «at» _ _ => exact absurd (show Str.ofString "at" = Str.ofString "var" from e) (by decide)
  | neg _ => exact absurd (show Str.ofString "not" = Str.ofString "var" from e) (by decide)
theorem try_not_at {gs : List Gen} {i : Nat} {t o : Qt} (e : ∀ f u, t ≠ .at f u) : tryOne gs i t o = none := by
  cases t with
  | «at» f u => exact absurd rfl (e f u)
  | _ => rfl
theorem try_not_var {gs : List Gen} {i : Nat} {f : Str} {u o : Qt} (e : ∀ x, u ≠ .var x) : tryOne gs i (.at f u) o = none := by
  cases u with
  | var x => exact absurd rfl (e x)
  | _ => rfl
theorem wd0 {H : Hp} {a : Addr} {t : Qt} {xs : List V} (h : H a = some (.tup (.str (wdQ t) :: xs))) : atI (V.str (wdQ t) :: xs) ((0 : Nat) : Int) = some (.str (wdQ t)) := atI_nat rfl
section
variable {P : Program} {w : World} {K : PySem.W.Frag} {mg : Str -> Option Value} {base : Heap} {f f_whole f_last : Addr} {fd fd_whole fd_last : FuncData}
theorem sc_numbers_fit : FnScope ["numbers", "bounds"] ["numbers", "bounds"] (defScope (top 11)) := ⟨rfl, rfl, rfl, by decide +kernel, rfl, by decide +kernel, by decide +kernel⟩
noncomputable def spNfit : Sp := fun vs H Q _ => ∃ (a b : Addr) (as : List At) (bs : List Int), vs = [.ref a, .ref b] /\ H a = some (.tup (as.map atV)) /\ H b = some (.tup (bs.map V.int)) /\ as.length <= 10 /\
  ∀ H', Same H H' -> Q (.bl (nfit as bs)) H'
theorem ok_nfit (T : Tx mg) (D : Df K mg "numbers_fit" (top 11) f fd ["numbers", "bounds"]) (D_is_whole : Df K mg "is_whole" (top 1) f_whole fd_whole ["thing"]) (G_is_whole : FnOk P w K mg base CX0 1 f_whole fd_whole ["thing"] spWhole) :
    FnOk P w K mg base CX0 2 f fd ["numbers", "bounds"] spNfit := by
  refine D.fn.okH sc_numbers_fit (fun vs H Q E h => ?_) (fun cdv A outer s H vs Q E hr h => ?_)
  · obtain ⟨a, b, as, bs, rfl, _⟩ := h; rfl
  refine hideG fun PP hPP => ?_
  obtain ⟨a, b, as, bs, rfl, ha, hb, la, fin⟩ := h
  refine hPP ?_
  have hu := u110 hr
  have hu0 := u0 hr
  have hu1 := hu_of hr
  refine ⟨_, (wss_cons (ws_if (wt_cmpR (op_neU hu) (we_callB call_lenU rfl T.z_len bt_len (wa_cons (wv 0) wa_nil)) (we_callB call_lenU rfl T.z_len bt_len (wa_cons (wv 1) wa_nil)) (nomark _)) (wss_one (ws_ret we_bl)) wss_nil)
      (wss_one (ws_ret (we_callB (call_all rfl) rfl T.z_all bt_all (wa_cons (we_lc (Nt := ["number", "most"]) (fr := []) (LcOk.of (sc := defScope (top 11)) (N := ["numbers", "bounds"]) rfl rfl (by decide +kernel)) rfl (wi_zip rfl T.z_zip (wa_cons (wv 0) (wa_cons (wv 1) wa_nil))) (fun z => wg_tup rfl (wgs_cons (wg_name (i := 0) (by show (["number", "most"] : List Str).Nodup; decide +kernel) rfl (Or.inl rfl) (.inr rfl)) (wgs_cons (wg_name (i := 1) (by show (["number", "most"] : List Str).Nodup; decide +kernel) rfl (Or.inl rfl) (.inr rfl)) wgs_nil))) (fun z => tgt_two (by decide) (by decide)) (fun z => wif_nil) (fun z => (we_and (we_call G_is_whole (hr.mono (by lia)) rfl D_is_whole.mg D_is_whole.kp D_is_whole.b .nil pass0 (wa_cons (wv 0) wa_nil)) (we_one (we_chain op_le (op_ltU hu0) we_int (wv 0) (wv 1)))))) wa_nil))))), ?_⟩
  obtain ⟨X', gX'⟩ : ∃ X', X' = (cxOf CX0 P w K mg base ["numbers", "bounds"] "numbers_fit" (defScope (top 11)) f cdv A outer s H E).nox := ⟨_, rfl⟩
  try rw [<- gX']
  clear gX'
  refine ⟨_, rfl, .inl ⟨a, _, rfl, .inr (SqT.of ha), _, rfl, .inl ⟨b, _, rfl, .inr (SqT.of hb), .inl ⟨rfl, _, rfl, ?_⟩⟩⟩⟩
  rw [List.length_map, List.length_map]
  by_cases hl : as.length = bs.length
  · refine iteN (by rw [hl]; simp) ?_
    refine ⟨_, rfl, _, rfl, a, b, _, _, rfl, SqT.of ha, SqT.of hb, ?_⟩
    refine ⟨fun i2 m2 zs H8 => Same H H8 /\ m2 + i2 = as.length /\ i2 <= as.length /\ zs = (((as.zip bs).take i2).map fun p => okN p.1 p.2).map V.bl, ⟨as.length, .refl _, rfl, Nat.zero_le _, rfl⟩, ?_⟩
    rintro i2 m2 zs H8 ⟨s8, hm2, li2, rfl⟩
    have lz : (as.zip bs).length = as.length := by rw [List.length_zip]; lia
    refine ⟨line1 (by rw [List.length_map, List.length_map, List.length_take]; lia), ?_⟩
    by_cases hi2 : i2 < as.length
    · have e1 : (as.map atV)[i2]? = some (atV as[i2]) := by rw [List.getElem?_map, List.getElem?_eq_getElem hi2]; rfl
      have hb2 : i2 < bs.length := by lia
      have e2 : (bs.map V.int)[i2]? = some (.int bs[i2]) := by rw [List.getElem?_map, List.getElem?_eq_getElem hb2]; rfl
      refine .inr ⟨⟨_, _, _, _, SqT.of (s8 _ _ ha), SqT.of (s8 _ _ hb), e1, e2⟩, fun zc x H9 hy => ?_⟩
      refine hideG fun PP hPP => ?_
      obtain ⟨pt, rfl, hpt, x', y', hx', hy', rfl⟩ := hy
      refine hPP ?_
      have e3 := hx' _ (SqT.of (s8 _ _ ha))
      have e4 := hy' _ (SqT.of (s8 _ _ hb))
      rw [e1] at e3; rw [e2] at e4
      cases e3; cases e4
      have s9 := same_new hpt (.tup [atV as[i2], .int bs[i2]])
      have hpt9 : (upd H8 pt (.tup [atV as[i2], .int bs[i2]])) pt = some (.tup [atV as[i2], .int bs[i2]]) := upd_same
      generalize upd H8 pt (.tup [atV as[i2], .int bs[i2]]) = H9 at s9 hpt9 ⊢
      refine ⟨pt, _, rfl, SqT.of hpt9, rfl, _, _, rfl, _, _, rfl, rfl, ?_⟩
      refine tallT ?_
      have tk : (as.zip bs).take (i2 + 1) = (as.zip bs).take i2 ++ [(as[i2], bs[i2])] := by
        rw [List.take_add_one, List.getElem?_eq_getElem (by lia), List.getElem_zip]; rfl
      have last : ∃ m', m' < m2 /\ Same H H9 /\ m' + (i2 + 1) = as.length /\ i2 + 1 <= as.length /\ (((as.zip bs).take i2).map fun p => okN p.1 p.2).map V.bl ++ [V.bl (okN as[i2] bs[i2])] = (((as.zip bs).take (i2 + 1)).map fun p => okN p.1 p.2).map V.bl :=
        ⟨m2 - 1, by lia, s8.trans s9, by lia, by lia, by rw [tk, List.map_append, List.map_append]; rfl⟩
      refine ⟨_, rfl, as[i2], rfl, _, rfl, ?_⟩
      generalize as[i2] = ai at last
      cases ai with
      | int i =>
        refine iteP rfl ?_
        refine ⟨_, rfl, _, _, rfl, rfl, _, rfl, ?_⟩
        by_cases h0 : (0 : Int) <= i
        · refine iteP (decide_eq_true h0) ?_
          refine ⟨_, rfl, .inl ⟨_, _, rfl, rfl, ?_⟩⟩
          have e5 : okN (.int i) bs[i2] = decide (i < bs[i2]) := by show (decide (0 <= i) && decide (i < bs[i2])) = _; rw [decide_eq_true h0, Bool.true_and]
          rw [e5] at last
          exact last
        · refine iteN (by rw [decide_eq_false h0]; decide) ?_
          have e5 : okN (.int i) bs[i2] = false := by show (decide (0 <= i) && decide (i < bs[i2])) = _; rw [decide_eq_false h0, Bool.false_and]
          rw [e5] at last
          exact last
      | txt z =>
        refine iteN (show ¬ false = true by decide) ?_
        exact last
    · refine .inl ⟨⟨_, _, SqT.of (s8 _ _ ha), SqT.of (s8 _ _ hb), .inl (by rw [List.length_map]; lia)⟩, fun l8 hl8 => ?_⟩
      rw [List.take_of_length_le (by lia)] at *
      refine ⟨l8, _, rfl, SqL.of upd_same, ?_⟩
      have e6 : ((as.zip bs).map fun p => okN p.1 p.2).all id = nfit as bs := by
        unfold nfit
        rw [decide_eq_true hl, Bool.true_and, List.all_map]
        rfl
      rw [e6]
      exact fin _ (s8.trans (same_new hl8 _))
  · have hne : (!decide (V.int (as.length : Int) = V.int (bs.length : Int))) = true := by
      rw [decide_eq_false (fun z => hl (by injection z with z; lia))]; rfl
    refine iteP hne ?_
    have e6 : nfit as bs = false := by unfold nfit; rw [decide_eq_false hl, Bool.false_and]
    have := fin H (.refl _)
    rw [e6] at this
    exact this
theorem sc_sought : FnScope ["branch", "step", "gen", "claim", "asked", "one", "other"] ["branch", "step"] (defScope (top 12)) := ⟨rfl, rfl, rfl, by decide +kernel, rfl, by decide +kernel, by decide +kernel⟩
noncomputable def spSought : Sp := fun vs H Q _ => ∃ (b a : Addr) (gs : List Gen) (cs : List Qt) (i j : Nat), vs = [.ref b, .ref a] /\ Br H b gs cs /\ H a = some (.tup [.str "seek", .int i, .int j]) /\ j < cs.length /\
  (soughtQ gs cs i j = none -> ∀ H', Same H H' -> Q .non H') /\ ∀ fl o, soughtQ gs cs i j = some (fl, o) -> ∀ (c : Addr) (v : V) (H' : Hp), Same H H' -> H' c = some (.tup [.str fl, v]) -> IsDt H' (dQ o) v -> Q (.ref c) H'
theorem ok_sought (T : Tx mg) (D : Df K mg "sought" (top 12) f fd ["branch", "step"]) (D_last_gens : Df K mg "last_gens" (top 8) f_last fd_last ["branch"]) (G_last_gens : FnOk P w K mg base CX0 1 f_last fd_last ["branch"] spLastG) :
    FnOk P w K mg base CX0 2 f fd ["branch", "step"] spSought := by
  refine D.fn.okH sc_sought (fun vs H Q E h => ?_) (fun cdv A outer s H vs Q E hr h => ?_)
  · obtain ⟨b, a, gs, cs, i, j, rfl, _⟩ := h; rfl
  refine hideG fun PP hPP => ?_
  obtain ⟨b, a, gs, cs, i, j, rfl, br, ha, hj, fin0, fin1⟩ := h
  refine hPP ?_
  have hu := u110 hr
  have hu0 := u0 hr
  have hu1 := hu_of hr
  refine ⟨_, (wss_cons (ws_asg (we_slice sl_U (wv 1) (wo_some we_int) wo_none) (wg_tup rfl (wgs_cons (wg_name (i := 2) sc_sought.nd rfl (Or.inl rfl)) (wgs_cons (wg_name (i := 3) sc_sought.nd rfl (Or.inl rfl)) wgs_nil))))
      (wss_cons (ws_set (i := 4) sc_sought.nd rfl (Or.inl rfl) (we_ix (ix_U hu1) (we_ix (ix_U hu1) (wv 0) we_int (fun _ _ => rfl)) (wv 3) (fun _ _ => rfl)))
      (wss_cons (ws_if (wt_cmpR (op_neU hu) (we_ix (ix_U hu1) (wv 4) we_int (fun _ _ => rfl)) we_str (nomark _)) (wss_one (ws_ret we_non)) wss_nil)
      (wss_cons (ws_for PassesOwn.never rfl (wi_U (we_tup (wa_cons (we_tup (wa_cons (we_ix (ix_U hu1) (wv 4) we_int (fun _ _ => rfl)) (wa_cons (we_ix (ix_U hu1) (wv 4) we_int (fun _ _ => rfl)) wa_nil))) (wa_cons (we_tup (wa_cons (we_ix (ix_U hu1) (wv 4) we_int (fun _ _ => rfl)) (wa_cons (we_ix (ix_U hu1) (wv 4) we_int (fun _ _ => rfl)) wa_nil))) wa_nil)))) (wg_tup rfl (wgs_cons (wg_name (i := 5) sc_sought.nd rfl (Or.inl rfl)) (wgs_cons (wg_name (i := 6) sc_sought.nd rfl (Or.inl rfl)) wgs_nil))) (wss_one (ws_if (wt_pw (ww_and (wt_cmpR (op_eqU hu) (we_ix (ix_U hu1) (wv 5) we_int (fun _ _ => rfl)) we_str (nomark _)) (ww_and (wt_cmpR (op_eqU hu) (we_ix (ix_U hu1) (we_ix (ix_U hu1) (wv 5) we_int (fun _ _ => rfl)) we_int (fun _ _ => rfl)) we_str (nomark _)) (ww_and1 (wt_cmpR (op_eqU hu) (we_dget1 hu1 (we_call G_last_gens (hr.mono (by lia)) rfl D_last_gens.mg D_last_gens.kp D_last_gens.b .nil pass0 (wa_cons (wv 0) wa_nil)) (we_ix (ix_U hu1) (we_ix (ix_U hu1) (wv 5) we_int (fun _ _ => rfl)) we_int (fun _ _ => rfl))) (wv 2) (nomark _)))))) (wss_one (ws_ret (we_tup (wa_cons (we_ix (ix_U hu1) (wv 5) we_int (fun _ _ => rfl)) (wa_cons (wv 6) wa_nil))))) wss_nil)))
      (wss_one (ws_ret we_non)))))), ?_⟩
  obtain ⟨X', gX'⟩ : ∃ X', X' = (cxOf CX0 P w K mg base ["branch", "step", "gen", "claim", "asked", "one", "other"] "sought" (defScope (top 12)) f cdv A outer s H E).nox := ⟨_, rfl⟩
  try rw [<- gX']
  clear gX'
  refine ⟨_, rfl, _, rfl, .inr (.inl ⟨a, _, rfl, SqT.of ha, ncutN (k := 1) (by decide) (by simp), fun q hq => ⟨q, _, rfl, SqT.of upd_same, rfl, _, _, rfl, _, _, rfl, rfl, ?_⟩⟩)⟩
  have s1 := same_new hq (.tup (cutV [V.str "seek", .int i, .int j] (some 1) none))
  generalize upd H q (.tup (cutV [V.str "seek", .int i, .int j] (some 1) none)) = H1 at s1 ⊢
  refine hideG fun PP hPP => ?_
  obtain ⟨ff, g, c, row, gus, cus, hb, hg, ig, hc, ic, lg, lc, cok⟩ := br.mono s1.tups
  refine hPP ?_
  have br1 := br.mono s1.tups
  refine hideG fun PP hPP => ?_
  obtain ⟨cv, e1, icv⟩ := ic.get (i := j) (d := dQ cs[j]) (by rw [List.getElem?_map, List.getElem?_eq_getElem hj]; rfl)
  refine hPP ?_
  have esq : soughtQ gs cs i j = soughtC gs i cs[j] := by unfold soughtQ; rw [List.getElem?_eq_getElem hj]; rfl
  rw [esq] at fin0 fin1
  have qc := (cok _ (List.getElem_mem hj)).1
  have nc := (cok _ (List.getElem_mem hj)).2
  generalize cs[j] = t at icv fin0 fin1 qc nc
  refine ⟨_, rfl, (ixt (SqT.of hb) rfl ⟨_, rfl, (ixt (v := cv) (SqT.of hc) (atI_nat e1) ?_)⟩)⟩
  have icv' := icv
  refine hideG fun PP hPP => ?_
  obtain ⟨ca, xs, rfl, hca, hxs⟩ := q_at icv
  refine hPP ?_
  refine ⟨_, rfl, (ixt (v := .str (wdQ t)) (SqT.of hca) (wd0 hca) (.inl ⟨rfl, _, rfl, ?_⟩))⟩
  by_cases hw : wdQ t = "same"
  · obtain ⟨qa, qb, rfl⟩ := same_of qc hw
    refine hideG fun PP hPP => ?_
    obtain ⟨ca', u1, u2, e2, hca', iu1, iu2⟩ := q_two icv'
    refine hPP ?_
    cases e2
    refine iteN (by rw [hw]; decide) ?_
    have x1 : atI [V.str "same", u1, u2] 1 = some u1 := rfl
    have x2 : atI [V.str "same", u1, u2] 2 = some u2 := rfl
    refine .inr ⟨_, rfl, (ixt (v := u1) (SqT.of hca') x1 ⟨_, rfl, (ixt (v := u2) (SqT.of hca') x2 ⟨(by show 2 <= sizeLine; decide), fun p1 hp1 => ?_⟩)⟩)⟩
    have s2 := same_new hp1 (.tup [u1, u2])
    refine ⟨_, rfl, (ixt (v := u2) (SqT.of (s2 _ _ hca')) x2 ⟨_, rfl, (ixt (v := u1) (SqT.of (s2 _ _ hca')) x1 ⟨(by show 2 <= sizeLine; decide), fun p2 hp2 => ⟨(by show 2 <= sizeLine; decide), fun tt htt => ?_⟩⟩)⟩)⟩
    have s3 := s2.trans ((same_new hp2 (.tup [u2, u1])).trans (same_new htt (.tup [.ref p1, .ref p2])))
    have hp1' : (upd (upd (upd H1 p1 (.tup [u1, u2])) p2 (.tup [u2, u1])) tt (.tup [.ref p1, .ref p2])) p1 = some (.tup [u1, u2]) := same_new htt _ _ _ (same_new hp2 _ _ _ upd_same)
    have hp2' : (upd (upd (upd H1 p1 (.tup [u1, u2])) p2 (.tup [u2, u1])) tt (.tup [.ref p1, .ref p2])) p2 = some (.tup [u2, u1]) := same_new htt _ _ _ upd_same
    have htt' : (upd (upd (upd H1 p1 (.tup [u1, u2])) p2 (.tup [u2, u1])) tt (.tup [.ref p1, .ref p2])) tt = some (.tup [.ref p1, .ref p2]) := upd_same
    generalize upd (upd (upd H1 p1 (.tup [u1, u2])) p2 (.tup [u2, u1])) tt (.tup [.ref p1, .ref p2]) = H2 at s3 hp1' hp2' htt' ⊢
    have items : ∀ k, k < 2 -> ∃ (pk : Addr) (v1 v2 : V) (o : Qt × Qt), [V.ref p1, .ref p2][k]? = some (.ref pk) /\ [(qa, qb), (qb, qa)][k]? = some o /\ H2 pk = some (.tup [v1, v2]) /\ IsDt H2 (dQ o.1) v1 /\ IsDt H2 (dQ o.2) v2 /\ QW 4 o.1 := by
      intro k hk
      match k, hk with
      | 0, _ => exact ⟨p1, u1, u2, (qa, qb), rfl, rfl, hp1', IsDt.mono s3.tups iu1, IsDt.mono s3.tups iu2, qc.2.1⟩
      | 1, _ => exact ⟨p2, u2, u1, (qb, qa), rfl, rfl, hp2', IsDt.mono s3.tups iu2, IsDt.mono s3.tups iu1, qc.2.2⟩
    have fin0' : soughtL gs i [(qa, qb), (qb, qa)] = none -> ∀ H', Same H H' -> Q .non H' := fun z => fin0 (by show (if Str.ofString "same" = "same" then _ else none) = none; rw [if_pos rfl]; exact z)
    have fin1' : ∀ fl o, soughtL gs i [(qa, qb), (qb, qa)] = some (fl, o) -> ∀ (c : Addr) (v : V) (H' : Hp), Same H H' -> H' c = some (.tup [.str fl, v]) -> IsDt H' (dQ o) v -> Q (.ref c) H' := fun fl o z => fin1 fl o (by show (if Str.ofString "same" = "same" then _ else none) = _; rw [if_pos rfl]; exact z)
    generalize hPL : [(qa, qb), (qb, qa)] = PL at items fin0' fin1'
    have lPL : PL.length = 2 := by rw [<- hPL]; rfl
    refine ⟨tt, rfl, ⟨_, SqT.of htt'⟩, ?_⟩
    refine ⟨fun k m σ H' => m + k = 2 /\ k <= 2 /\ Same H2 H' /\ soughtL gs i (PL.take k) = none /\ ∃ o5 o6, σ = [some (.ref b), some (.ref a), some (.int i), some (.int j), some (.ref ca), o5, o6], ⟨2, rfl, Nat.zero_le _, .refl _, rfl, none, none, rfl⟩, ?_⟩
    rintro k m σ H3 ⟨hm, hk2, s4, hno, o5, o6, rfl⟩
    by_cases hk : k < 2
    · obtain ⟨pk, v1, v2, o, ep, eo, hpk, iv1, iv2, qo⟩ := items k hk
      refine .inr (for_hide (⟨_, _, SqT.of (s4 _ _ htt'), ep⟩) (fun σ' H' => (m - 1) + (k + 1) = 2 /\ k + 1 <= 2 /\ Same H2 H' /\ soughtL gs i (PL.take (k + 1)) = none /\ ∃ o5 o6, σ' = [some (.ref b), some (.ref a), some (.int i), some (.int j), some (.ref ca), o5, o6]) (fun σ' H' hW => ⟨m - 1, by lia, hW⟩) fun E' toN _ toR _ => ?_)
      intro x H4 hy
      refine hideG fun PP hPP => ?_
      obtain ⟨rfl, hx⟩ := hy
      refine hPP ?_
      have e5 := hx _ (SqT.of (s4 _ _ htt'))
      rw [ep] at e5
      cases e5
      have tkk : soughtL gs i (PL.take (k + 1)) = tryOne gs i o.1 o.2 := by
        unfold soughtL at hno ⊢
        rw [List.take_add_one, eo, List.findSome?_append, hno]
        show Option.or none (List.findSome? _ [o]) = _
        simp
      have iv1' := IsDt.mono s4.tups iv1
      have iv1'' := iv1'
      refine hideG fun PP hPP => ?_
      obtain ⟨a1, ys, rfl, ha1, hys⟩ := q_at iv1'
      refine hPP ?_
      refine ⟨pk, _, rfl, SqT.of (s4 _ _ hpk), rfl, _, _, rfl, _, _, rfl, rfl, ?_⟩
      refine ⟨_, rfl, (ixt (v := .str (wdQ o.1)) (SqT.of ha1) (wd0 ha1) (.inl ⟨rfl, _, rfl, ?_⟩))⟩
      by_cases hat : wdQ o.1 = "at"
      · obtain ⟨fl, u, eat⟩ := at_of_wd qo hat
        rw [hat]
        refine iteP veq ?_
        rw [eat] at iv1'' qo
        refine hideG fun PP hPP => ?_
        obtain ⟨a1', uu, e7, ha1', iuu⟩ := q_atf iv1''
        refine hPP ?_
        cases e7
        have iuu' := iuu
        refine hideG fun PP hPP => ?_
        obtain ⟨a2, zs, rfl, ha2, hzs⟩ := q_at iuu
        refine hPP ?_
        have x3 : atI [V.str "at", .str fl, .ref a2] 2 = some (.ref a2) := rfl
        refine ⟨_, rfl, (ixt (SqT.of ha1') x3 ((ixt (v := .str (wdQ u)) (SqT.of ha2) (wd0 ha2) (.inl ⟨rfl, _, rfl, ?_⟩))))⟩
        by_cases hvr : wdQ u = "var"
        · obtain ⟨x, rfl⟩ := var_of_wd (n := 3) (t := u) qo hvr
          rw [hvr]
          refine iteP veq ?_
          refine hideG fun PP hPP => ?_
          obtain ⟨a2', e8, ha2'⟩ := q_var iuu'
          refine hPP ?_
          cases e8
          have br4 := br1.mono (s3.trans s4).tups
          refine ⟨_, rfl, b, gs, cs, rfl, br4, fun dd kvs H5 s5 hdd hval => ?_⟩
          have x4 : atI [V.str "var", .str x] 1 = some (.str x) := rfl
          refine ⟨dd, rfl, .inl ⟨_, .inl hdd⟩, _, rfl, (ixt (SqT.of (s5 _ _ ha1')) x3 ((ixt (SqT.of (s5 _ _ ha2')) x4 ⟨_, DGet.k (k := Sum.inr x) hdd, ?_⟩)))⟩
          have ett : tryOne gs i o.1 o.2 = if lastN gs x = some i then some (fl, o.2) else none := by rw [eat]; rfl
          have gv : (valV kvs (Sum.inr x)).getD .non = (kvL (lastN gs x)).getD .non := by rw [hval]
          rw [gv]
          have res : (scal ((kvL (lastN gs x)).getD .non) (.int (i : Int)) = true) /\ (decide ((kvL (lastN gs x)).getD .non = .int (i : Int)) = decide (lastN gs x = some i)) := by
            cases lastN gs x with
            | none => exact ⟨rfl, by rw [Bool.eq_iff_iff]; simp [kvL]⟩
            | some k' => exact ⟨rfl, by rw [Bool.eq_iff_iff]; simp [kvL]; lia⟩
          refine ⟨_, rfl, .inl ⟨res.1, _, rfl, ?_⟩⟩
          rw [res.2]
          by_cases hlast : lastN gs x = some i
          · rw [if_pos hlast] at ett
            refine iteP (decide_eq_true hlast) ?_
            have x5 : atI [V.str "at", .str fl, .ref a2] 1 = some (.str fl) := rfl
            refine ⟨_, rfl, (ixt (SqT.of (s5 _ _ ha1')) x5 ⟨_, rfl, (by show 2 <= sizeLine; decide), fun tn htn => ?_⟩)⟩
            have found : soughtL gs i PL = some (fl, o.2) := by
              have e9 : PL = PL.take (k + 1) ++ PL.drop (k + 1) := (List.take_append_drop _ _).symm
              unfold soughtL at tkk ⊢
              rw [e9, List.findSome?_append, tkk, ett]
              rfl
            exact toR _ _ (fin1' fl o.2 found tn v2 _ (s1.trans (s3.trans (s4.trans (s5.trans (same_new htn _))))) upd_same (IsDt.mono (s4.trans (s5.trans (same_new htn _))).tups iv2))
          · rw [if_neg hlast] at ett
            refine iteN (by rw [decide_eq_false hlast]; decide) ?_
            exact toN _ _ ⟨by lia, by lia, s4.trans s5, by rw [tkk, ett], _, _, rfl⟩
        · refine iteN (vne hvr) ?_
          refine iteF ?_
          refine toN _ _ ⟨by lia, by lia, s4, ?_, _, _, rfl⟩
          rw [tkk, eat]
          refine try_not_var fun x z => hvr ?_
          rw [z]; rfl
      · refine iteN (vne hat) ?_
        refine iteF ?_
        refine toN _ _ ⟨by lia, by lia, s4, ?_, _, _, rfl⟩
        rw [tkk]
        refine try_not_at fun f' u' z => hat ?_
        rw [z]; rfl
    · refine .inl ⟨⟨_, SqT.of (s4 _ _ htt'), by show 2 <= k; lia⟩, ?_⟩
      rw [List.take_of_length_le (by lia)] at hno
      exact fin0' hno _ (s1.trans (s3.trans s4))
  · have hne : (!decide (V.str (wdQ t) = V.str "same")) = true := by
      rw [decide_eq_false (fun z => hw (by injection z))]; rfl
    refine iteP hne ?_
    exact fin0 (not_same hw) _ s1
end
end K66
end
section
namespace K66
open PySem L2 Kn
inductive Stp where
  | go (i : Nat)
  | ask (j : Nat)
  | seek (i j : Nat)
noncomputable def Stp.st : Stp -> Step
  | .go i => ("go", [.int i])
  | .ask j => ("ask", [.int j])
  | .seek i j => ("seek", [.int i, .int j])
noncomputable def Stp.gn : Stp -> List Int
  | .go i => [(i : Int)]
  | .ask _ => []
  | .seek i _ => [(i : Int)]
noncomputable def Stp.cl : Stp -> List Int
  | .go _ => []
  | .ask j => [(j : Int)]
  | .seek _ j => [(j : Int)]
noncomputable def Okst (gs : List Gen) (cs : List Qt) : Stp -> Prop
  | .go i => i < gs.length
  | .ask j => j < cs.length
  | .seek i j => i < gs.length /\ j < cs.length /\ soughtQ gs cs i j ≠ none
noncomputable def needNm (gs : List Gen) (cs : List Qt) : Stp -> List Str
  | .go _ => []
  | .ask j => match cs[j]? with | some t => nmQ t | none => []
  | .seek i j => match soughtQ gs cs i j with | some p => nmQ p.2 | none => []
theorem st_inj {a b : Stp} (h : a.st = b.st) : a = b := by
  cases a with
  | go i =>
    cases b with
    | go j => simp only [Stp.st, Prod.mk.injEq, List.cons.injEq, At.int.injEq, and_true, true_and] at h; congr 1; lia
    | ask j => exact absurd (congrArg Prod.fst h) (show ¬ Str.ofString "go" = Str.ofString "ask" by decide)
    | seek i j => exact absurd (congrArg Prod.fst h) (show ¬ Str.ofString "go" = Str.ofString "seek" by decide)
  | ask i =>
    cases b with
    | ask j => simp only [Stp.st, Prod.mk.injEq, List.cons.injEq, At.int.injEq, and_true, true_and] at h; congr 1; lia
    | go j => exact absurd (congrArg Prod.fst h) (show ¬ Str.ofString "ask" = Str.ofString "go" by decide)
    | seek i j => exact absurd (congrArg Prod.fst h) (show ¬ Str.ofString "ask" = Str.ofString "seek" by decide)
  | seek i k =>
    cases b with
    | seek j l => simp only [Stp.st, Prod.mk.injEq, List.cons.injEq, At.int.injEq, and_true, true_and] at h; congr 1 <;> lia
    | go j => exact absurd (congrArg Prod.fst h) (show ¬ Str.ofString "seek" = Str.ofString "go" by decide)
    | ask j => exact absurd (congrArg Prod.fst h) (show ¬ Str.ofString "seek" = Str.ofString "ask" by decide)
theorem nfit1 {as : List At} {n : Nat} : nfit as [(n : Int)] = true ↔ ∃ i : Nat, as = [.int i] /\ i < n := by
  unfold nfit
  match as with
  | [] => simp
  | [.int i] =>
    simp only [List.length_cons, List.length_nil, decide_true, Bool.true_and, List.zip_cons_cons, List.zip_nil_left, List.all_cons, List.all_nil, Bool.and_true, okN, Bool.and_eq_true, decide_eq_true_eq]
    constructor
    · rintro ⟨h1, h2⟩; exact ⟨i.toNat, by simp; lia, by lia⟩
    · rintro ⟨k, h1, h2⟩
      simp only [List.cons.injEq, At.int.injEq, and_true] at h1
      lia
  | [.txt z] => simp [okN]
  | _ :: _ :: _ => simp
theorem nfit2 {as : List At} {n m : Nat} : nfit as [(n : Int), (m : Int)] = true ↔ ∃ i j : Nat, as = [.int i, .int j] /\ i < n /\ j < m := by
  unfold nfit
  match as with
  | [] => simp
  | [_] => simp
  | [.int i, .int j] =>
    simp only [List.length_cons, List.length_nil, decide_true, Bool.true_and, List.zip_cons_cons, List.zip_nil_left, List.all_cons, List.all_nil, Bool.and_true, okN, Bool.and_eq_true, decide_eq_true_eq]
    constructor
    · rintro ⟨⟨h1, h2⟩, h3, h4⟩; exact ⟨i.toNat, j.toNat, by simp; lia, by lia, by lia⟩
    · rintro ⟨k, l, h1, h2, h3⟩
      simp only [List.cons.injEq, At.int.injEq, and_true] at h1
      lia
  | [.txt z, _] => simp [okN]
  | [.int i, .txt z] => simp [okN]
  | _ :: _ :: _ :: _ => simp
noncomputable def StepP (gs : List Gen) (cs : List Qt) (st : Step) : Prop := ∃ s : Stp, st = s.st /\ Okst gs cs s
theorem sought_in {gs : List Gen} {cs : List Qt} {i j : Nat} {p : Str × Qt} (h : soughtQ gs cs i j = some p) : ∃ c, cs[j]? = some c /\ (∀ n, QW (n + 1) c -> QW n p.2) /\ ∀ x ∈ nmQ p.2, x ∈ nmQ c := by
  unfold soughtQ at h
  cases e : cs[j]? with
  | none => rw [e] at h; cases h
  | some c =>
    rw [e] at h
    have h' : soughtC gs i c = some p := h
    refine ⟨c, rfl, ?_⟩
    cases c with
    | two w a b =>
      have h2 : (if w = "same" then soughtL gs i [(a, b), (b, a)] else none) = some p := h'
      split at h2
      · unfold soughtL at h2
        have tr : ∀ {o1 o2 : Qt}, tryOne gs i o1 o2 = some p -> p.2 = o2 := by
          intro o1 o2 z
          unfold tryOne at z
          split at z
          · split at z
            · cases z; rfl
            · cases z
          · cases z
        rw [List.findSome?_cons] at h2
        cases e1 : tryOne gs i a b with
        | some q =>
          simp only [e1] at h2
          cases h2
          rw [tr e1]
          exact ⟨fun n hq => hq.2.2, fun x hx => List.mem_append_right _ hx⟩
        | none =>
          simp only [e1, List.findSome?_cons, List.findSome?_nil] at h2
          cases e2 : tryOne gs i b a with
          | none => rw [e2] at h2; cases h2
          | some q =>
            rw [e2] at h2
            cases h2
            rw [tr e2]
            exact ⟨fun n hq => hq.2.1, fun x hx => List.mem_append_left _ hx⟩
      · cases h2
    | _ => cases h'
section
variable {P : Program} {w : World} {K : PySem.W.Frag} {mg : Str -> Option Value} {base : Heap} {f f_nfit f_sought f_named : Addr} {fd fd_nfit fd_sought fd_named : FuncData}
theorem sc_is_step : FnScope ["branch", "step", "word", "numbers"] ["branch", "step"] (defScope (top 10)) := ⟨rfl, rfl, rfl, by decide +kernel, rfl, by decide +kernel, by decide +kernel⟩
noncomputable def spIsStep : Sp := fun vs H Q _ => ∃ (b a : Addr) (gs : List Gen) (cs : List Qt) (st : Step), vs = [.ref b, .ref a] /\ Br H b gs cs /\ H a = some (.tup (stV st)) /\ st.2.length <= 10 /\
  ∀ (r : Bool) (H' : Hp), (r = true ↔ StepP gs cs st) -> Same H H' -> Q (.bl r) H'
theorem ok_isStep (T : Tx mg) (D : Df K mg "is_step" (top 10) f fd ["branch", "step"]) (D_numbers_fit : Df K mg "numbers_fit" (top 11) f_nfit fd_nfit ["numbers", "bounds"]) (G_numbers_fit : FnOk P w K mg base CX0 2 f_nfit fd_nfit ["numbers", "bounds"] spNfit)
    (D_sought : Df K mg "sought" (top 12) f_sought fd_sought ["branch", "step"]) (G_sought : FnOk P w K mg base CX0 2 f_sought fd_sought ["branch", "step"] spSought) : FnOk P w K mg base CX0 3 f fd ["branch", "step"] spIsStep := by
  refine D.fn.okH sc_is_step (fun vs H Q E h => ?_) (fun cdv A outer s H vs Q E hr h => ?_)
  · obtain ⟨b, a, gs, cs, st, rfl, _⟩ := h; rfl
  obtain ⟨b, a, gs, cs, ⟨wd, as⟩, rfl, br, ha, la, fin⟩ := h
  have hu := u110 hr
  have hu0 := u0 hr
  have hu1 := hu_of hr
  refine ⟨_, (wss_cons (ws_set (i := 2) sc_is_step.nd rfl (Or.inl rfl) (we_ix (ix_U hu1) (wv 1) we_int (fun _ _ => rfl)))
      (wss_cons (ws_set (i := 3) sc_is_step.nd rfl (Or.inl rfl) (we_slice sl_U (wv 1) (wo_some we_int) wo_none))
      (wss_cons (ws_if (wt_cmpR (op_eqU hu) (wv 2) we_str (nomark _)) (wss_one (ws_ret (we_call G_numbers_fit (hr.mono (by lia)) rfl D_numbers_fit.mg D_numbers_fit.kp D_numbers_fit.b .nil pass0 (wa_cons (wv 3) (wa_cons (we_tup (wa_cons (we_callB call_lenU rfl T.z_len bt_len (wa_cons (we_ix (ix_U hu1) (wv 0) we_int (fun _ _ => rfl)) wa_nil)) wa_nil)) wa_nil))))) wss_nil)
      (wss_cons (ws_if (wt_cmpR (op_eqU hu) (wv 2) we_str (nomark _)) (wss_one (ws_ret (we_call G_numbers_fit (hr.mono (by lia)) rfl D_numbers_fit.mg D_numbers_fit.kp D_numbers_fit.b .nil pass0 (wa_cons (wv 3) (wa_cons (we_tup (wa_cons (we_callB call_lenU rfl T.z_len bt_len (wa_cons (we_ix (ix_U hu1) (wv 0) we_int (fun _ _ => rfl)) wa_nil)) wa_nil)) wa_nil))))) wss_nil)
      (wss_cons (ws_if (wt_cmpR (op_eqU hu) (wv 2) we_str (nomark _)) (wss_one (ws_ret (we_and (we_call G_numbers_fit (hr.mono (by lia)) rfl D_numbers_fit.mg D_numbers_fit.kp D_numbers_fit.b .nil pass0 (wa_cons (wv 3) (wa_cons (we_tup (wa_cons (we_callB call_lenU rfl T.z_len bt_len (wa_cons (we_ix (ix_U hu1) (wv 0) we_int (fun _ _ => rfl)) wa_nil)) (wa_cons (we_callB call_lenU rfl T.z_len bt_len (wa_cons (we_ix (ix_U hu1) (wv 0) we_int (fun _ _ => rfl)) wa_nil)) wa_nil))) wa_nil))) (we_one (we_cmpR op_notN (we_call G_sought (hr.mono (by lia)) rfl D_sought.mg D_sought.kp D_sought.b .nil pass0 (wa_cons (wv 0) (wa_cons (wv 1) wa_nil))) we_non (nomark _)))))) wss_nil)
      (wss_one (ws_ret we_bl))))))), ?_⟩
  obtain ⟨X', gX'⟩ : ∃ X', X' = (cxOf CX0 P w K mg base ["branch", "step", "word", "numbers"] "is_step" (defScope (top 10)) f cdv A outer s H E).nox := ⟨_, rfl⟩
  try rw [<- gX']
  clear gX'
  have ha' : H a = some (.tup (V.str wd :: as.map atV)) := ha
  refine ⟨_, rfl, (ixt (v := .str wd) (SqT.of ha') (show atI (V.str wd :: as.map atV) ((0 : Nat) : Int) = _ from atI_nat rfl) ?_)⟩
  refine ⟨_, rfl, _, rfl, .inr (.inl ⟨a, _, rfl, SqT.of ha', ncutN (k := 1) (by decide) (by simp), fun q hq => ?_⟩)⟩
  have ec : cutV (V.str wd :: as.map atV) (some 1) none = as.map atV := by
    have := cutN (xs := V.str wd :: as.map atV) (k := 1)
    rw [show ((1 : Nat) : Int) = 1 from rfl] at this
    rw [this]; rfl
  rw [ec]
  have s1 := same_new hq (.tup (as.map atV))
  have hq1 : (upd H q (.tup (as.map atV))) q = some (.tup (as.map atV)) := upd_same
  generalize upd H q (.tup (as.map atV)) = H1 at s1 hq1 ⊢
  have br1 := br.mono s1.tups
  obtain ⟨ff, g, c, row, gus, cus, hb, hg, ig, hc, ic, lg, lc, cok⟩ := br1
  have lgu : gus.length = gs.length := by rw [ig.length, List.length_map]
  have lcu : cus.length = cs.length := by rw [ic.length, List.length_map]
  refine ⟨_, rfl, .inl ⟨rfl, _, rfl, ?_⟩⟩
  by_cases h1 : wd = "go"
  · subst h1
    refine iteP veq ?_
    refine ⟨_, rfl, _, rfl, (ixt (SqT.of hb) rfl (.inl ⟨g, _, rfl, .inr (SqT.of hg), (by show 1 <= sizeLine; decide), fun t ht => ?_⟩))⟩
    rw [lgu]
    refine ⟨q, t, as, [(gs.length : Int)], rfl, same_new ht _ _ _ hq1, upd_same, la, fun H' s' => ?_⟩
    refine fin _ H' ?_ (s1.trans ((same_new ht _).trans s'))
    rw [nfit1]
    constructor
    · rintro ⟨i, e, hi⟩; exact ⟨.go i, by rw [e]; rfl, hi⟩
    · rintro ⟨sp, e, ok⟩
      cases sp with
      | go i => exact ⟨i, congrArg Prod.snd e, ok⟩
      | ask i => exact absurd (congrArg Prod.fst e) (show ¬ Str.ofString "go" = Str.ofString "ask" by decide)
      | seek i k => exact absurd (congrArg Prod.fst e) (show ¬ Str.ofString "go" = Str.ofString "seek" by decide)
  refine iteN (vne h1) ?_
  refine ⟨_, rfl, .inl ⟨rfl, _, rfl, ?_⟩⟩
  by_cases h2 : wd = "ask"
  · subst h2
    refine iteP veq ?_
    refine ⟨_, rfl, _, rfl, (ixt (SqT.of hb) rfl (.inl ⟨c, _, rfl, .inr (SqT.of hc), (by show 1 <= sizeLine; decide), fun t ht => ?_⟩))⟩
    rw [lcu]
    refine ⟨q, t, as, [(cs.length : Int)], rfl, same_new ht _ _ _ hq1, upd_same, la, fun H' s' => ?_⟩
    refine fin _ H' ?_ (s1.trans ((same_new ht _).trans s'))
    rw [nfit1]
    constructor
    · rintro ⟨i, e, hi⟩; exact ⟨.ask i, by rw [e]; rfl, hi⟩
    · rintro ⟨sp, e, ok⟩
      cases sp with
      | ask i => exact ⟨i, congrArg Prod.snd e, ok⟩
      | go i => exact absurd (congrArg Prod.fst e) (show ¬ Str.ofString "ask" = Str.ofString "go" by decide)
      | seek i k => exact absurd (congrArg Prod.fst e) (show ¬ Str.ofString "ask" = Str.ofString "seek" by decide)
  refine iteN (vne h2) ?_
  refine ⟨_, rfl, .inl ⟨rfl, _, rfl, ?_⟩⟩
  by_cases h3 : wd = "seek"
  · subst h3
    refine iteP veq ?_
    refine ⟨_, rfl, _, rfl, (ixt (SqT.of hb) rfl (.inl ⟨g, _, rfl, .inr (SqT.of hg), _, rfl, (ixt (SqT.of hb) rfl (.inl ⟨c, _, rfl, .inr (SqT.of hc), (by show 2 <= sizeLine; decide), fun t ht => ?_⟩))⟩))⟩
    rw [lgu, lcu]
    refine ⟨q, t, as, [(gs.length : Int), (cs.length : Int)], rfl, same_new ht _ _ _ hq1, upd_same, la, fun H' s' => ⟨_, rfl, ?_⟩⟩
    have s3 := s1.trans ((same_new ht _).trans s')
    by_cases hf : nfit as [(gs.length : Int), (cs.length : Int)] = true
    · obtain ⟨i, j, eas, hi, hj⟩ := nfit2.mp hf
      refine iteP hf ?_
      subst eas
      refine ⟨_, rfl, _, rfl, b, a, gs, cs, i, j, rfl, br.mono s3.tups, s3 _ _ ha', hj, fun z H2 s2 => ⟨rfl, ?_⟩, fun fl o z cc v H2 s2 _ _ => ⟨rfl, ?_⟩⟩
      · refine fin _ H2 ?_ (s3.trans s2)
        simp only [decide_true, Bool.not_true, Bool.false_eq_true, false_iff]
        rintro ⟨sp, e, ok⟩
        have : sp = .seek i j := st_inj e.symm
        subst this
        exact ok.2.2 z
      · refine fin _ H2 ?_ (s3.trans s2)
        have : (!decide (V.ref cc = V.non)) = true := by rw [decide_eq_false (fun z => nomatch z)]; rfl
        rw [this]
        simp only [true_iff]
        exact ⟨.seek i j, rfl, hi, hj, by rw [z]; exact fun z => nomatch z⟩
    · refine iteN hf ?_
      refine fin _ H' ?_ s3
      simp only [Bool.false_eq_true, false_iff]
      rintro ⟨sp, e, ok⟩
      cases sp with
      | seek i j => exact hf (nfit2.mpr ⟨i, j, congrArg Prod.snd e, ok.1, ok.2.1⟩)
      | go i => exact absurd (congrArg Prod.fst e) (show ¬ Str.ofString "seek" = Str.ofString "go" by decide)
      | ask i => exact absurd (congrArg Prod.fst e) (show ¬ Str.ofString "seek" = Str.ofString "ask" by decide)
  refine iteN (vne h3) ?_
  refine fin _ H1 ?_ s1
  simp only [Bool.false_eq_true, false_iff]
  rintro ⟨sp, e, ok⟩
  cases sp with
  | go i => exact h1 (congrArg Prod.fst e)
  | ask i => exact h2 (congrArg Prod.fst e)
  | seek i j => exact h3 (congrArg Prod.fst e)
theorem sc_needed : FnScope ["branch", "step"] ["branch", "step"] (defScope (top 13)) := ⟨rfl, rfl, rfl, by decide +kernel, rfl, by decide +kernel, by decide +kernel⟩
noncomputable def NeedOk (gs : List Gen) (cs : List Qt) (s : Stp) (ns : List Int) : Prop := ∀ n, n ∈ ns ↔ ∃ x ∈ needNm gs cs s, ∃ k : Nat, lastN gs x = some k /\ n = k
noncomputable def spNeeded : Sp := fun vs H Q _ => ∃ (b a : Addr) (gs : List Gen) (cs : List Qt) (s : Stp), vs = [.ref b, .ref a] /\ Br H b gs cs /\ H a = some (.tup (stV s.st)) /\ Okst gs cs s /\
  ∀ (l : Addr) (ns : List Int) (H' : Hp), Same H H' -> H' l = some (.lst (ns.map V.int)) -> ns.length <= 32 -> NeedOk gs cs s ns -> Q (.ref l) H'
theorem ok_needed (T : Tx mg) (D : Df K mg "needed" (top 13) f fd ["branch", "step"]) (D_gens_named : Df K mg "gens_named" (top 9) f_named fd_named ["branch", "question"]) (G_gens_named : FnOk P w K mg base CX0 3 f_named fd_named ["branch", "question"] spNamed)
    (D_sought : Df K mg "sought" (top 12) f_sought fd_sought ["branch", "step"]) (G_sought : FnOk P w K mg base CX0 2 f_sought fd_sought ["branch", "step"] spSought) : FnOk P w K mg base CX0 4 f fd ["branch", "step"] spNeeded := by
  refine D.fn.okH sc_needed (fun vs H Q E h => ?_) (fun cdv A outer s H vs Q E hr h => ?_)
  · obtain ⟨b, a, gs, cs, st, rfl, _⟩ := h; rfl
  obtain ⟨b, a, gs, cs, st, rfl, br, ha, ok, fin⟩ := h
  have hu := u110 hr
  have hu0 := u0 hr
  have hu1 := hu_of hr
  refine ⟨_, (wss_cons (ws_if (wt_cmpR (op_eqU hu) (we_ix (ix_U hu1) (wv 1) we_int (fun _ _ => rfl)) we_str (nomark _)) (wss_one (ws_ret (we_lst wa_nil))) wss_nil)
      (wss_cons (ws_if (wt_cmpR (op_eqU hu) (we_ix (ix_U hu1) (wv 1) we_int (fun _ _ => rfl)) we_str (nomark _)) (wss_one (ws_ret (we_call G_gens_named (hr.mono (by lia)) rfl D_gens_named.mg D_gens_named.kp D_gens_named.b .nil pass0 (wa_cons (wv 0) (wa_cons (we_ix (ix_U hu1) (we_ix (ix_U hu1) (wv 0) we_int (fun _ _ => rfl)) (we_ix (ix_U hu1) (wv 1) we_int (fun _ _ => rfl)) (fun _ _ => rfl)) wa_nil))))) wss_nil)
      (wss_one (ws_ret (we_call G_gens_named (hr.mono (by lia)) rfl D_gens_named.mg D_gens_named.kp D_gens_named.b .nil pass0 (wa_cons (wv 0) (wa_cons (we_ix (ix_U hu1) (we_call G_sought (hr.mono (by lia)) rfl D_sought.mg D_sought.kp D_sought.b .nil pass0 (wa_cons (wv 0) (wa_cons (wv 1) wa_nil))) we_int (fun _ _ => rfl)) wa_nil))))))), ?_⟩
  obtain ⟨X', gX'⟩ : ∃ X', X' = (cxOf CX0 P w K mg base ["branch", "step"] "needed" (defScope (top 13)) f cdv A outer s H E).nox := ⟨_, rfl⟩
  try rw [<- gX']
  clear gX'
  obtain ⟨ff, g, c, row, gus, cus, hb, hg, ig, hc, ic, lg, lc, cok⟩ := id br
  cases st with
  | go i =>
    have ha' : H a = some (.tup [V.str "go", .int i]) := ha
    refine ⟨_, rfl, (ixt (SqT.of ha') rfl (.inl ⟨rfl, _, rfl, iteP veq ?_⟩))⟩
    exact ⟨(by show 0 <= sizeLine; decide), fun l hl => fin l [] _ (same_new hl _) upd_same (Nat.zero_le _) fun n => ⟨fun z => (nomatch z), fun ⟨x, hx, _⟩ => (nomatch hx)⟩⟩
  | ask j =>
    have ha' : H a = some (.tup [V.str "ask", .int j]) := ha
    refine ⟨_, rfl, (ixt (SqT.of ha') rfl (.inl ⟨rfl, _, rfl, iteN (vne (by decide)) ?_⟩))⟩
    refine ⟨_, rfl, (ixt (SqT.of ha') rfl (.inl ⟨rfl, _, rfl, iteP veq ?_⟩))⟩
    have hj : j < cs.length := ok
    obtain ⟨cv, e1, icv⟩ := ic.get (i := j) (d := dQ cs[j]) (by rw [List.getElem?_map, List.getElem?_eq_getElem hj]; rfl)
    have cj := cok _ (List.getElem_mem hj)
    refine ⟨_, rfl, _, rfl, (ixt (SqT.of hb) rfl ⟨_, rfl, (ixt (SqT.of ha') rfl ((ixt (v := cv) (SqT.of hc) (atI_nat e1) ?_)))⟩)⟩
    refine ⟨b, cv, cs[j], gs, cs, rfl, br, icv, cj.1, cj.2, fun l ns H' s' hl ll mem => fin l ns H' s' hl ll fun n => ?_⟩
    rw [mem n]
    have : needNm gs cs (.ask j) = nmQ cs[j] := by show (match cs[j]? with | some t => nmQ t | none => []) = _; rw [List.getElem?_eq_getElem hj]
    rw [this]
  | seek i j =>
    have ha' : H a = some (.tup [V.str "seek", .int i, .int j]) := ha
    obtain ⟨hi, hj, hs⟩ := ok
    refine ⟨_, rfl, (ixt (SqT.of ha') rfl (.inl ⟨rfl, _, rfl, iteN (vne (by decide)) ?_⟩))⟩
    refine ⟨_, rfl, (ixt (SqT.of ha') rfl (.inl ⟨rfl, _, rfl, iteN (vne (by decide)) ?_⟩))⟩
    refine ⟨_, rfl, _, rfl, _, rfl, b, a, gs, cs, i, j, rfl, br, ha', hj, fun z => absurd z hs, fun fl o z cc v H2 s2 hcc iv => ?_⟩
    obtain ⟨cj, e1, e2, e3⟩ := sought_in z
    have cm := cok cj (List.mem_of_getElem? e1)
    refine (ixt (v := v) (SqT.of hcc) rfl ⟨b, v, o, gs, cs, rfl, br.mono s2.tups, iv, (e2 4 cm.1).up, fun x hx => cm.2 x (e3 x hx), fun l ns H' s' hl ll mem => fin l ns H' (s2.trans s') hl ll fun n => ?_⟩)
    rw [mem n]
    have : needNm gs cs (.seek i j) = nmQ o := by show (match soughtQ gs cs i j with | some p => nmQ p.2 | none => []) = _; rw [z]
    rw [this]
theorem sc_claims_settled : FnScope ["step"] ["step"] (defScope (top 14)) := ⟨rfl, rfl, rfl, by decide +kernel, rfl, by decide +kernel, by decide +kernel⟩
noncomputable def spCl : Sp := fun vs H Q _ => ∃ (a : Addr) (s : Stp), vs = [.ref a] /\ H a = some (.tup (stV s.st)) /\ ∀ l, H l = none -> Q (.ref l) (upd H l (.lst (s.cl.map V.int)))
theorem ok_cl (T : Tx mg) (D : Df K mg "claims_settled" (top 14) f fd ["step"]) : FnOk P w K mg base CX0 1 f fd ["step"] spCl := by
  refine D.fn.okH sc_claims_settled (fun vs H Q E h => ?_) (fun cdv A outer s H vs Q E hr h => ?_)
  · obtain ⟨a, st, rfl, _⟩ := h; rfl
  obtain ⟨a, st, rfl, ha, fin⟩ := h
  have hu := u110 hr
  have hu0 := u0 hr
  have hu1 := hu_of hr
  refine ⟨_, (wss_one (ws_ret (we_ifExp (wt_cmpR (op_eqU hu) (we_ix (ix_U hu1) (wv 0) we_int (fun _ _ => rfl)) we_str (nomark _)) (we_lst wa_nil) (we_lst (wa_cons (we_ix (ix_U hu1) (wv 0) (we_un un_neg we_int) (fun _ _ => rfl)) wa_nil))))), ?_⟩
  obtain ⟨X', gX'⟩ : ∃ X', X' = (cxOf CX0 P w K mg base ["step"] "claims_settled" (defScope (top 14)) f cdv A outer s H E).nox := ⟨_, rfl⟩
  try rw [<- gX']
  clear gX'
  cases st with
  | go i =>
    have ha' : H a = some (.tup [V.str "go", .int i]) := ha
    exact ⟨_, rfl, (ixt (SqT.of ha') rfl (.inl ⟨rfl, _, rfl, iteP veq ⟨(by show 0 <= sizeLine; decide), fin⟩⟩))⟩
  | ask j =>
    have ha' : H a = some (.tup [V.str "ask", .int j]) := ha
    exact ⟨_, rfl, (ixt (SqT.of ha') rfl (.inl ⟨rfl, _, rfl, iteN (vne (by decide)) ⟨_, rfl, _, rfl, (ixt (SqT.of ha') rfl ⟨(by show 1 <= sizeLine; decide), fin⟩)⟩⟩))⟩
  | seek i j =>
    have ha' : H a = some (.tup [V.str "seek", .int i, .int j]) := ha
    exact ⟨_, rfl, (ixt (SqT.of ha') rfl (.inl ⟨rfl, _, rfl, iteN (vne (by decide)) ⟨_, rfl, _, rfl, (ixt (SqT.of ha') rfl ⟨(by show 1 <= sizeLine; decide), fin⟩)⟩⟩))⟩
theorem sc_gens_gone : FnScope ["step"] ["step"] (defScope (top 15)) := ⟨rfl, rfl, rfl, by decide +kernel, rfl, by decide +kernel, by decide +kernel⟩
noncomputable def spGn : Sp := fun vs H Q _ => ∃ (a : Addr) (s : Stp), vs = [.ref a] /\ H a = some (.tup (stV s.st)) /\ ∀ l, H l = none -> Q (.ref l) (upd H l (.lst (s.gn.map V.int)))
theorem ok_gn (T : Tx mg) (D : Df K mg "gens_gone" (top 15) f fd ["step"]) : FnOk P w K mg base CX0 1 f fd ["step"] spGn := by
  refine D.fn.okH sc_gens_gone (fun vs H Q E h => ?_) (fun cdv A outer s H vs Q E hr h => ?_)
  · obtain ⟨a, st, rfl, _⟩ := h; rfl
  obtain ⟨a, st, rfl, ha, fin⟩ := h
  have hu := u110 hr
  have hu0 := u0 hr
  have hu1 := hu_of hr
  refine ⟨_, (wss_one (ws_ret (we_ifExp (wt_cmpR (op_eqU hu) (we_ix (ix_U hu1) (wv 0) we_int (fun _ _ => rfl)) we_str (nomark _)) (we_lst wa_nil) (we_lst (wa_cons (we_ix (ix_U hu1) (wv 0) we_int (fun _ _ => rfl)) wa_nil))))), ?_⟩
  obtain ⟨X', gX'⟩ : ∃ X', X' = (cxOf CX0 P w K mg base ["step"] "gens_gone" (defScope (top 15)) f cdv A outer s H E).nox := ⟨_, rfl⟩
  try rw [<- gX']
  clear gX'
  cases st with
  | ask i =>
    have ha' : H a = some (.tup [V.str "ask", .int i]) := ha
    exact ⟨_, rfl, (ixt (SqT.of ha') rfl (.inl ⟨rfl, _, rfl, iteP veq ⟨(by show 0 <= sizeLine; decide), fin⟩⟩))⟩
  | go j =>
    have ha' : H a = some (.tup [V.str "go", .int j]) := ha
    exact ⟨_, rfl, (ixt (SqT.of ha') rfl (.inl ⟨rfl, _, rfl, iteN (vne (by decide)) ⟨_, rfl, (ixt (SqT.of ha') rfl ⟨(by show 1 <= sizeLine; decide), fin⟩)⟩⟩))⟩
  | seek i j =>
    have ha' : H a = some (.tup [V.str "seek", .int i, .int j]) := ha
    exact ⟨_, rfl, (ixt (SqT.of ha') rfl (.inl ⟨rfl, _, rfl, iteN (vne (by decide)) ⟨_, rfl, (ixt (SqT.of ha') rfl ⟨(by show 1 <= sizeLine; decide), fin⟩)⟩⟩))⟩
theorem inV_int (n : Int) : ∀ l : List Int, inV (.int n) (l.map V.int) = decide (n ∈ l)
  | [] => by simp [inV]
  | x :: l => by
    have ih := inV_int n l
    unfold inV at ih ⊢
    rw [List.map_cons, List.any_cons, ih]
    show (x == n || decide (n ∈ l)) = decide (n ∈ x :: l)
    rw [Bool.eq_iff_iff]
    simp only [Bool.or_eq_true, beq_iff_eq, decide_eq_true_eq, List.mem_cons]
    exact ⟨fun h => h.elim (fun e => .inl e.symm) .inr, fun h => h.elim (fun e => .inl e.symm) .inr⟩
theorem flat_ints (l : List Int) : (l.map V.int).all flatV = true := by rw [List.all_map]; exact List.all_eq_true.mpr fun _ _ => rfl
theorem sc_all_in : FnScope ["numbers", "others"] ["numbers", "others"] (defScope (top 16)) := ⟨rfl, rfl, rfl, by decide +kernel, rfl, by decide +kernel, by decide +kernel⟩
noncomputable def spAllIn : Sp := fun vs H Q _ => ∃ (l g : Addr) (ns ms : List Int), vs = [.ref l, .ref g] /\ H l = some (.lst (ns.map V.int)) /\ H g = some (.lst (ms.map V.int)) /\ ns.length <= 100 /\ ∀ H', Same H H' -> Q (.bl (ns.all fun n => decide (n ∈ ms))) H'
theorem ok_allIn (T : Tx mg) (D : Df K mg "all_in" (top 16) f fd ["numbers", "others"]) : FnOk P w K mg base CX0 1 f fd ["numbers", "others"] spAllIn := by
  refine D.fn.okH sc_all_in (fun vs H Q E h => ?_) (fun cdv A outer s H vs Q E hr h => ?_)
  · obtain ⟨l, g, ns, ms, rfl, _⟩ := h; rfl
  obtain ⟨l, g, ns, ms, rfl, hl, hg, ln, fin⟩ := h
  have hu := u110 hr
  have hu0 := u0 hr
  have hu1 := hu_of hr
  refine ⟨_, (wss_one (ws_ret (we_callB (call_all rfl) rfl T.z_all bt_all (wa_cons (we_lc (Nt := ["number"]) (fr := [("others", 1)]) (LcOk.of (sc := defScope (top 16)) (N := ["numbers", "others"]) rfl rfl (by decide +kernel)) rfl (wi_U (wv 0)) (fun z => wg_name (i := 0) (by show (["number", "others"] : List Str).Nodup; decide +kernel) rfl (Or.inl rfl) (.inr rfl)) (fun z => tgt_name (by decide)) (fun z => wif_nil) (fun z => (we_cmpR (op_inU hu) (wv 0) (wv 1) (by with_unfolding_all rfl)))) wa_nil)))), ?_⟩
  obtain ⟨X', gX'⟩ : ∃ X', X' = (cxOf CX0 P w K mg base ["numbers", "others"] "all_in" (defScope (top 16)) f cdv A outer s H E).nox := ⟨_, rfl⟩
  try rw [<- gX']
  clear gX'
  refine iU rfl (.inl rfl) hl fun J hJ => ?_
  refine ⟨fun i2 m2 zs H8 => H8 = H /\ m2 + i2 = ns.length /\ i2 <= ns.length /\ zs = ((ns.take i2).map fun n => decide (n ∈ ms)).map V.bl, ⟨ns.length, rfl, rfl, Nat.zero_le _, rfl⟩, ?_⟩
  rintro i2 m2 zs H8 ⟨rfl, hm2, li2, rfl⟩
  refine ⟨line1 (by rw [List.length_map, List.length_map, List.length_take]; lia), ?_⟩
  by_cases hi2 : i2 < ns.length
  · refine .inr ⟨hJ.go i2 H8 hl (by rw [List.length_map]; exact hi2), fun zc x H9 hy => ?_⟩
    obtain ⟨e0, hx⟩ := hJ.yl i2 H8 x _ hl hy
    rw [e0]
    rw [List.getElem?_map, List.getElem?_eq_getElem hi2] at hx
    cases hx
    refine gall ?_
    refine ⟨_, rfl, _, rfl, .inl ⟨g, _, rfl, .inl (SqL.of hg), rfl, flat_ints ms, m2 - 1, by lia, rfl, by lia, by lia, ?_⟩⟩
    rw [List.take_add_one, List.getElem?_eq_getElem hi2, List.map_append, List.map_append]
    show _ ++ [V.bl (inV (.int ns[i2]) (ms.map V.int))] = _
    rw [inV_int]
    rfl
  · refine .inl ⟨hJ.st i2 H8 hl (by rw [List.length_map]; lia), fun l8 hl8 => ⟨l8, _, rfl, SqL.of upd_same, ?_⟩⟩
    rw [List.take_of_length_le (by lia), List.all_map]
    exact fin _ (same_new hl8 _)
end
end K66
end
section
namespace K66
open PySem L2 Kn
noncomputable def Rdy (gs : List Gen) (xs : List Str) (g : List Int) : Prop := ∀ x ∈ xs, ∀ k : Nat, lastN gs x = some k -> (k : Int) ∈ g
noncomputable def okP (gs : List Gen) (cs : List Qt) (g _d : List Int) (s : Stp) : Prop := Okst gs cs s /\ Rdy gs (needNm gs cs s) g
noncomputable def FitF (ok : List Int -> List Int -> Stp -> Prop) (fin : List Int -> List Int -> Prop) : List Int -> List Int -> List Step -> Prop
  | g, d, [] => fin g d
  | g, d, st :: sts => ∃ s : Stp, s.st = st /\ ok g d s /\ FitF ok fin (g ++ s.gn) (d ++ s.cl) sts
noncomputable def rngI (n : Nat) : List Int := (List.range n).map fun (i : Nat) => (i : Int)
noncomputable def finP (n m : Nat) (g d : List Int) : Prop := g.Perm (rngI n) /\ d.Perm (rngI m)
theorem fit_step {ok : List Int -> List Int -> Stp -> Prop} {fin : List Int -> List Int -> Prop} {g d : List Int} {sts : List Step} {i : Nat} (hi : i < sts.length) {s : Stp} (e : s.st = sts[i]) (o : ok g d s) : FitF ok fin g d (sts.drop i) ↔ FitF ok fin (g ++ s.gn) (d ++ s.cl) (sts.drop (i + 1)) := by
  rw [List.drop_eq_getElem_cons hi]
  constructor
  · rintro ⟨s', e', _, h⟩
    obtain rfl : s' = s := st_inj (e'.trans e.symm)
    exact h
  · intro h
    exact ⟨s, e, o, h⟩
theorem fit_no {ok : List Int -> List Int -> Stp -> Prop} {fin : List Int -> List Int -> Prop} {g d : List Int} {sts : List Step} {i : Nat} (hi : i < sts.length) (no : ∀ s : Stp, s.st = sts[i] -> ¬ ok g d s) : ¬ FitF ok fin g d (sts.drop i) := by
  rw [List.drop_eq_getElem_cons hi]
  rintro ⟨s, e, o, _⟩
  exact no s e o
theorem gn_len (s : Stp) : s.gn.length <= 1 := by cases s <;> simp [Stp.gn]
theorem cl_len (s : Stp) : s.cl.length <= 1 := by cases s <;> simp [Stp.cl]
theorem intD_map {H : Hp} : ∀ l : List Int, IsDts H (l.map Dt.int) (l.map V.int)
  | [] => .nil
  | x :: l => .cons (isDt_int x) (intD_map l)
theorem intD_dep : ∀ l : List Int, depL (l.map Dt.int) = 0
  | [] => rfl
  | x :: l => by rw [List.map_cons, depL, intD_dep l]; rfl
theorem rng_sorted (n : Nat) : (rngI n).Pairwise (· <= ·) := by
  unfold rngI
  rw [List.pairwise_map]
  exact (List.pairwise_lt_range (n := n)).imp fun h => by lia
theorem sorted_eq : ∀ {a b : List Int}, a.Perm b -> a.Pairwise (· <= ·) -> b.Pairwise (· <= ·) -> a = b := fun {a b} p ha hb => List.Perm.eq_of_pairwise (fun x y _ _ h1 h2 => Int.le_antisymm h1 h2) ha hb p
theorem sort_rng {g ms : List Int} {n : Nat} (p : ms.Perm g) (h : ms.Pairwise (· <= ·)) : decide (ms.map Dt.int = (rngI n).map Dt.int) = true ↔ g.Perm (rngI n) := by
  rw [decide_eq_true_iff]
  constructor
  · intro e
    have e' : ms = rngI n := by
      have := congrArg (List.map fun d : Dt => match d with | .int i => i | _ => 0) e
      rw [List.map_map, List.map_map] at this
      simpa [Function.comp_def] using this
    rw [<- e']; exact p.symm
  · intro q
    rw [sorted_eq (p.trans q) h (rng_sorted n)]
section
variable {P : Program} {w : World} {K : PySem.W.Frag} {mg : Str -> Option Value} {base : Heap} {f f_is f_need f_all f_gn f_cl : Addr} {fd fd_is fd_need fd_all fd_gn fd_cl : FuncData}
theorem sc_fits : FnScope ["branch", "plan", "gone", "settled", "step"] ["branch", "plan"] (defScope (top 18)) := ⟨rfl, rfl, rfl, by decide +kernel, rfl, by decide +kernel, by decide +kernel⟩
noncomputable def spFits : Sp := fun vs H Q _ => ∃ (b pl : Addr) (gs : List Gen) (cs : List Qt) (us : List V) (sts : List Step), vs = [.ref b, .ref pl] /\ Br H b gs cs /\ H pl = some (.tup us) /\ IsDts H (sts.map stD) us /\ (∀ st ∈ sts, st.2.length <= 10) /\ sts.length <= 40 /\
  ∀ (r : Bool) (H' : Hp), (r = true ↔ FitF (okP gs cs) (finP gs.length cs.length) [] [] sts) -> Same H H' -> Q (.bl r) H'
theorem ok_fits (T : Tx mg) (D : Df K mg "fits" (top 18) f fd ["branch", "plan"]) (D_is_step : Df K mg "is_step" (top 10) f_is fd_is ["branch", "step"]) (G_is_step : FnOk P w K mg base CX0 3 f_is fd_is ["branch", "step"] spIsStep)
    (D_needed : Df K mg "needed" (top 13) f_need fd_need ["branch", "step"]) (G_needed : FnOk P w K mg base CX0 4 f_need fd_need ["branch", "step"] spNeeded)
    (D_all_in : Df K mg "all_in" (top 16) f_all fd_all ["numbers", "others"]) (G_all_in : FnOk P w K mg base CX0 1 f_all fd_all ["numbers", "others"] spAllIn)
    (D_gens_gone : Df K mg "gens_gone" (top 15) f_gn fd_gn ["step"]) (G_gens_gone : FnOk P w K mg base CX0 1 f_gn fd_gn ["step"] spGn)
    (D_claims_settled : Df K mg "claims_settled" (top 14) f_cl fd_cl ["step"]) (G_claims_settled : FnOk P w K mg base CX0 1 f_cl fd_cl ["step"] spCl) :
    FnOk P w K mg base CX0 5 f fd ["branch", "plan"] spFits := by
  refine D.fn.okH sc_fits (fun vs H Q E h => ?_) (fun cdv A outer s H vs Q E hr h => ?_)
  · obtain ⟨b, pl, gs, cs, us, sts, rfl, _⟩ := h; rfl
  obtain ⟨b, pl, gs, cs, us, sts, rfl, br, hpl, ius, sml, l40, fin⟩ := h
  have hu := u110 hr
  have hu0 := u0 hr
  have hu1 := hu_of hr
  refine ⟨_, (wss_cons (ws_set (i := 2) sc_fits.nd rfl (Or.inl rfl) (we_lst wa_nil))
      (wss_cons (ws_set (i := 3) sc_fits.nd rfl (Or.inl rfl) (we_lst wa_nil))
      (wss_cons (ws_for PassesOwn.never rfl (wi_U (wv 1)) (wg_name (i := 4) sc_fits.nd rfl (Or.inl rfl)) (wss_cons (ws_if (wt_pw (ww_or (wt_not (wt_val (we_call G_is_step (hr.mono (by lia)) rfl D_is_step.mg D_is_step.kp D_is_step.b .nil pass0 (wa_cons (wv 0) (wa_cons (wv 4) wa_nil))))) (ww_or1 (wt_not (wt_val (we_call G_all_in (hr.mono (by lia)) rfl D_all_in.mg D_all_in.kp D_all_in.b .nil pass0 (wa_cons (we_call G_needed (hr.mono (by lia)) rfl D_needed.mg D_needed.kp D_needed.b .nil pass0 (wa_cons (wv 0) (wa_cons (wv 4) wa_nil))) (wa_cons (wv 2) wa_nil)))))))) (wss_one (ws_ret we_bl)) wss_nil)
      (wss_cons (ws_expr (we_bm PySem.F.plainAttrs_list PySem.F.slot_list_extend PySem.F.type_list_extend mt_extend (wv 2) (wa_cons (we_call G_gens_gone (hr.mono (by lia)) rfl D_gens_gone.mg D_gens_gone.kp D_gens_gone.b .nil pass0 (wa_cons (wv 4) wa_nil)) wa_nil)))
      (wss_one (ws_expr (we_bm PySem.F.plainAttrs_list PySem.F.slot_list_extend PySem.F.type_list_extend mt_extend (wv 3) (wa_cons (we_call G_claims_settled (hr.mono (by lia)) rfl D_claims_settled.mg D_claims_settled.kp D_claims_settled.b .nil pass0 (wa_cons (wv 4) wa_nil)) wa_nil)))))))
      (wss_one (ws_ret (we_and (we_cmpR (op_eqX hu) (we_callB call_sortN rfl T.z_sorted bt_sorted (wa_cons (wv 2) wa_nil)) (we_callTy (call_listR rfl) rfl T.z_list bt_list (wa_cons (we_callTy call_range rfl T.z_range bt_range (wa_cons (we_callB call_lenU rfl T.z_len bt_len (wa_cons (we_ix (ix_U hu1) (wv 0) we_int (fun _ _ => rfl)) wa_nil)) wa_nil)) wa_nil)) (nomark _)) (we_one (we_cmpR (op_eqX hu) (we_callB call_sortN rfl T.z_sorted bt_sorted (wa_cons (wv 3) wa_nil)) (we_callTy (call_listR rfl) rfl T.z_list bt_list (wa_cons (we_callTy call_range rfl T.z_range bt_range (wa_cons (we_callB call_lenU rfl T.z_len bt_len (wa_cons (we_ix (ix_U hu1) (wv 0) we_int (fun _ _ => rfl)) wa_nil)) wa_nil)) wa_nil)) (nomark _))))))))), ?_⟩
  obtain ⟨X', gX'⟩ : ∃ X', X' = (cxOf CX0 P w K mg base ["branch", "plan", "gone", "settled", "step"] "fits" (defScope (top 18)) f cdv A outer s H E).nox := ⟨_, rfl⟩
  try rw [<- gX']
  clear gX'
  refine ⟨(by show 0 <= sizeLine; decide), fun ga hga => ⟨(by show 0 <= sizeLine; decide), fun sa hsa => ?_⟩⟩
  have s0 := (same_new hga (.lst [])).trans (same_new hsa (.lst []))
  have hga0 : (upd (upd H ga (.lst [])) sa (.lst [])) ga = some (.lst (([] : List Int).map V.int)) := same_new hsa _ _ _ upd_same
  have hsa0 : (upd (upd H ga (.lst [])) sa (.lst [])) sa = some (.lst (([] : List Int).map V.int)) := upd_same
  have nH : H sa = none := same_back (same_new hga (.lst [])) hsa
  have ngs : ga ≠ sa := fun z => by rw [<- z, upd_same] at hsa; cases hsa
  generalize upd (upd H ga (.lst [])) sa (.lst []) = H0 at s0 hga0 hsa0 ⊢
  have lus : us.length = sts.length := by rw [ius.length, List.length_map]
  refine iU rfl (.inr rfl) (s0 _ _ hpl) fun J hJ => ?_
  refine ⟨fun i m σ H' => ∃ (g d : List Int), m + i = sts.length /\ i <= sts.length /\ Same H H' /\ H' ga = some (.lst (g.map V.int)) /\ H' sa = some (.lst (d.map V.int)) /\ g.length <= i /\ d.length <= i /\ (FitF (okP gs cs) (finP gs.length cs.length) [] [] sts ↔ FitF (okP gs cs) (finP gs.length cs.length) g d (sts.drop i)) /\ ∃ o4, σ = [some (.ref b), some (.ref pl), some (.ref ga), some (.ref sa), o4], ⟨sts.length, [], [], rfl, Nat.zero_le _, s0, hga0, hsa0, Nat.le_refl _, Nat.le_refl _, Iff.rfl, none, rfl⟩, ?_⟩
  rintro i m σ H1 ⟨g, d, hm, hi', s1, hg1, hs1, lg, ld, iff1, o4, rfl⟩
  by_cases hi : i < sts.length
  · refine .inr (for_hide (hJ.go i H1 (s1 _ _ hpl) (by lia)) (fun σ' H' => ∃ (g d : List Int), (m - 1) + (i + 1) = sts.length /\ i + 1 <= sts.length /\ Same H H' /\ H' ga = some (.lst (g.map V.int)) /\ H' sa = some (.lst (d.map V.int)) /\ g.length <= i + 1 /\ d.length <= i + 1 /\ (FitF (okP gs cs) (finP gs.length cs.length) [] [] sts ↔ FitF (okP gs cs) (finP gs.length cs.length) g d (sts.drop (i + 1))) /\ ∃ o4, σ' = [some (.ref b), some (.ref pl), some (.ref ga), some (.ref sa), o4]) (fun σ' H' hW => ⟨m - 1, by lia, hW⟩) fun E' toN _ toR _ => ?_)
    intro x H2 hy
    obtain ⟨e0, hx⟩ := hJ.yl i H1 x _ (s1 _ _ hpl) hy
    rw [e0]
    obtain ⟨u, hu', du⟩ := ius.get (i := i) (d := stD sts[i]) (by rw [List.getElem?_map, List.getElem?_eq_getElem hi]; rfl)
    obtain rfl : u = x := by rw [hu'] at hx; injection hx
    obtain ⟨a, rfl, ha⟩ := st_of du
    have sm := sml _ (List.getElem_mem hi)
    have stp := @fit_step (okP gs cs) (finP gs.length cs.length) g d sts i hi
    have sno := @fit_no (okP gs cs) (finP gs.length cs.length) g d sts i hi
    generalize sts[i] = st at ha sm stp sno
    refine ⟨_, rfl, _, rfl, b, a, gs, cs, st, rfl, br.mono s1.tups, s1 _ _ ha, sm, fun r H3 hr3 s3 => ⟨_, rfl, ?_⟩⟩
    have s3' := s1.trans s3
    cases r with
    | false =>
      refine iteP rfl ?_
      refine toR _ _ (fin _ _ ?_ s3')
      simp only [Bool.false_eq_true, false_iff]
      rw [iff1]
      exact sno fun s e o => absurd (hr3.mpr ⟨s, e.symm, o.1⟩) (by decide)
    | true =>
      refine iteN (by decide) ?_
      obtain ⟨s, e, oks⟩ := hr3.mp rfl
      subst e
      refine ⟨_, rfl, _, rfl, b, a, gs, cs, s, rfl, br.mono s3'.tups, s3' _ _ ha, oks, fun l ns H4 s4 hl lns nok => ?_⟩
      have s4' := s3'.trans s4
      refine ⟨_, rfl, l, ga, ns, g, rfl, hl, s4 _ _ (s3 _ _ hg1), by lia, fun H5 s5 => ⟨_, rfl, ?_⟩⟩
      have s5' := s4'.trans s5
      by_cases hrd : Rdy gs (needNm gs cs s) g
      · have eall : (ns.all fun n => decide (n ∈ g)) = true := by
          rw [List.all_eq_true]
          intro n hn
          obtain ⟨x, hx, k, hk, rfl⟩ := (nok n).mp hn
          exact decide_eq_true (hrd x hx k hk)
        rw [eall]
        refine iteN (by decide) ?_
        have hg5 := s5 _ _ (s4 _ _ (s3 _ _ hg1))
        have hs5 := s5 _ _ (s4 _ _ (s3 _ _ hs1))
        have gl := gn_len s
        have cl := cl_len s
        refine ⟨_, rfl, .inl ⟨rfl, _, SqL.of hg5⟩, _, rfl, a, s, rfl, s5' _ _ ha, fun l2 hl2 => ⟨ga, l2, _, _, rfl, rfl, same_new hl2 _ _ _ hg5, upd_same, Nat.le_of_lt (line1 (by rw [List.length_map, List.length_map]; lia)), ?_⟩⟩
        rw [<- List.map_append]
        have s6 : Same H (upd (upd H5 l2 (.lst (s.gn.map V.int))) ga (.lst ((g ++ s.gn).map V.int))) := fun z o e => by
          rw [upd_ne (ne_of_none e hga)]; exact same_new hl2 _ _ _ (s5' _ _ e)
        have hg6 : (upd (upd H5 l2 (.lst (s.gn.map V.int))) ga (.lst ((g ++ s.gn).map V.int))) ga = some (.lst ((g ++ s.gn).map V.int)) := upd_same
        have hs6 : (upd (upd H5 l2 (.lst (s.gn.map V.int))) ga (.lst ((g ++ s.gn).map V.int))) sa = some (.lst (d.map V.int)) := by
          rw [upd_ne (Ne.symm ngs)]; exact same_new hl2 _ _ _ hs5
        generalize upd (upd H5 l2 (.lst (s.gn.map V.int))) ga (.lst ((g ++ s.gn).map V.int)) = H6 at s6 hg6 hs6 ⊢
        refine ⟨_, rfl, .inl ⟨rfl, _, SqL.of hs6⟩, _, rfl, a, s, rfl, s6 _ _ ha, fun l3 hl3 => ⟨sa, l3, _, _, rfl, rfl, same_new hl3 _ _ _ hs6, upd_same, Nat.le_of_lt (line1 (by rw [List.length_map, List.length_map]; lia)), ?_⟩⟩
        rw [<- List.map_append]
        refine toN _ _ ⟨g ++ s.gn, d ++ s.cl, by lia, by lia, fun z o e => by rw [upd_ne (ne_of_none e nH)]; exact same_new hl3 _ _ _ (s6 _ _ e), by rw [upd_ne ngs]; exact same_new hl3 _ _ _ hg6, upd_same, by rw [List.length_append]; lia, by rw [List.length_append]; lia, iff1.trans (stp rfl ⟨oks, hrd⟩), _, rfl⟩
      · have eall : (ns.all fun n => decide (n ∈ g)) = false := by
          rw [Bool.eq_false_iff]
          intro z
          rw [List.all_eq_true] at z
          exact hrd fun x hx k hk => of_decide_eq_true (z _ ((nok _).mpr ⟨x, hx, k, hk, rfl⟩))
        rw [eall]
        refine iteP rfl ?_
        refine toR _ _ (fin _ _ ?_ s5')
        simp only [Bool.false_eq_true, false_iff]
        rw [iff1]
        refine sno fun s' e o => ?_
        obtain rfl := st_inj e
        exact hrd o.2
  · refine .inl ⟨hJ.st i H1 (s1 _ _ hpl) (by lia), ?_⟩
    obtain rfl : i = sts.length := by lia
    rw [List.drop_length] at iff1
    obtain ⟨ff, gg, cc, row, gus, cus, hb, hgg, ig, hcc, ic, lgg, lcc, cok⟩ := br
    have lgu : gus.length = gs.length := by rw [ig.length, List.length_map]
    have lcu : cus.length = cs.length := by rw [ic.length, List.length_map]
    refine ⟨_, rfl, ga, g, rfl, hg1, by lia, fun p1 ms1 hp1 pm1 pw1 => ?_⟩
    have s2 := s1.trans (same_new hp1 (.lst (ms1.map V.int)))
    have hs2 := same_new hp1 (.lst (ms1.map V.int)) _ _ hs1
    have hp2 : (upd H1 p1 (.lst (ms1.map V.int))) p1 = some (.lst (ms1.map V.int)) := upd_same
    generalize upd H1 p1 (.lst (ms1.map V.int)) = H2 at s2 hs2 hp2 ⊢
    refine ⟨_, rfl, (ixt (SqT.of (s2 _ _ hb)) rfl (.inl ⟨gg, _, rfl, .inr (SqT.of (s2 _ _ hgg)), _, rfl, fun rg hrg => ⟨rg, gus.length, rfl, upd_same, by lia, fun q1 hq1 => ?_⟩⟩))⟩
    have s3 := s2.trans ((same_new hrg (.rng 0 gus.length)).trans (same_new hq1 (.lst (rangeV gus.length))))
    have hp3 := same_new hq1 (.lst (rangeV gus.length)) _ _ (same_new hrg (.rng 0 gus.length) _ _ hp2)
    have hs3 := same_new hq1 (.lst (rangeV gus.length)) _ _ (same_new hrg (.rng 0 gus.length) _ _ hs2)
    have hq3 : (upd (upd H2 rg (.rng 0 gus.length)) q1 (.lst (rangeV gus.length))) q1 = some (.lst (rangeV gus.length)) := upd_same
    generalize upd (upd H2 rg (.rng 0 gus.length)) q1 (.lst (rangeV gus.length)) = H3 at s3 hp3 hs3 hq3 ⊢
    have rv : ∀ n, rangeV n = (rngI n).map V.int := fun n => by unfold rangeV rngI; rw [List.map_map]; rfl
    rw [rv, lgu] at hq3
    refine .inr ⟨p1, q1, _, _, _, _, rfl, rfl, hp3, hq3, intD_map _, intD_map _, (by rw [intD_dep]; exact Nat.zero_le _), _, rfl, ?_⟩
    have e1 := sort_rng (n := gs.length) pm1 pw1
    cases hdec : decide (ms1.map Dt.int = (rngI gs.length).map Dt.int) with
    | false =>
      refine iteN (by decide) ?_
      refine fin _ _ ?_ s3
      simp only [Bool.false_eq_true, false_iff]
      rw [iff1]
      rintro ⟨z, _⟩
      rw [e1.mpr z] at hdec
      cases hdec
    | true =>
      refine iteP rfl ?_
      refine ⟨_, rfl, sa, d, rfl, hs3, by lia, fun p4 ms4 hp4 pm4 pw4 => ?_⟩
      have s4 := s3.trans (same_new hp4 (.lst (ms4.map V.int)))
      have hp4' : (upd H3 p4 (.lst (ms4.map V.int))) p4 = some (.lst (ms4.map V.int)) := upd_same
      generalize upd H3 p4 (.lst (ms4.map V.int)) = H4 at s4 hp4' ⊢
      refine ⟨_, rfl, (ixt (SqT.of (s4 _ _ hb)) rfl (.inl ⟨cc, _, rfl, .inr (SqT.of (s4 _ _ hcc)), _, rfl, fun rh hrh => ⟨rh, cus.length, rfl, upd_same, by lia, fun q4 hq4 => ?_⟩⟩))⟩
      have s5 := s4.trans ((same_new hrh (.rng 0 cus.length)).trans (same_new hq4 (.lst (rangeV cus.length))))
      have hp5 := same_new hq4 (.lst (rangeV cus.length)) _ _ (same_new hrh (.rng 0 cus.length) _ _ hp4')
      have hq5 : (upd (upd H4 rh (.rng 0 cus.length)) q4 (.lst (rangeV cus.length))) q4 = some (.lst (rangeV cus.length)) := upd_same
      generalize upd (upd H4 rh (.rng 0 cus.length)) q4 (.lst (rangeV cus.length)) = H5 at s5 hp5 hq5 ⊢
      rw [rv, lcu] at hq5
      refine .inr ⟨p4, q4, _, _, _, _, rfl, rfl, hp5, hq5, intD_map _, intD_map _, (by rw [intD_dep]; exact Nat.zero_le _), ?_⟩
      refine fin _ _ ?_ s5
      rw [sort_rng pm4 pw4, iff1]
      exact ⟨fun z => ⟨e1.mp hdec, z⟩, fun z => z.2⟩
end
end K66
end
section
namespace K66
open PySem L2 Kn
theorem fnOk_lt {P : Program} {w : World} {K : PySem.W.Frag} {mg : Str -> Option Value} {base : Heap} {k : Nat} {f : Addr} {fd : FuncData} {ps : List Str} {sp : Nat -> Sp} {d : Nat} (F : ∀ e, e < d -> FnOk P w K mg base CX0 k f fd ps (sp e)) :
    FnOk P w K mg base CX0 k f fd ps (fun vs H Q E => ∃ e, e < d /\ sp e vs H Q E) :=
  ⟨fun vs H Q E ⟨e, he, h⟩ => (F e he).len vs H Q E h, fun A outer s H args us vs Q E hr h0 hb hv ⟨e, he, h⟩ => (F e he).run A outer s H args us vs Q E hr h0 hb hv h⟩
noncomputable def GL (H : Hp) (p ga : Addr) (gs : List Gen) : Prop := ga ≠ p /\ ∃ gus, H ga = some (.lst gus) /\ IsDts H (gs.map genD) gus /\ gs.length <= 4
theorem GL.ex {H H' : Hp} {p c ga : Addr} {n : Int} {gs : List Gen} (h : GL H p ga gs) (dk : Dk H p c n) (x : Ex p H H') : GL H' p ga gs := by
  obtain ⟨ne, gus, h1, h2, h3⟩ := h
  exact ⟨ne, gus, x _ _ ne h1, IsDts.mono (dk.tups x) h2, h3⟩
theorem GL.same {H H' : Hp} {p ga : Addr} {gs : List Gen} (h : GL H p ga gs) (x : Same H H') : GL H' p ga gs := by
  obtain ⟨ne, gus, h1, h2, h3⟩ := h
  exact ⟨ne, gus, x _ _ h1, IsDts.mono x.tups h2, h3⟩
noncomputable def kvG (gs : List Gen) : List (Key × V) := gs.map fun g => (Sum.inr g.1, V.str g.2)
theorem kvG_pairs {H : Hp} : ∀ {gs : List Gen} {gus : List V}, IsDts H (gs.map genD) gus -> PairsK H (kvG gs) gus
  | [], gus, h => by rw [List.map_nil, IsDts] at h; subst h; exact .nil
  | g :: gs, gus, h => by
    obtain ⟨u, r, rfl, h1, h2⟩ := cons_of (d := genD g) (ds := gs.map genD) h
    obtain ⟨c, xs, rfl, h3, h4⟩ := tup_of h1
    obtain ⟨u1, r1, rfl, h5, h6⟩ := cons_of h4
    obtain ⟨u2, rfl, h7⟩ := one_of h6
    obtain rfl := str_of h5
    obtain rfl := str_of h7
    exact .cons ⟨c, rfl, h3⟩ (kvG_pairs h2)
theorem put_kvG (ms : List Gen) (g : Gen) : ∃ ns : List Gen, putK (kvG ms) (Sum.inr g.1) (V.str g.2) = kvG ns /\ (∀ x ∈ ns, x ∈ ms \/ x = g) /\ ns.length <= ms.length + 1 := by
  unfold putK
  split
  · refine ⟨ms.map fun m => if m.1 = g.1 then g else m, ?_, fun x hx => ?_, by simp⟩
    · unfold kvG
      rw [List.map_map, List.map_map]
      refine List.map_congr_left fun m _ => ?_
      show (if (Sum.inr m.1 : Key) = Sum.inr g.1 then ((Sum.inr m.1 : Key), V.str g.2) else (Sum.inr m.1, V.str m.2)) = (Sum.inr (if m.1 = g.1 then g else m).1, V.str (if m.1 = g.1 then g else m).2)
      by_cases e : m.1 = g.1
      · rw [if_pos (by rw [e]), if_pos e, e]
      · rw [if_neg (fun z => e (by injection z)), if_neg e]
    · obtain ⟨m, hm, rfl⟩ := List.mem_map.mp hx
      show (if m.1 = g.1 then g else m) ∈ ms \/ (if m.1 = g.1 then g else m) = g
      split
      · exact .inr rfl
      · exact .inl hm
  · refine ⟨ms ++ [g], by unfold kvG; rw [List.map_append]; rfl, fun x hx => ?_, by simp⟩
    rcases List.mem_append.mp hx with h | h
    · exact .inl h
    · exact .inr (List.mem_singleton.mp h)
theorem merge_kvG : ∀ (gs ms : List Gen), ∃ ns : List Gen, mergeG (kvG ms) (kvG gs) = kvG ns /\ (∀ x ∈ ns, x ∈ ms \/ x ∈ gs) /\ ns.length <= ms.length + gs.length
  | [], ms => ⟨ms, rfl, fun x h => .inl h, by simp⟩
  | g :: gs, ms => by
    obtain ⟨n1, e1, h1, l1⟩ := put_kvG ms g
    obtain ⟨n2, e2, h2, l2⟩ := merge_kvG gs n1
    refine ⟨n2, ?_, fun x hx => ?_, by simp only [List.length_cons]; lia⟩
    · show mergeG (putK (kvG ms) (Sum.inr g.1) (V.str g.2)) (kvG gs) = _
      rw [e1, e2]
    · rcases h2 x hx with h | h
      · rcases h1 x h with h | rfl
        · exact .inl h
        · exact .inr List.mem_cons_self
      · exact .inr (List.mem_cons_of_mem _ h)
noncomputable def esG (ms : List Gen) : List Dt := ms.map fun g => Dt.str g.2
theorem esG_is {H : Hp} : ∀ (ms : List Gen), IsDts H (esG ms) ((kvG ms).map (·.2))
  | [] => .nil
  | g :: ms => .cons (isDt_str _) (esG_is ms)
theorem zip_G : ∀ (ms : List Gen), ((kvG ms).zip (esG ms)).map (fun p => [kD p.1.1, p.2]) = ms.map fun g => [Dt.str g.1, Dt.str g.2]
  | [] => rfl
  | g :: ms => by
    have := zip_G ms
    show [kD (Sum.inr g.1), Dt.str g.2] :: ((kvG ms).zip (esG ms)).map (fun p => [kD p.1.1, p.2]) = _
    rw [this]; rfl
theorem lt_str2 (a b c d : Str) : (ltDs [Dt.str a, Dt.str b] [Dt.str c, Dt.str d]).isSome = true := by
  simp only [ltDs, ltD]
  repeat' split
  all_goals rfl
theorem sort_G (ms : List Gen) : Sortable "str" (((kvG ms).zip (esG ms)).map fun p => [kD p.1.1, p.2]) := by
  rw [zip_G]
  refine ⟨fun d hd => ?_, fun d hd e he => ?_, fun d hd => ?_⟩
  · obtain ⟨g, _, rfl⟩ := List.mem_map.mp hd; exact ⟨_, _, rfl, rfl⟩
  · obtain ⟨g, _, rfl⟩ := List.mem_map.mp hd
    obtain ⟨g', _, rfl⟩ := List.mem_map.mp he
    exact lt_str2 _ _ _ _
  · obtain ⟨g, _, rfl⟩ := List.mem_map.mp hd; simp [depL, Dt.dep]
theorem read_G {ms : List Gen} {p : List Nat} (h : p.Perm (List.range (kvG ms).length)) : ∃ ps : List Gen, (p.map fun i => (((kvG ms).zip (esG ms)).map fun p => [kD p.1.1, p.2]).getD i []).map Dt.tup = ps.map genD /\ (∀ g ∈ ps, g ∈ ms) /\ ps.length = ms.length := by
  refine ⟨p.map fun i => ms.getD i ("", ""), ?_, fun g hg => ?_, ?_⟩
  · rw [zip_G, List.map_map, List.map_map]
    refine List.map_congr_left fun i hi => ?_
    have hl : i < ms.length := by have := List.mem_range.mp (h.mem_iff.mp hi); unfold kvG at this; rwa [List.length_map] at this
    show Dt.tup ((ms.map fun g => [Dt.str g.1, Dt.str g.2]).getD i []) = genD (ms.getD i ("", ""))
    rw [List.getD_eq_getElem?_getD, List.getD_eq_getElem?_getD, List.getElem?_map, List.getElem?_eq_getElem hl]
    rfl
  · obtain ⟨i, hi, rfl⟩ := List.mem_map.mp hg
    have hl : i < ms.length := by have := List.mem_range.mp (h.mem_iff.mp hi); unfold kvG at this; rwa [List.length_map] at this
    show ms.getD i ("", "") ∈ ms
    rw [List.getD_eq_getElem?_getD, List.getElem?_eq_getElem hl]
    exact List.getElem_mem hl
  · rw [List.length_map, h.length_eq, List.length_range]; unfold kvG; rw [List.length_map]
theorem items_G {K : PySem.W.Frag} {H : Hp} {p ga : Addr} {gs : List Gen} {Q : VK} (gl : GL H p ga gs) (q : ∀ (a : Addr) (bs : List V) (ps : List Gen) (H' : Hp), Same H H' -> H a = none -> H' a = some (.lst bs) -> IsDts H' (ps.map genD) bs -> (∀ g ∈ ps, g ∈ gs) -> ps.length <= 4 -> Q (.ref a) H') :
    rDictK [.ref ga] H fun x H1 => tyV K "dict" x H1 /\ rItems x [] H1 fun y H2 => rSortI [y] H2 Q := by
  obtain ⟨ne, gus, h1, h2, h3⟩ := gl
  obtain ⟨ms, em, hm, lm⟩ := merge_kvG gs []
  refine ⟨ga, gus, kvG gs, rfl, .inl h1, kvG_pairs h2, fun d hd => ?_⟩
  have em' : mergeG [] (kvG gs) = kvG ms := em
  rw [em']
  have s1 := same_new hd (.dK (kvG ms))
  have hd1 : (upd H d (.dK (kvG ms))) d = some (.dK (kvG ms)) := upd_same
  generalize upd H d (.dK (kvG ms)) = H1 at s1 hd1 ⊢
  refine ⟨.inr (.inr (.inl ⟨rfl, .inl ⟨_, hd1⟩⟩)), d, kvG ms, rfl, rfl, hd1, fun v hv => ?_⟩
  have s2 := s1.trans (same_new hv (.ext (ItemsV v d)))
  have hd2 := same_new hv (.ext (ItemsV v d)) _ _ hd1
  have hv2 : (upd H1 v (.ext (ItemsV v d))) v = some (.ext (ItemsV v d)) := upd_same
  generalize upd H1 v (.ext (ItemsV v d)) = H2 at s2 hd2 hv2 ⊢
  have lk : (kvG ms).length = ms.length := by unfold kvG; rw [List.length_map]
  refine ⟨v, d, kvG ms, esG ms, "str", rfl, hv2, hd2, esG_is ms, sort_G ms, by rw [lk]; simp only [List.length_nil] at lm; lia, fun a H' bs pp ha s' ha' pm _ _ ib => ?_⟩
  obtain ⟨ps, e, hp, lp⟩ := read_G pm
  rw [e] at ib
  refine q a bs ps H' (s2.trans s') (same_back s2 ha) ha' ib (fun g hg => ?_) (by simp only [List.length_nil] at lm; lia)
  rcases hm g (hp g hg) with h | h
  · cases h
  · exact h
theorem cdiv {i j : Int} (h : 0 < j) (h2 : j < 1073741824) : CDiv i j := ⟨h, h2⟩
theorem join_seq {tt : TT} {a b u : TS} {D : Ends} {σ : St} {H : Hp} (I : St -> Hp -> Prop) (tail : ∀ σ H, I σ H -> u D σ H) (main : ∀ Kt : St -> Hp -> Prop, (∀ σ H, I σ H -> Kt σ H) -> tIfS tt a b { nx := Kt, rt := D.rt, bk := D.bk, ct := D.ct } σ H) : tSeq (tIfS tt a b) u D σ H := main _ tail
theorem hide {t u : TS} {D : Ends} {σ : St} {H : Hp} (h : ∀ R : TS, R = u -> tSeq t R D σ H) : tSeq t u D σ H := h u rfl
noncomputable def Out (p c : Addr) (n : Int) (gs : List Gen) (k : Nat) (H : Hp) (Q : VK) : Prop := ∀ (t : Qt) (u : V) (H' : Hp), QW k t -> (∀ x ∈ nmQ t, x ∈ gs.map (·.1)) -> IsDt H' (dQ t) u -> Ex p H H' -> Dk H' p c n -> Q u H'
theorem isQ_var {H : Hp} {a : Addr} {x : Str} (h : H a = some (.tup [.str "var", .str x])) : IsDt H (dQ (.var x)) (.ref a) := isDt_tup h (.cons (isDt_str _) (.cons (isDt_str _) .nil))
theorem isQ_num {H : Hp} {a : Addr} {x : Int} (h : H a = some (.tup [.str "num", .int x])) : IsDt H (dQ (.num x)) (.ref a) := isDt_tup h (.cons (isDt_str _) (.cons (isDt_int _) .nil))
theorem isQ_word {H : Hp} {a : Addr} {x : Str} (h : H a = some (.tup [.str "word", .str x])) : IsDt H (dQ (.word x)) (.ref a) := isDt_tup h (.cons (isDt_str _) (.cons (isDt_str _) .nil))
theorem isQ_at {H : Hp} {a : Addr} {f : Str} {t : Qt} {v : V} (h : H a = some (.tup [.str "at", .str f, v])) (i : IsDt H (dQ t) v) : IsDt H (dQ (.at f t)) (.ref a) := isDt_tup h (.cons (isDt_str _) (.cons (isDt_str _) (.cons i .nil)))
theorem isQ_two {H : Hp} {a : Addr} {w : Str} {t u : Qt} {v v' : V} (h : H a = some (.tup [.str w, v, v'])) (i : IsDt H (dQ t) v) (j : IsDt H (dQ u) v') : IsDt H (dQ (.two w t u)) (.ref a) := isDt_tup h (.cons (isDt_str _) (.cons i (.cons j .nil)))
theorem isQ_neg {H : Hp} {a : Addr} {t : Qt} {v : V} (h : H a = some (.tup [.str "not", v])) (i : IsDt H (dQ t) v) : IsDt H (dQ (.neg t)) (.ref a) := isDt_tup h (.cons (isDt_str _) (.cons i .nil))
theorem strs_mem {v : V} {l : List Str} (h : v ∈ l.map V.str) : ∃ x ∈ l, v = .str x := by
  obtain ⟨x, hx, rfl⟩ := List.mem_map.mp h; exact ⟨x, hx, rfl⟩
section
variable {P : Program} {w : World} {K : PySem.W.Frag} {mg : Str -> Option Value} {base : Heap} {f f_next : Addr} {fd fd_next : FuncData}
theorem sc__law_term : FnScope ["deck", "gens", "deep", "cell", "names", "found", "name", "table"] ["deck", "gens", "deep"] (defScope (top 21)) := ⟨rfl, rfl, rfl, by decide +kernel, rfl, by decide +kernel, by decide +kernel⟩
noncomputable def spTerm (d : Nat) : Sp := fun vs H Q _ => ∃ (p c ga : Addr) (n : Int) (gs : List Gen), vs = [.ref p, .ref ga, .int d] /\ Dk H p c n /\ n + d < 1000000 /\ GL H p ga gs /\ Out p c (n + d + 1) gs (d + 2) H Q
theorem ok_term {j d : Nat} (hj : 2 <= j) (hd : d <= 1) (T : Tx mg) (D__law_term : Df K mg "_law_term" (top 21) f fd ["deck", "gens", "deep"]) (G__law_term : FnOk P w K mg base CX0 j f fd ["deck", "gens", "deep"] (fun vs H Q E => ∃ e, e < d /\ spTerm e vs H Q E))
    (D__law_next : Df K mg "_law_next" (top 20) f_next fd_next ["deck"]) (G__law_next : FnOk P w K mg base CX0 1 f_next fd_next ["deck"] spNext) : FnOk P w K mg base CX0 (j + 1) f fd ["deck", "gens", "deep"] (spTerm d) := by
  refine D__law_term.fn.okH sc__law_term (fun vs H Q E h => ?_) (fun cdv A outer s H vs Q E hr h => ?_)
  · obtain ⟨p, c, ga, n, gs, rfl, _⟩ := h; rfl
  obtain ⟨p, c, ga, n, gs, rfl, dk, hn, gl, fin⟩ := h
  have hu := u110 hr
  have hu0 := u0 hr
  have hu1 := hu_of hr
  refine ⟨_, (wss_cons (ws_set (i := 3) sc__law_term.nd rfl (Or.inl rfl) (we_call G__law_next (hr.mono (by lia)) rfl D__law_next.mg D__law_next.kp D__law_next.b .nil pass0 (wa_cons (wv 0) wa_nil)))
      (wss_cons (ws_set (i := 4) sc__law_term.nd rfl (Or.inl rfl) (we_callB (call_sortI rfl hu) rfl T.z_sorted bt_sorted (wa_cons (we_bm0 PySem.F.plainAttrs_dict PySem.F.slot_dict_items PySem.F.type_dict_items mt_items (we_callTy (call_dictK rfl) rfl T.z_dict bt_dict (wa_cons (wv 1) wa_nil))) wa_nil)))
      (wss_cons (ws_set (i := 5) sc__law_term.nd rfl (Or.inl rfl) (we_tup (wa_cons we_str (wa_cons (we_ix (ix_U hu1) (we_lst (wa_cons we_int (wa_cons we_int (wa_cons we_int (wa_cons (we_op op_sub (we_op op_mod (we_op op_fdiv (wv 3) we_int) we_int) we_int) wa_nil))))) (we_op op_mod (we_op op_fdiv (wv 3) we_int) we_int) (fun _ _ => rfl)) wa_nil))))
      (wss_cons (ws_if (wt_pw (ww_and (wt_cmpR op_gt (we_op op_mod (wv 3) we_int) we_int (nomark _)) (ww_and1 (wt_cmpR (op_neU hu) (wv 4) (we_lst wa_nil) (nomark _))))) (wss_cons (ws_asg (we_ix (ix_U hu1) (wv 4) (we_op op_mod (we_op op_fdiv (wv 3) we_int) (we_callB call_lenU rfl T.z_len bt_len (wa_cons (wv 4) wa_nil))) (fun _ _ => rfl)) (wg_tup rfl (wgs_cons (wg_name (i := 6) sc__law_term.nd rfl (Or.inl rfl)) (wgs_cons (wg_name (i := 7) sc__law_term.nd rfl (Or.inl rfl)) wgs_nil))))
      (wss_cons (ws_set (i := 5) sc__law_term.nd rfl (Or.inl rfl) (we_tup (wa_cons we_str (wa_cons (wv 6) wa_nil))))
      (wss_cons (ws_if (wt_pw (ww_and (wt_cmpR (op_eqU hu) (wv 7) we_str (nomark _)) (ww_and1 (wt_cmpR (op_eqU hu) (we_op op_mod (we_op op_fdiv (wv 3) we_int) we_int) we_int (nomark _))))) (wss_one (ws_set (i := 5) sc__law_term.nd rfl (Or.inl rfl) (we_tup (wa_cons we_str (wa_cons we_str (wa_cons (wv 5) wa_nil)))))) wss_nil)
      (wss_one (ws_if (wt_cmpR (op_neU hu) (wv 7) we_str (nomark _)) (wss_one (ws_set (i := 5) sc__law_term.nd rfl (Or.inl rfl) (we_tup (wa_cons we_str (wa_cons we_str (wa_cons (wv 5) wa_nil)))))) wss_nil))))) wss_nil)
      (wss_cons (ws_if (wt_pw (ww_and (wt_cmpR op_gt (wv 2) we_int (nomark _)) (ww_and1 (wt_cmpR (op_eqU hu) (we_op op_mod (we_op op_fdiv (wv 3) we_int) we_int) we_int (nomark _))))) (wss_one (ws_ret (we_tup (wa_cons (we_ix (ix_U hu1) (we_lst (wa_consts rfl)) (we_op op_mod (we_op op_fdiv (wv 3) we_int) we_int) (fun _ _ => rfl)) (wa_cons (wv 5) (wa_cons (we_call G__law_term (hr.mono (by lia)) rfl D__law_term.mg D__law_term.kp D__law_term.b .nil pass0 (wa_cons (wv 0) (wa_cons (wv 1) (wa_cons (we_op op_sub (wv 2) we_int) wa_nil)))) wa_nil)))))) wss_nil)
      (wss_one (ws_ret (wv 5)))))))), ?_⟩
  obtain ⟨X', gX'⟩ : ∃ X', X' = (cxOf CX0 P w K mg base ["deck", "gens", "deep", "cell", "names", "found", "name", "table"] "_law_term" (defScope (top 21)) f cdv A outer s H E).nox := ⟨_, rfl⟩
  try rw [<- gX']
  clear gX'
  refine ⟨_, rfl, p, c, n, rfl, dk, by lia, fun cell H1 ex1 dk1 => ?_⟩
  have gl1 := gl.ex dk ex1
  refine ⟨_, rfl, ?_⟩
  dsimp only [tNil]
  with_reducible refine items_G gl1 fun na bs ps H2 s2 hna ha2 ib hps lps => ?_
  have ex2 := ex1.trans s2.ex
  have dk2 := dk1.keep s2
  refine ⟨_, rfl, _, _, rfl, rfl, cdiv (by decide) (by decide), _, _, rfl, rfl, (by show (0 : Int) < 9; decide), _, _, rfl, rfl, (by show 4 <= sizeLine; decide), fun l hl => ⟨_, rfl, _, _, rfl, rfl, cdiv (by decide) (by decide), _, _, rfl, rfl, (by show (0 : Int) < 4; decide), ?_⟩⟩
  obtain ⟨v, hv, hvm⟩ := atI_mem (xs := [V.int 0, V.int 1, V.int 2, V.int (cell / 4 % 9 - 4)]) (mod_lt (cell / 4) 4 (by decide)).1 (mod_lt (cell / 4) 4 (by decide)).2
  obtain ⟨z, rfl⟩ : ∃ z, v = V.int z := by
    simp only [List.mem_cons, List.not_mem_nil, or_false] at hvm
    rcases hvm with rfl | rfl | rfl | rfl <;> exact ⟨_, rfl⟩
  refine (ixl (SqL.of upd_same) hv ⟨(by show 2 <= sizeLine; decide), fun q hq => ?_⟩)
  have s3 := (same_new hl (.lst [V.int 0, V.int 1, V.int 2, V.int (cell / 4 % 9 - 4)])).trans (same_new hq (.tup [.str "num", .int z]))
  have hq3 : (upd (upd H2 l (.lst [V.int 0, V.int 1, V.int 2, V.int (cell / 4 % 9 - 4)])) q (.tup [.str "num", .int z])) q = some (.tup [.str "num", .int z]) := upd_same
  generalize upd (upd H2 l (.lst [V.int 0, V.int 1, V.int 2, V.int (cell / 4 % 9 - 4)])) q (.tup [.str "num", .int z]) = H3 at s3 hq3 ⊢
  have ex3 := ex2.trans s3.ex
  have dk3 := dk2.keep s3
  have ib3 := IsDts.mono s3.tups ib
  have ha3 := s3 _ _ ha2
  dsimp only [gName]
  refine join_seq (fun σ H' => ∃ (t : Qt) (u : V) (o6 o7 : Option V), σ = [some (.ref p), some (.ref ga), some (.int d), some (.int cell), some (.ref na), some u, o6, o7] /\ QW 2 t /\ (∀ x ∈ nmQ t, x ∈ gs.map (·.1)) /\ IsDt H' (dQ t) u /\ Ex p H H' /\ Dk H' p c (n + 1)) ?tail fun Kt tail => ?main
  case tail =>
    rintro σ H4 ⟨t, u, o6, o7, rfl, qt, nt, iu, ex4, dk4⟩
    refine ⟨_, rfl, _, _, rfl, rfl, _, rfl, ?_⟩
    have out : Q u H4 := fin t u H4 (qt.mono (by lia)) nt iu ex4 (dk4.mono (by lia))
    by_cases hd0 : 0 < d
    · obtain rfl : d = 1 := by lia
      refine iteP rfl ?_
      refine ⟨_, rfl, _, _, rfl, rfl, cdiv (by decide) (by decide), _, _, rfl, rfl, (by show (0 : Int) < 5; decide), .inl ⟨rfl, _, rfl, ?_⟩⟩
      refine ite2 (fun e => ?_) (fun e => ⟨_, rfl, out⟩)
      refine ⟨(by show 2 <= sizeLine; decide), fun l5 hl5 => ⟨_, rfl, _, _, rfl, rfl, cdiv (by decide) (by decide), _, _, rfl, rfl, (by show (0 : Int) < 2; decide), ?_⟩⟩
      obtain ⟨v, hv, hvm⟩ := atI_mem (xs := [V.str "add", V.str "mul"]) (mod_lt (cell / 640) 2 (by decide)).1 (mod_lt (cell / 640) 2 (by decide)).2
      obtain ⟨wd, rfl, hwd⟩ : ∃ wd, v = V.str wd /\ wd ∈ W2 := by
        simp only [List.mem_cons, List.not_mem_nil, or_false] at hvm
        rcases hvm with rfl | rfl <;> exact ⟨_, rfl, by decide +kernel⟩
      refine (ixl (SqL.of upd_same) hv ?_)
      have s5 := same_new hl5 (.lst [V.str "add", V.str "mul"])
      generalize upd H4 l5 (.lst [V.str "add", V.str "mul"]) = H5 at s5 ⊢
      have gl5 := (gl.ex dk ex4).same s5
      refine ⟨_, rfl, _, rfl, _, rfl, _, rfl, _, _, rfl, rfl, ?_⟩
      refine ⟨0, by lia, p, c, ga, n + 1, gs, rfl, dk4.keep s5, by lia, gl5, fun t2 u2 H6 qt2 nt2 iu2 ex6 dk6 => ?_⟩
      refine ⟨(by show 3 <= sizeLine; decide), fun q6 hq6 => ?_⟩
      have s7 := same_new hq6 (.tup [.str wd, u, u2])
      have t56 := (dk4.keep s5).tups ex6
      refine fin (.two wd t t2) _ _ ?_ (fun x hx => ?_) (isQ_two upd_same (IsDt.mono s7.tups (IsDt.mono t56 (IsDt.mono s5.tups iu))) (IsDt.mono s7.tups iu2)) (ex4.trans (Ex.trans s5.ex (ex6.trans s7.ex))) ((dk6.keep s7).mono (by lia))
      · exact ⟨hwd, qt, qt2⟩
      · rcases List.mem_append.mp (show x ∈ nmQ t ++ nmQ t2 from hx) with h | h
        · exact nt x h
        · exact nt2 x h
    · exact iteN (fun z => hd0 (by have := of_decide_eq_true z; lia)) ⟨_, rfl, out⟩
  case main =>
    have q0 : IsDt H3 (dQ (.num z)) (.ref q) := isQ_num hq3
    refine ⟨_, rfl, _, _, rfl, rfl, (by show (0 : Int) < 4; decide), _, _, rfl, rfl, _, rfl, ?_⟩
    refine ite2 (fun e => ?_) (fun e => tail _ _ ⟨.num z, _, _, _, rfl, trivial, fun x hx => (nomatch hx), q0, ex3, dk3⟩)
    refine ⟨_, rfl, (by show 0 <= sizeLine; decide), fun e4 he4 => .inr (.inr ⟨na, e4, bs, rfl, rfl, same_new he4 _ _ _ ha3, upd_same, _, rfl, ?_⟩)⟩
    have s4 := same_new he4 (.lst [])
    have ib4 := IsDts.mono s4.tups ib3
    have ha4 := s4 _ _ ha3
    have ex4 := ex3.trans s4.ex
    have dk4 := dk3.keep s4
    have q4 := IsDt.mono s4.tups q0
    generalize upd H3 e4 (.lst []) = H4 at s4 ib4 ha4 ex4 dk4 q4 ⊢
    refine ite2 (fun e2 => ?_) (fun e2 => tail _ _ ⟨.num z, _, _, _, rfl, trivial, fun x hx => (nomatch hx), q4, ex4, dk4⟩)
    have nb : bs ≠ [] := of_decide_eq_true e2
    have lb : bs.length = ps.length := by rw [ib.length, List.length_map]
    have pos : (0 : Int) < (bs.length : Int) := by
      cases bs with
      | nil => exact absurd rfl nb
      | cons _ _ => simp
    refine ⟨_, rfl, _, rfl, _, _, rfl, rfl, cdiv (by decide) (by decide), _, rfl, .inl ⟨na, _, rfl, .inl (SqL.of ha4), _, _, rfl, rfl, pos, ?_⟩⟩
    obtain ⟨v1, hv1, hm1⟩ := atI_mem (xs := bs) (mod_lt (cell / 4) _ pos).1 (mod_lt (cell / 4) _ pos).2
    obtain ⟨i1, hi1⟩ := List.mem_iff_getElem?.mp hm1
    have hi1' : i1 < ps.length := by have := (List.getElem?_eq_some_iff.mp hi1).1; lia
    obtain ⟨cg, e1, hcg⟩ := gen_at ib4 hi1'
    rw [e1] at hi1
    cases hi1
    have gm := hps _ (List.getElem_mem hi1')
    have nm1 : nmG ps i1 = ps[i1].1 := by unfold nmG; rw [List.getD_eq_getElem?_getD, List.getElem?_eq_getElem hi1']; rfl
    rw [nm1] at hcg
    have hx1 : ps[i1].1 ∈ gs.map (·.1) := List.mem_map.mpr ⟨_, gm, rfl⟩
    generalize ps[i1].1 = x1 at hcg hx1
    generalize ps[i1].2 = tb at hcg
    refine (ixl (SqL.of ha4) hv1 ⟨cg, _, rfl, SqT.of hcg, rfl, _, _, rfl, _, _, rfl, rfl, ?_⟩)
    refine ⟨_, rfl, (by show 2 <= sizeLine; decide), fun q5 hq5 => ?_⟩
    have s5 := same_new hq5 (.tup [.str "var", .str x1])
    have iq5 : IsDt (upd H4 q5 (.tup [.str "var", .str x1])) (dQ (.var x1)) (.ref q5) := isQ_var upd_same
    have ex5 := ex4.trans s5.ex
    have dk5 := dk4.keep s5
    generalize upd H4 q5 (.tup [.str "var", .str x1]) = H5 at s5 iq5 ex5 dk5 ⊢
    have nq : ∀ x ∈ nmQ (.var x1), x ∈ gs.map (·.1) := fun x hx => by rw [List.mem_singleton.mp hx]; exact hx1
    dsimp only [gName]
    refine join_seq (fun σ H' => ∃ (t : Qt) (u : V), σ = [some (.ref p), some (.ref ga), some (.int d), some (.int cell), some (.ref na), some u, some (.str x1), some (.str tb)] /\ QW 1 t /\ (∀ x ∈ nmQ t, x ∈ gs.map (·.1)) /\ IsDt H' (dQ t) u /\ Ex p H H' /\ Dk H' p c (n + 1)) ?tail2 fun Kt tail2 => ?main2
    case tail2 =>
      rintro σ H6 ⟨t, u, rfl, qt, nt, iu, ex6, dk6⟩
      refine ⟨_, rfl, .inl ⟨rfl, _, rfl, ?_⟩⟩
      refine ite2 (fun e3 => ?_) (fun e3 => tail _ _ ⟨t, u, _, _, rfl, qt.up, nt, iu, ex6, dk6⟩)
      refine ⟨_, rfl, (by show 3 <= sizeLine; decide), fun q7 hq7 => ?_⟩
      have s7 := same_new hq7 (.tup [.str "at", .str "a", u])
      exact tail _ _ ⟨.at "a" t, _, _, _, rfl, qt, nt, isQ_at upd_same (IsDt.mono s7.tups iu), ex6.trans s7.ex, dk6.keep s7⟩
    case main2 =>
      refine ⟨_, rfl, .inl ⟨rfl, _, rfl, ?_⟩⟩
      refine ite2 (fun e3 => ?_) (fun e3 => tail2 _ _ ⟨.var x1, _, rfl, trivial, nq, iq5, ex5, dk5⟩)
      refine ⟨_, rfl, _, _, rfl, rfl, cdiv (by decide) (by decide), _, _, rfl, rfl, (by show (0 : Int) < 2; decide), .inl ⟨rfl, _, rfl, ?_⟩⟩
      refine ite2 (fun e4 => ?_) (fun e4 => tail2 _ _ ⟨.var x1, _, rfl, trivial, nq, iq5, ex5, dk5⟩)
      refine ⟨_, rfl, (by show 3 <= sizeLine; decide), fun q7 hq7 => ?_⟩
      have s7 := same_new hq7 (.tup [.str "at", .str "b", .ref q5])
      exact tail2 _ _ ⟨.at "b" (.var x1), _, rfl, trivial, nq, isQ_at upd_same (IsDt.mono s7.tups iq5), ex5.trans s7.ex, dk5.keep s7⟩
end
end K66
end
section
namespace K66
open PySem L2 Kn
theorem strD_map {H : Hp} : ∀ l : List Str, IsDts H (l.map Dt.str) (l.map V.str)
  | [] => .nil
  | x :: l => .cons (isDt_str x) (strD_map l)
theorem strD_dep : ∀ l : List Str, depL (l.map Dt.str) = 0
  | [] => rfl
  | x :: l => by rw [List.map_cons, depL, strD_dep l]; rfl
section
variable {P : Program} {w : World} {K : PySem.W.Frag} {mg : Str -> Option Value} {base : Heap} {f f_next f_term f_word : Addr} {fd fd_next fd_term fd_word : FuncData}
theorem term_all (T : Tx mg) (D__law_term : Df K mg "_law_term" (top 21) f fd ["deck", "gens", "deep"]) (D__law_next : Df K mg "_law_next" (top 20) f_next fd_next ["deck"]) (G__law_next : FnOk P w K mg base CX0 1 f_next fd_next ["deck"] spNext) :
    ∀ d : Nat, d <= 1 -> FnOk P w K mg base CX0 (d + 3) f fd ["deck", "gens", "deep"] (spTerm d) := fun d => by
  induction d using Nat.strongRecOn with
  | _ d ih => exact fun d1 => ok_term (j := d + 2) (by lia) d1 T D__law_term (fnOk_lt fun e he => (ih e he (by lia)).mono (by lia)) D__law_next G__law_next
noncomputable def spTermA : Sp := fun vs H Q E => ∃ d, d < 2 /\ spTerm d vs H Q E
theorem ok_termA (T : Tx mg) (D__law_term : Df K mg "_law_term" (top 21) f fd ["deck", "gens", "deep"]) (D__law_next : Df K mg "_law_next" (top 20) f_next fd_next ["deck"]) (G__law_next : FnOk P w K mg base CX0 1 f_next fd_next ["deck"] spNext) :
    FnOk P w K mg base CX0 4 f fd ["deck", "gens", "deep"] spTermA := fnOk_lt fun e he => (term_all T D__law_term D__law_next G__law_next e (by lia)).mono (by lia)
theorem sc__law_word : FnScope ["deck", "gens", "cell", "names"] ["deck", "gens"] (defScope (top 22)) := ⟨rfl, rfl, rfl, by decide +kernel, rfl, by decide +kernel, by decide +kernel⟩
noncomputable def spWord : Sp := fun vs H Q _ => ∃ (p c ga : Addr) (n : Int) (gs : List Gen), vs = [.ref p, .ref ga] /\ Dk H p c n /\ n < 1000000 /\ GL H p ga gs /\ Out p c (n + 1) gs 1 H Q
theorem ok_word (T : Tx mg) (D : Df K mg "_law_word" (top 22) f fd ["deck", "gens"])
    (D__law_next : Df K mg "_law_next" (top 20) f_next fd_next ["deck"]) (G__law_next : FnOk P w K mg base CX0 1 f_next fd_next ["deck"] spNext) : FnOk P w K mg base CX0 3 f fd ["deck", "gens"] spWord := by
  refine D.fn.okH sc__law_word (fun vs H Q E h => ?_) (fun cdv A outer s H vs Q E hr h => ?_)
  · obtain ⟨p, c, ga, n, gs, rfl, _⟩ := h; rfl
  obtain ⟨p, c, ga, n, gs, rfl, dk, hn, gl, fin⟩ := h
  have hu := u110 hr
  have hu0 := u0 hr
  have hu1 := hu_of hr
  refine ⟨_, (wss_cons (ws_set (i := 2) sc__law_word.nd rfl (Or.inl rfl) (we_call G__law_next (hr.mono (by lia)) rfl D__law_next.mg D__law_next.kp D__law_next.b .nil pass0 (wa_cons (wv 0) wa_nil)))
      (wss_cons (ws_lc (j := 3) (hN := sc__law_word.nd) (hj := rfl) (hy := (Or.inl rfl)) (Nt := ["name", "table"]) (fr := []) (LcOk.of (sc := defScope (top 22)) (N := ["deck", "gens", "cell", "names"]) rfl rfl (by decide +kernel)) rfl (wi_U (we_callB (call_sortI rfl hu) rfl T.z_sorted bt_sorted (wa_cons (we_bm0 PySem.F.plainAttrs_dict PySem.F.slot_dict_items PySem.F.type_dict_items mt_items (we_callTy (call_dictK rfl) rfl T.z_dict bt_dict (wa_cons (wv 1) wa_nil))) wa_nil))) (fun z => wg_tup rfl (wgs_cons (wg_name (i := 0) (by show (["name", "table"] : List Str).Nodup; decide +kernel) rfl (Or.inl rfl) (.inr rfl)) (wgs_cons (wg_name (i := 1) (by show (["name", "table"] : List Str).Nodup; decide +kernel) rfl (Or.inl rfl) (.inr rfl)) wgs_nil))) (fun z => tgt_two (by decide) (by decide)) (fun z => wif_one (wt_cmpR (op_eqX hu) (wv 1) we_str (nomark _))) (fun z => (wv 0)))
      (wss_cons (ws_if (wt_pw (ww_or (wt_cmpR (op_eqX hu) (we_op op_mod (wv 2) we_int) we_int (nomark _)) (ww_or1 (wt_cmpR (op_eqX hu) (wv 3) (we_lst wa_nil) (nomark _))))) (wss_one (ws_ret (we_tup (wa_cons we_str (wa_cons (we_ix (ix_U hu1) (we_lst (wa_consts rfl)) (we_op op_mod (we_op op_fdiv (wv 2) we_int) we_int) (fun _ _ => rfl)) wa_nil))))) wss_nil)
      (wss_one (ws_ret (we_tup (wa_cons we_str (wa_cons we_str (wa_cons (we_tup (wa_cons we_str (wa_cons (we_ix (ix_U hu1) (wv 3) (we_op op_mod (we_op op_fdiv (wv 2) we_int) (we_callB call_lenU rfl T.z_len bt_len (wa_cons (wv 3) wa_nil))) (fun _ _ => rfl)) wa_nil))) wa_nil))))))))), ?_⟩
  obtain ⟨X', gX'⟩ : ∃ X', X' = (cxOf CX0 P w K mg base ["deck", "gens", "cell", "names"] "_law_word" (defScope (top 22)) f cdv A outer s H E).nox := ⟨_, rfl⟩
  try rw [<- gX']
  clear gX'
  refine ⟨_, rfl, p, c, n, rfl, dk, by lia, fun cell H1 ex1 dk1 => ?_⟩
  have gl1 := gl.ex dk ex1
  refine .inl ⟨_, rfl, ?_⟩
  dsimp only [tNil]
  with_reducible refine items_G gl1 fun na bs ps H2 s2 hna ha2 ib hps lps => ?_
  refine ⟨na, rfl, ⟨_, SqL.of ha2⟩, ?_⟩
  have ex2 := ex1.trans s2.ex
  have dk2 := dk1.keep s2
  have lb : bs.length = ps.length := by rw [ib.length, List.length_map]
  refine ⟨fun i m zs H8 => ∃ ys : List Str, zs = ys.map V.str /\ (∀ y ∈ ys, y ∈ gs.map (·.1)) /\ H8 = H2 /\ m + i = ps.length /\ i <= ps.length /\ ys.length <= i, ⟨ps.length, [], rfl, fun _ h => (nomatch h), rfl, rfl, Nat.zero_le _, Nat.le_refl _⟩, ?_⟩
  rintro i m zs H8 ⟨ys, rfl, hys, rfl, hm, hi', ly⟩
  refine ⟨line1 (by rw [List.length_map]; lia), ?_⟩
  by_cases hi : i < ps.length
  · obtain ⟨cg, e1, hcg⟩ := gen_at ib hi
    refine .inr ⟨⟨_, _, SqL.of ha2, e1⟩, fun zc x H9 hy => ?_⟩
    obtain ⟨rfl, hx⟩ := hy
    have e2 := hx _ (SqL.of ha2)
    rw [e1] at e2
    cases e2
    have gm := hps _ (List.getElem_mem hi)
    have nm1 : nmG ps i = ps[i].1 := by unfold nmG; rw [List.getD_eq_getElem?_getD, List.getElem?_eq_getElem hi]; rfl
    rw [nm1] at hcg
    refine ⟨cg, _, rfl, SqT.of hcg, rfl, _, _, rfl, _, _, rfl, rfl, ?_⟩
    refine ⟨_, rfl, .inl (.inl ⟨rfl, _, rfl, ?_⟩)⟩
    refine ite2 (fun e => ?_) (fun e => ⟨m - 1, by lia, ys, rfl, hys, rfl, by lia, by lia, by lia⟩)
    refine ⟨_, rfl, m - 1, by lia, ys ++ [ps[i].1], by rw [List.map_append]; rfl, fun y hy => ?_, rfl, by lia, by lia, by rw [List.length_append]; exact Nat.succ_le_succ ly⟩
    rcases List.mem_append.mp hy with h | h
    · exact hys y h
    · rw [List.mem_singleton.mp h]; exact List.mem_map.mpr ⟨_, gm, rfl⟩
  · refine .inl ⟨⟨_, SqL.of ha2, by lia⟩, fun l8 hl8 => ?_⟩
    have s9 := same_new hl8 (.lst (ys.map V.str))
    have hl9 : (upd H8 l8 (.lst (ys.map V.str))) l8 = some (.lst (ys.map V.str)) := upd_same
    have ex9 := ex2.trans s9.ex
    have dk9 := dk2.keep s9
    generalize upd H8 l8 (.lst (ys.map V.str)) = H9 at s9 hl9 ex9 dk9 ⊢
    have wv : ∃ z : Str, atI [V.str "ab", V.str "c", V.str "ba"] (cell / 4 % 3) = some (.str z) := by
      obtain ⟨v, hv, hvm⟩ := atI_mem (xs := [V.str "ab", V.str "c", V.str "ba"]) (mod_lt (cell / 4) 3 (by decide)).1 (mod_lt (cell / 4) 3 (by decide)).2
      simp only [List.mem_cons, List.not_mem_nil, or_false] at hvm
      rcases hvm with rfl | rfl | rfl <;> exact ⟨_, hv⟩
    obtain ⟨z, hz⟩ := wv
    refine ⟨_, rfl, _, _, rfl, rfl, (by show (0 : Int) < 4; decide), .inl (.inl ⟨rfl, _, rfl, ?_⟩)⟩
    refine ite2 (fun e => ?_) (fun e => ?_)
    · refine ⟨(by show 3 <= sizeLine; decide), fun l hl => ⟨_, rfl, _, _, rfl, rfl, cdiv (by decide) (by decide), _, _, rfl, rfl, (by show (0 : Int) < 3; decide), (ixl (SqL.of upd_same) hz ⟨(by show 2 <= sizeLine; decide), fun q hq => ?_⟩)⟩⟩
      have sA := (same_new hl (.lst [V.str "ab", V.str "c", V.str "ba"])).trans (same_new hq (.tup [.str "word", .str z]))
      exact fin (.word z) _ _ trivial (fun x hx => (nomatch hx)) (isQ_word upd_same) (ex9.trans sA.ex) (dk9.keep sA)
    · refine ⟨_, rfl, (by show 0 <= sizeLine; decide), fun e4 he4 => .inr ⟨l8, e4, _, _, ys.map Dt.str, [], rfl, rfl, same_new he4 _ _ _ hl9, upd_same, strD_map ys, .nil, (by rw [strD_dep]; exact Nat.zero_le _), _, rfl, ?_⟩⟩
      have s10 := same_new he4 (.lst [])
      have hl10 := s10 _ _ hl9
      have ex10 := ex9.trans s10.ex
      have dk10 := dk9.keep s10
      generalize upd H9 e4 (.lst []) = H10 at s10 hl10 ex10 dk10 ⊢
      refine ite2 (fun e => ?_) (fun e => ?_)
      · refine ⟨(by show 3 <= sizeLine; decide), fun l hl => ⟨_, rfl, _, _, rfl, rfl, cdiv (by decide) (by decide), _, _, rfl, rfl, (by show (0 : Int) < 3; decide), (ixl (SqL.of upd_same) hz ⟨(by show 2 <= sizeLine; decide), fun q hq => ?_⟩)⟩⟩
        have sA := (same_new hl (.lst [V.str "ab", V.str "c", V.str "ba"])).trans (same_new hq (.tup [.str "word", .str z]))
        exact fin (.word z) _ _ trivial (fun x hx => (nomatch hx)) (isQ_word upd_same) (ex10.trans sA.ex) (dk10.keep sA)
      · have pos : (0 : Int) < ((ys.map V.str).length : Int) := by
          cases ys with
          | nil => exact absurd (decide_eq_true rfl) e
          | cons _ _ => simp
        obtain ⟨v1, hv1, hm1⟩ := atI_mem (xs := ys.map V.str) (mod_lt (cell / 4) _ pos).1 (mod_lt (cell / 4) _ pos).2
        obtain ⟨x1, hx1, rfl⟩ := strs_mem hm1
        refine ⟨_, rfl, _, rfl, _, _, rfl, rfl, cdiv (by decide) (by decide), _, rfl, .inl ⟨l8, _, rfl, .inl (SqL.of hl10), _, _, rfl, rfl, pos, (ixl (SqL.of hl10) hv1 ⟨(by show 2 <= sizeLine; decide), fun q1 hq1 => ⟨(by show 3 <= sizeLine; decide), fun q2 hq2 => ?_⟩⟩)⟩⟩
        have s11 := same_new hq1 (.tup [.str "var", .str x1])
        have s12 := same_new hq2 (.tup [.str "at", .str "w", .ref q1])
        exact fin (.at "w" (.var x1)) _ _ trivial (fun x hx => by rw [List.mem_singleton.mp (show x ∈ [x1] from hx)]; exact hys _ hx1) (isQ_at upd_same (IsDt.mono s12.tups (isQ_var upd_same))) (ex10.trans ((s11.trans s12).ex)) (dk10.keep (s11.trans s12))
end
end K66
end
section
namespace K66
open PySem L2 Kn
section
variable {P : Program} {w : World} {K : PySem.W.Frag} {mg : Str -> Option Value} {base : Heap} {f f_next f_term f_word f_claim : Addr} {fd fd_next fd_term fd_word fd_claim : FuncData}
theorem sc__law_claim : FnScope ["deck", "gens", "deep", "cell", "inner"] ["deck", "gens", "deep"] (defScope (top 23)) := ⟨rfl, rfl, rfl, by decide +kernel, rfl, by decide +kernel, by decide +kernel⟩
noncomputable def spClaim (d : Nat) : Sp := fun vs H Q _ => ∃ (p c ga : Addr) (n : Int) (gs : List Gen), vs = [.ref p, .ref ga, .int d] /\ Dk H p c n /\ n + 3 + 7 * d < 1000000 /\ GL H p ga gs /\ Out p c (n + 3 + 7 * d) gs (3 + 2 * d) H Q
theorem ok_claim {j d : Nat} (hj : 4 <= j) (hd : d <= 1) (T : Tx mg) (D__law_claim : Df K mg "_law_claim" (top 23) f fd ["deck", "gens", "deep"]) (G__law_claim : FnOk P w K mg base CX0 j f fd ["deck", "gens", "deep"] (fun vs H Q E => ∃ e, e < d /\ spClaim e vs H Q E))
    (D__law_next : Df K mg "_law_next" (top 20) f_next fd_next ["deck"]) (G__law_next : FnOk P w K mg base CX0 1 f_next fd_next ["deck"] spNext)
    (D__law_term : Df K mg "_law_term" (top 21) f_term fd_term ["deck", "gens", "deep"]) (G__law_term : FnOk P w K mg base CX0 4 f_term fd_term ["deck", "gens", "deep"] spTermA)
    (D__law_word : Df K mg "_law_word" (top 22) f_word fd_word ["deck", "gens"]) (G__law_word : FnOk P w K mg base CX0 3 f_word fd_word ["deck", "gens"] spWord) : FnOk P w K mg base CX0 (j + 1) f fd ["deck", "gens", "deep"] (spClaim d) := by
  refine D__law_claim.fn.okH sc__law_claim (fun vs H Q E h => ?_) (fun cdv A outer s H vs Q E hr h => ?_)
  · obtain ⟨p, c, ga, n, gs, rfl, _⟩ := h; rfl
  obtain ⟨p, c, ga, n, gs, rfl, dk, hn, gl, fin⟩ := h
  have hu := u110 hr
  have hu0 := u0 hr
  have hu1 := hu_of hr
  refine ⟨_, (wss_cons (ws_set (i := 3) sc__law_claim.nd rfl (Or.inl rfl) (we_call G__law_next (hr.mono (by lia)) rfl D__law_next.mg D__law_next.kp D__law_next.b .nil pass0 (wa_cons (wv 0) wa_nil)))
      (wss_cons (ws_if (wt_pw (ww_and (wt_cmpR op_gt (wv 2) we_int (nomark _)) (ww_and1 (wt_cmpR op_gt (we_op op_mod (wv 3) we_int) we_int (nomark _))))) (wss_cons (ws_set (i := 4) sc__law_claim.nd rfl (Or.inl rfl) (we_call G__law_claim (hr.mono (by lia)) rfl D__law_claim.mg D__law_claim.kp D__law_claim.b .nil pass0 (wa_cons (wv 0) (wa_cons (wv 1) (wa_cons we_int wa_nil)))))
      (wss_cons (ws_if (wt_cmpR (op_eqU hu) (we_op op_mod (we_op op_fdiv (wv 3) we_int) we_int) we_int (nomark _)) (wss_one (ws_set (i := 4) sc__law_claim.nd rfl (Or.inl rfl) (we_tup (wa_cons we_str (wa_cons (wv 4) (wa_cons (we_call G__law_claim (hr.mono (by lia)) rfl D__law_claim.mg D__law_claim.kp D__law_claim.b .nil pass0 (wa_cons (wv 0) (wa_cons (wv 1) (wa_cons we_int wa_nil)))) wa_nil)))))) wss_nil)
      (wss_one (ws_ret (we_ix (ix_U hu1) (we_lst (wa_cons (we_tup (wa_cons we_str (wa_cons (wv 4) wa_nil))) (wa_cons (we_tup (wa_cons we_str (wa_cons (wv 4) (wa_cons (we_call G__law_claim (hr.mono (by lia)) rfl D__law_claim.mg D__law_claim.kp D__law_claim.b .nil pass0 (wa_cons (wv 0) (wa_cons (wv 1) (wa_cons we_int wa_nil)))) wa_nil)))) wa_nil))) (we_op op_sub (we_op op_mod (wv 3) we_int) we_int) (fun _ _ => rfl)))))) wss_nil)
      (wss_cons (ws_if (wt_cmpR (op_eqU hu) (we_op op_mod (wv 3) we_int) we_int (nomark _)) (wss_one (ws_ret (we_tup (wa_cons we_str (wa_cons (we_call G__law_word (hr.mono (by lia)) rfl D__law_word.mg D__law_word.kp D__law_word.b .nil pass0 (wa_cons (wv 0) (wa_cons (wv 1) wa_nil))) (wa_cons (we_call G__law_word (hr.mono (by lia)) rfl D__law_word.mg D__law_word.kp D__law_word.b .nil pass0 (wa_cons (wv 0) (wa_cons (wv 1) wa_nil))) wa_nil)))))) wss_nil)
      (wss_one (ws_ret (we_tup (wa_cons (we_ix (ix_U hu1) (we_lst (wa_consts rfl)) (we_op op_mod (wv 3) we_int) (fun _ _ => rfl)) (wa_cons (we_call G__law_term (hr.mono (by lia)) rfl D__law_term.mg D__law_term.kp D__law_term.b .nil pass0 (wa_cons (wv 0) (wa_cons (wv 1) (wa_cons (wv 2) wa_nil)))) (wa_cons (we_call G__law_term (hr.mono (by lia)) rfl D__law_term.mg D__law_term.kp D__law_term.b .nil pass0 (wa_cons (wv 0) (wa_cons (wv 1) (wa_cons (wv 2) wa_nil)))) wa_nil))))))))), ?_⟩
  obtain ⟨X', gX'⟩ : ∃ X', X' = (cxOf CX0 P w K mg base ["deck", "gens", "deep", "cell", "inner"] "_law_claim" (defScope (top 23)) f cdv A outer s H E).nox := ⟨_, rfl⟩
  try rw [<- gX']
  clear gX'
  refine ⟨_, rfl, p, c, n, rfl, dk, by lia, fun cell H1 ex1 dk1 => ?_⟩
  have gl1 := gl.ex dk ex1
  dsimp only [gName]
  refine join_seq (fun σ H' => σ = [some (.ref p), some (.ref ga), some (.int d), some (.int cell), none] /\ H' = H1) ?tail fun Kt tail => ?main
  case tail =>
    rintro σ H' ⟨rfl, rfl⟩
    refine ⟨_, rfl, _, _, rfl, rfl, (by show (0 : Int) < 8; decide), .inl ⟨rfl, _, rfl, ?_⟩⟩
    refine ite2 (fun e => ?_) (fun e => ?_)
    · refine ⟨_, rfl, _, rfl, p, c, ga, n + 1, gs, rfl, dk1, by lia, gl1, fun t1 u1 H2 q1 n1 i1 ex2 dk2 => ?_⟩
      have gl2 := gl1.ex dk1 ex2
      refine ⟨_, rfl, _, rfl, p, c, ga, n + 1 + 1, gs, rfl, dk2, by lia, gl2, fun t2 u2 H3 q2 n2 i2 ex3 dk3 => ⟨(by show 3 <= sizeLine; decide), fun q hq => ?_⟩⟩
      have s4 := same_new hq (.tup [.str "same", u1, u2])
      refine fin (.two "same" t1 t2) _ _ ?_ (fun x hx => ?_) (isQ_two upd_same (IsDt.mono s4.tups (IsDt.mono (dk2.tups ex3) i1)) (IsDt.mono s4.tups i2)) (ex1.trans (ex2.trans (ex3.trans s4.ex))) ((dk3.keep s4).mono (by lia))
      · exact QW.mono (n := 2) (by lia) ⟨by decide +kernel, q1, q2⟩
      · rcases List.mem_append.mp (show x ∈ nmQ t1 ++ nmQ t2 from hx) with h | h
        · exact n1 x h
        · exact n2 x h
    · refine ⟨(by show 4 <= sizeLine; decide), fun l hl => ⟨_, rfl, _, _, rfl, rfl, (by show (0 : Int) < 4; decide), ?_⟩⟩
      obtain ⟨v, hv, hvm⟩ := atI_mem (xs := [V.str "same", V.str "same", V.str "same", V.str "under"]) (mod_lt cell 4 (by decide)).1 (mod_lt cell 4 (by decide)).2
      obtain ⟨wd, rfl, hwd⟩ : ∃ wd, v = V.str wd /\ wd ∈ W2 := by
        simp only [List.mem_cons, List.not_mem_nil, or_false] at hvm
        rcases hvm with rfl | rfl | rfl | rfl <;> exact ⟨_, rfl, by decide +kernel⟩
      refine (ixl (SqL.of upd_same) hv ?_)
      have s2 := same_new hl (.lst [V.str "same", V.str "same", V.str "same", V.str "under"])
      generalize upd H' l (.lst [V.str "same", V.str "same", V.str "same", V.str "under"]) = H2 at s2 ⊢
      have dk2 := dk1.keep s2
      have gl2 := gl1.same s2
      refine ⟨_, rfl, _, rfl, _, rfl, d, by lia, p, c, ga, n + 1, gs, rfl, dk2, by lia, gl2, fun t1 u1 H3 q1 n1 i1 ex3 dk3 => ?_⟩
      have gl3 := gl2.ex dk2 ex3
      refine ⟨_, rfl, _, rfl, _, rfl, d, by lia, p, c, ga, n + 1 + d + 1, gs, rfl, dk3, by lia, gl3, fun t2 u2 H4 q2 n2 i2 ex4 dk4 => ⟨(by show 3 <= sizeLine; decide), fun q hq => ?_⟩⟩
      have s5 := same_new hq (.tup [.str wd, u1, u2])
      refine fin (.two wd t1 t2) _ _ ?_ (fun x hx => ?_) (isQ_two upd_same (IsDt.mono s5.tups (IsDt.mono (dk3.tups ex4) i1)) (IsDt.mono s5.tups i2)) (ex1.trans (Ex.trans s2.ex (ex3.trans (ex4.trans s5.ex)))) ((dk4.keep s5).mono (by lia))
      · exact QW.mono (n := d + 3) (by lia) ⟨hwd, q1, q2⟩
      · rcases List.mem_append.mp (show x ∈ nmQ t1 ++ nmQ t2 from hx) with h | h
        · exact n1 x h
        · exact n2 x h
  case main =>
    refine ⟨_, rfl, _, _, rfl, rfl, _, rfl, ?_⟩
    by_cases hd0 : 0 < d
    · obtain rfl : d = 1 := by lia
      refine iteP rfl ?_
      refine ⟨_, rfl, _, _, rfl, rfl, (by show (0 : Int) < 8; decide), _, _, rfl, rfl, _, rfl, ?_⟩
      refine ite2 (fun e => ?_) (fun e => tail _ _ ⟨rfl, rfl⟩)
      have e5 : 5 < cell % 8 := of_decide_eq_true e
      refine ⟨_, rfl, _, rfl, 0, by lia, p, c, ga, n + 1, gs, rfl, dk1, by lia, gl1, fun t0 u0 H2 q0 n0 i0 ex2 dk2 => ?_⟩
      have ex2' := ex1.trans ex2
      have gl2 := gl1.ex dk1 ex2
      dsimp only [gName]
      refine join_seq (fun σ H' => ∃ (t : Qt) (u : V), σ = [some (.ref p), some (.ref ga), some (.int (1 : Nat)), some (.int cell), some u] /\ QW 4 t /\ (∀ x ∈ nmQ t, x ∈ gs.map (·.1)) /\ IsDt H' (dQ t) u /\ Ex p H H' /\ Dk H' p c (n + 7)) ?tail2 fun Kt tail2 => ?main2
      case tail2 =>
        rintro σ H3 ⟨t, u, rfl, qt, nt, it, ex3, dk3⟩
        refine ⟨_, rfl, (by show 2 <= sizeLine; decide), fun q1 hq1 => ?_⟩
        have s4 := same_new hq1 (.tup [.str "not", u])
        have hq4 : (upd H3 q1 (.tup [.str "not", u])) q1 = some (.tup [.str "not", u]) := upd_same
        generalize upd H3 q1 (.tup [.str "not", u]) = H4 at s4 hq4 ⊢
        have dk4 := dk3.keep s4
        have gl4 := (gl.ex dk ex3).same s4
        have ex4 := ex3.trans s4.ex
        have it4 := IsDt.mono s4.tups it
        refine ⟨_, rfl, _, rfl, _, rfl, 0, by lia, p, c, ga, n + 7, gs, rfl, dk4, by lia, gl4, fun t2 u2 H5 q2 n2 i2 ex5 dk5 => ?_⟩
        refine ⟨(by show 3 <= sizeLine; decide), fun q6 hq6 => ⟨(by show 2 <= sizeLine; decide), fun l hl => ⟨_, rfl, _, _, rfl, rfl, (by show (0 : Int) < 8; decide), _, _, rfl, rfl, ?_⟩⟩⟩
        have hq5 := (show H5 q1 = some (.tup [.str "not", u]) from dk4.tups ex5 _ _ hq4)
        have it5 := IsDt.mono (dk4.tups ex5) it4
        have s7 := (same_new hq6 (.tup [.str "or", u, u2])).trans (same_new hl (.lst [.ref q1, .ref q6]))
        have hq7 : (upd (upd H5 q6 (.tup [.str "or", u, u2])) l (.lst [.ref q1, .ref q6])) q6 = some (.tup [.str "or", u, u2]) := same_new hl _ _ _ upd_same
        have hl7 : (upd (upd H5 q6 (.tup [.str "or", u, u2])) l (.lst [.ref q1, .ref q6])) l = some (.lst [.ref q1, .ref q6]) := upd_same
        generalize upd (upd H5 q6 (.tup [.str "or", u, u2])) l (.lst [.ref q1, .ref q6]) = H7 at s7 hq7 hl7 ⊢
        have ex7 := ex4.trans (ex5.trans s7.ex)
        have dk7 := (dk5.keep s7).mono (show n + 7 + 3 + 7 * (0 : Nat) <= n + 3 + 7 * (1 : Nat) by lia)
        have m8 := mod_lt cell 8 (by decide)
        rcases (show cell % 8 = 6 \/ cell % 8 = 7 by lia) with e6 | e6
        · rw [e6]
          refine (ixl (v := .ref q1) (SqL.of hl7) rfl (fin (.neg t) _ _ qt nt (isQ_neg (s7 _ _ hq5) (IsDt.mono s7.tups it5)) ex7 dk7))
        · rw [e6]
          refine (ixl (v := .ref q6) (SqL.of hl7) rfl (fin (.two "or" t t2) _ _ ⟨by decide +kernel, qt, q2.up⟩ (fun x hx => ?_) (isQ_two hq7 (IsDt.mono s7.tups it5) (IsDt.mono s7.tups i2)) ex7 dk7))
          rcases List.mem_append.mp (show x ∈ nmQ t ++ nmQ t2 from hx) with h | h
          · exact nt x h
          · exact n2 x h
      case main2 =>
        refine ⟨_, rfl, _, _, rfl, rfl, cdiv (by decide) (by decide), _, _, rfl, rfl, (by show (0 : Int) < 3; decide), .inl ⟨rfl, _, rfl, ?_⟩⟩
        refine ite2 (fun e => ?_) (fun e => tail2 _ _ ⟨t0, u0, rfl, q0.up, n0, i0, ex2', dk2.mono (by lia)⟩)
        refine ⟨_, rfl, _, rfl, _, rfl, 0, by lia, p, c, ga, n + 4, gs, rfl, dk2.mono (by lia), by lia, gl2, fun t2 u2 H3 q2 n2 i2 ex3 dk3 => ⟨(by show 3 <= sizeLine; decide), fun q hq => ?_⟩⟩
        have s4 := same_new hq (.tup [.str "and", u0, u2])
        refine tail2 _ _ ⟨.two "and" t0 t2, _, rfl, ⟨by decide +kernel, q0, q2⟩, fun x hx => ?_, isQ_two upd_same (IsDt.mono s4.tups (IsDt.mono (dk2.tups ex3) i0)) (IsDt.mono s4.tups i2), ex2'.trans (ex3.trans s4.ex), (dk3.keep s4).mono (by lia)⟩
        rcases List.mem_append.mp (show x ∈ nmQ t0 ++ nmQ t2 from hx) with h | h
        · exact n0 x h
        · exact n2 x h
    · exact iteN (fun z => hd0 (by have := of_decide_eq_true z; lia)) (tail _ _ ⟨rfl, rfl⟩)
theorem claim_all (T : Tx mg) (D__law_claim : Df K mg "_law_claim" (top 23) f fd ["deck", "gens", "deep"])
    (D__law_next : Df K mg "_law_next" (top 20) f_next fd_next ["deck"]) (G__law_next : FnOk P w K mg base CX0 1 f_next fd_next ["deck"] spNext)
    (D__law_term : Df K mg "_law_term" (top 21) f_term fd_term ["deck", "gens", "deep"]) (G__law_term : FnOk P w K mg base CX0 4 f_term fd_term ["deck", "gens", "deep"] spTermA)
    (D__law_word : Df K mg "_law_word" (top 22) f_word fd_word ["deck", "gens"]) (G__law_word : FnOk P w K mg base CX0 3 f_word fd_word ["deck", "gens"] spWord) : ∀ d : Nat, d <= 1 -> FnOk P w K mg base CX0 (d + 5) f fd ["deck", "gens", "deep"] (spClaim d) := fun d => by
  induction d using Nat.strongRecOn with
  | _ d ih => exact fun d1 => ok_claim (j := d + 4) (by lia) d1 T D__law_claim (fnOk_lt fun e he => (ih e he (by lia)).mono (by lia)) D__law_next G__law_next D__law_term G__law_term D__law_word G__law_word
noncomputable def spClaimA : Sp := fun vs H Q E => ∃ d, d < 2 /\ spClaim d vs H Q E
theorem ok_claimA (T : Tx mg) (D__law_claim : Df K mg "_law_claim" (top 23) f fd ["deck", "gens", "deep"])
    (D__law_next : Df K mg "_law_next" (top 20) f_next fd_next ["deck"]) (G__law_next : FnOk P w K mg base CX0 1 f_next fd_next ["deck"] spNext)
    (D__law_term : Df K mg "_law_term" (top 21) f_term fd_term ["deck", "gens", "deep"]) (G__law_term : FnOk P w K mg base CX0 4 f_term fd_term ["deck", "gens", "deep"] spTermA)
    (D__law_word : Df K mg "_law_word" (top 22) f_word fd_word ["deck", "gens"]) (G__law_word : FnOk P w K mg base CX0 3 f_word fd_word ["deck", "gens"] spWord) : FnOk P w K mg base CX0 6 f fd ["deck", "gens", "deep"] spClaimA :=
  fnOk_lt fun e he => (claim_all T D__law_claim D__law_next G__law_next D__law_term G__law_term D__law_word G__law_word e (by lia)).mono (by lia)
end
end K66
end
section
namespace K66
open PySem L2 Kn
theorem keys_G {H : Hp} {p ga : Addr} {gs : List Gen} {Q : VK} (gl : GL H p ga gs) (q : ∀ (a : Addr) (ys : List Str) (H' : Hp), Same H H' -> H a = none -> H' a = some (.lst (ys.map V.str)) -> Q (.ref a) H') :
    rDictK [.ref ga] H fun x H1 => rSortD [x] H1 Q := by
  obtain ⟨ne, gus, h1, h2, h3⟩ := gl
  obtain ⟨ms, em, hm, lm⟩ := merge_kvG gs []
  refine ⟨ga, gus, kvG gs, rfl, .inl h1, kvG_pairs h2, fun d hd => ?_⟩
  have em' : mergeG [] (kvG gs) = kvG ms := em
  rw [em']
  have s1 := same_new hd (.dK (kvG ms))
  refine ⟨d, kvG ms, rfl, upd_same, fun kv hkv => ?_, ?_, fun a ys ha pm _ => q a ys _ (s1.trans (same_new ha _)) (same_back s1 ha) upd_same⟩
  · obtain ⟨g, _, rfl⟩ := List.mem_map.mp hkv; exact ⟨_, rfl⟩
  · have : (kvG ms).length = ms.length := by unfold kvG; rw [List.length_map]
    rw [this]; simp only [List.length_nil] at lm; lia
theorem cut_len (xs : List V) (a b : Option Int) : (cutV xs a b).length <= xs.length := by
  unfold cutV
  rw [List.length_take, List.length_drop]
  lia
section
variable {P : Program} {w : World} {K : PySem.W.Frag} {mg : Str -> Option Value} {base : Heap} {f f_next f_term f_word f_claim : Addr} {fd fd_next fd_term fd_word fd_claim : FuncData}
theorem sc__law_row : FnScope ["deck", "gens", "bags", "cell", "names", "parts", "inner"] ["deck", "gens", "bags"] (defScope (top 24)) := ⟨rfl, rfl, rfl, by decide +kernel, rfl, by decide +kernel, by decide +kernel⟩
noncomputable def spRow : Sp := fun vs H Q _ => ∃ (p c ga : Addr) (n : Int) (gs : List Gen) (b : Bool), vs = [.ref p, .ref ga, .bl b] /\ Dk H p c n /\ n < 900000 /\ GL H p ga gs /\ ∀ v H', Ex p H H' -> Dk H' p c (n + 10) -> Q v H'
theorem ok_row (T : Tx mg) (D : Df K mg "_law_row" (top 24) f fd ["deck", "gens", "bags"]) (D__law_claim : Df K mg "_law_claim" (top 23) f_claim fd_claim ["deck", "gens", "deep"]) (G__law_claim : FnOk P w K mg base CX0 6 f_claim fd_claim ["deck", "gens", "deep"] spClaimA)
    (D__law_next : Df K mg "_law_next" (top 20) f_next fd_next ["deck"]) (G__law_next : FnOk P w K mg base CX0 1 f_next fd_next ["deck"] spNext)
    (D__law_term : Df K mg "_law_term" (top 21) f_term fd_term ["deck", "gens", "deep"]) (G__law_term : FnOk P w K mg base CX0 4 f_term fd_term ["deck", "gens", "deep"] spTermA)
    (D__law_word : Df K mg "_law_word" (top 22) f_word fd_word ["deck", "gens"]) (G__law_word : FnOk P w K mg base CX0 3 f_word fd_word ["deck", "gens"] spWord) : FnOk P w K mg base CX0 7 f fd ["deck", "gens", "bags"] spRow := by
  refine D.fn.okH sc__law_row (fun vs H Q E h => ?_) (fun cdv A outer s H vs Q E hr h => ?_)
  · obtain ⟨p, c, ga, n, gs, b, rfl, _⟩ := h; rfl
  obtain ⟨p, c, ga, n, gs, b, rfl, dk, hn, gl, fin⟩ := h
  have hu := u110 hr
  have hu0 := u0 hr
  have hu1 := hu_of hr
  refine ⟨_, (wss_cons (ws_set (i := 3) sc__law_row.nd rfl (Or.inl rfl) (we_call G__law_next (hr.mono (by lia)) rfl D__law_next.mg D__law_next.kp D__law_next.b .nil pass0 (wa_cons (wv 0) wa_nil)))
      (wss_cons (ws_set (i := 4) sc__law_row.nd rfl (Or.inl rfl) (we_callB (call_sortD rfl) rfl T.z_sorted bt_sorted (wa_cons (we_callTy (call_dictK rfl) rfl T.z_dict bt_dict (wa_cons (wv 1) wa_nil)) wa_nil)))
      (wss_cons (ws_if (wt_cmpR (op_eqU hu) (we_op op_mod (wv 3) we_int) we_int (nomark _)) (wss_one (ws_ret (we_call G__law_term (hr.mono (by lia)) rfl D__law_term.mg D__law_term.kp D__law_term.b .nil pass0 (wa_cons (wv 0) (wa_cons (wv 1) (wa_cons we_int wa_nil)))))) wss_nil)
      (wss_cons (ws_if (wt_cmpR (op_eqU hu) (we_op op_mod (wv 3) we_int) we_int (nomark _)) (wss_one (ws_ret (we_call G__law_word (hr.mono (by lia)) rfl D__law_word.mg D__law_word.kp D__law_word.b .nil pass0 (wa_cons (wv 0) (wa_cons (wv 1) wa_nil))))) wss_nil)
      (wss_cons (ws_if (wt_pw (ww_and (wt_cmpR (op_eqU hu) (we_op op_mod (wv 3) we_int) we_int (nomark _)) (ww_and1 (wt_cmpR (op_neU hu) (wv 4) (we_lst wa_nil) (nomark _))))) (wss_one (ws_ret (we_tup (wa_cons we_str (wa_cons (we_ix (ix_U hu1) (wv 4) (we_op op_mod (we_op op_fdiv (wv 3) we_int) (we_callB call_lenU rfl T.z_len bt_len (wa_cons (wv 4) wa_nil))) (fun _ _ => rfl)) wa_nil))))) wss_nil)
      (wss_cons (ws_set (i := 5) sc__law_row.nd rfl (Or.inl rfl) (we_lst (wa_cons (we_tup (wa_cons we_str (wa_cons (we_call G__law_term (hr.mono (by lia)) rfl D__law_term.mg D__law_term.kp D__law_term.b .nil pass0 (wa_cons (wv 0) (wa_cons (wv 1) (wa_cons we_int wa_nil)))) wa_nil))) (wa_cons (we_tup (wa_cons we_str (wa_cons (we_call G__law_word (hr.mono (by lia)) rfl D__law_word.mg D__law_word.kp D__law_word.b .nil pass0 (wa_cons (wv 0) (wa_cons (wv 1) wa_nil))) wa_nil))) wa_nil))))
      (wss_cons (ws_if (wt_pw (ww_and (wt_cmpR (op_neU hu) (wv 4) (we_lst wa_nil) (nomark _)) (ww_and1 (wt_cmpR (op_eqU hu) (we_op op_mod (we_op op_fdiv (wv 3) we_int) we_int) we_int (nomark _))))) (wss_one (ws_expr (we_bm PySem.F.plainAttrs_list PySem.F.slot_list_append PySem.F.type_list_append mt_append (wv 5) (wa_cons (we_tup (wa_cons we_str (wa_cons (we_tup (wa_cons we_str (wa_cons (we_ix (ix_U hu1) (wv 4) (we_op op_mod (we_op op_fdiv (wv 3) we_int) (we_callB call_lenU rfl T.z_len bt_len (wa_cons (wv 4) wa_nil))) (fun _ _ => rfl)) wa_nil))) wa_nil))) wa_nil)))) wss_nil)
      (wss_cons (ws_if (wt_pw (ww_and (wt_truth (wv 2) (fun _ => rfl)) (ww_and1 (wt_cmpR (op_eqU hu) (we_op op_mod (wv 3) we_int) we_int (nomark _))))) (wss_cons (ws_set (i := 6) sc__law_row.nd rfl (Or.inl rfl) (we_ix (ix_U hu1) (we_lst (wa_cons (we_tup (wa_consts rfl)) (wa_cons (we_tup (wa_cons we_str (wa_cons (we_call G__law_term (hr.mono (by lia)) rfl D__law_term.mg D__law_term.kp D__law_term.b .nil pass0 (wa_cons (wv 0) (wa_cons (wv 1) (wa_cons we_int wa_nil)))) wa_nil))) (wa_cons (we_tup (wa_cons we_str (wa_cons (we_tup (wa_cons we_str wa_nil)) wa_nil))) wa_nil)))) (we_op op_mod (we_op op_fdiv (wv 3) we_int) we_int) (fun _ _ => rfl)))
      (wss_one (ws_expr (we_bm PySem.F.plainAttrs_list PySem.F.slot_list_append PySem.F.type_list_append mt_append (wv 5) (wa_cons (we_tup (wa_cons we_str (wa_cons (we_tup (wa_cons we_str (wa_cons (we_call G__law_claim (hr.mono (by lia)) rfl D__law_claim.mg D__law_claim.kp D__law_claim.b .nil pass0 (wa_cons (wv 0) (wa_cons (wv 1) (wa_cons we_int wa_nil)))) (wa_cons (wv 6) wa_nil)))) wa_nil))) wa_nil))))) wss_nil)
      (wss_one (ws_ret (we_tup (wa_cons we_str (wa_cons (we_callTy call_tuple_of rfl T.z_tuple bt_tuple (wa_cons (we_slice sl_U (wv 5) (wo_some (we_op op_mod (we_op op_fdiv (wv 3) we_int) we_int)) wo_none) wa_nil)) wa_nil))))))))))))), ?_⟩
  obtain ⟨X', gX'⟩ : ∃ X', X' = (cxOf CX0 P w K mg base ["deck", "gens", "bags", "cell", "names", "parts", "inner"] "_law_row" (defScope (top 24)) f cdv A outer s H E).nox := ⟨_, rfl⟩
  try rw [<- gX']
  clear gX'
  refine ⟨_, rfl, p, c, n, rfl, dk, by lia, fun cell H1 ex1 dk1 => ?_⟩
  have gl1 := gl.ex dk ex1
  refine ⟨_, rfl, ?_⟩
  dsimp only [tNil]
  with_reducible refine keys_G gl1 fun na ys H2 s2 hna ha2 => ?_
  obtain ⟨nap, nac⟩ := dk1.ne hna
  have ex2 := ex1.trans s2.ex
  have dk2 := dk1.keep s2
  have gl2 := gl1.same s2
  have pick : ∀ (k : Int), 0 < k -> ∀ (H' : Hp), H' na = some (.lst (ys.map V.str)) -> ys.map V.str ≠ [] -> (0 : Int) < ((ys.map V.str).length : Int) /\ ∃ x, atI (ys.map V.str) (cell / k % ((ys.map V.str).length : Int)) = some (.str x) := fun k hk H' _ hy => by
    have pos : (0 : Int) < ((ys.map V.str).length : Int) := by
      cases h : ys.map V.str with
      | nil => exact absurd h hy
      | cons _ _ => simp
    obtain ⟨v1, hv1, hm1⟩ := atI_mem (xs := ys.map V.str) (mod_lt (cell / k) _ pos).1 (mod_lt (cell / k) _ pos).2
    obtain ⟨x1, hx1, rfl⟩ := strs_mem hm1
    exact ⟨pos, x1, hv1⟩
  refine ⟨_, rfl, _, _, rfl, rfl, (by show (0 : Int) < 5; decide), .inl ⟨rfl, _, rfl, ?_⟩⟩
  refine ite2 (fun e => ?_) (fun e => ?_)
  · exact ⟨_, rfl, _, rfl, 1, by lia, p, c, ga, n + 1, gs, rfl, dk2, by lia, gl2, fun t1 u1 H3 q1 n1 i1 ex3 dk3 => fin _ _ (ex2.trans ex3) (dk3.mono (by lia))⟩
  refine ⟨_, rfl, _, _, rfl, rfl, (by show (0 : Int) < 5; decide), .inl ⟨rfl, _, rfl, ?_⟩⟩
  refine ite2 (fun e => ?_) (fun e => ?_)
  · exact ⟨_, rfl, _, rfl, p, c, ga, n + 1, gs, rfl, dk2, by lia, gl2, fun t1 u1 H3 q1 n1 i1 ex3 dk3 => fin _ _ (ex2.trans ex3) (dk3.mono (by lia))⟩
  dsimp only [gName, tNext]
  refine join_seq (fun σ H' => σ = [some (.ref p), some (.ref ga), some (.bl b), some (.int cell), some (.ref na), none, none] /\ Same H2 H') ?tail fun Kt tail => ?main
  case main =>
    refine ⟨_, rfl, _, _, rfl, rfl, (by show (0 : Int) < 5; decide), .inl ⟨rfl, _, rfl, ?_⟩⟩
    refine ite2 (fun e => ?_) (fun e => tail _ _ ⟨rfl, .refl _⟩)
    refine ⟨_, rfl, (by show 0 <= sizeLine; decide), fun e4 he4 => .inr (.inr ⟨na, e4, ys.map V.str, rfl, rfl, same_new he4 _ _ _ ha2, upd_same, _, rfl, ?_⟩)⟩
    have s4 := same_new he4 (.lst [])
    generalize upd H2 e4 (.lst []) = H4 at s4 ⊢
    refine ite2 (fun e2 => ?_) (fun e2 => tail _ _ ⟨rfl, s4⟩)
    obtain ⟨pos, x1, hx1⟩ := pick 5 (by decide) H4 (s4 _ _ ha2) (of_decide_eq_true e2)
    refine ⟨_, rfl, _, rfl, _, _, rfl, rfl, cdiv (by decide) (by decide), _, rfl, .inl ⟨na, _, rfl, .inl (SqL.of (s4 _ _ ha2)), _, _, rfl, rfl, pos, (ixl (SqL.of (s4 _ _ ha2)) hx1 ⟨(by show 2 <= sizeLine; decide), fun q hq => ?_⟩)⟩⟩
    have s5 := s4.trans (same_new hq (.tup [.str "var", .str x1]))
    exact fin _ _ (ex2.trans s5.ex) ((dk2.keep s5).mono (by lia))
  case tail =>
    rintro σ H3 ⟨rfl, s3⟩
    have ex3 := ex2.trans s3.ex
    have dk3 := dk2.keep s3
    have gl3 := gl2.same s3
    refine ⟨_, rfl, _, rfl, 1, by lia, p, c, ga, n + 1, gs, rfl, dk3, by lia, gl3, fun t1 u1 H4 q1 n1 i1 ex4 dk4 => ⟨(by show 2 <= sizeLine; decide), fun q4 hq4 => ?_⟩⟩
    have s5 := same_new hq4 (.tup [.str "k", u1])
    have ex5 := ex3.trans (ex4.trans s5.ex)
    have dk5 := dk4.keep s5
    have ha5 := s5 _ _ (ex4 _ _ nap (s3 _ _ ha2))
    generalize upd H4 q4 (.tup [.str "k", u1]) = H5 at s5 ex5 dk5 ha5 ⊢
    refine ⟨_, rfl, _, rfl, p, c, ga, n + 3, gs, rfl, dk5.mono (by lia), by lia, gl.ex dk ex5, fun t2 u2 H6 q2 n2 i2 ex6 dk6 => ⟨(by show 2 <= sizeLine; decide), fun q6 hq6 => ⟨(by show 2 <= sizeLine; decide), fun pa hpa => ?_⟩⟩⟩
    have s7 := (same_new hq6 (.tup [.str "m", u2])).trans (same_new hpa (.lst [.ref q4, .ref q6]))
    have ex7 := ex5.trans (ex6.trans s7.ex)
    have dk7 := dk6.keep s7
    have ha6 := ex6 _ _ nap ha5
    have ha7 := s7 _ _ ha6
    have hpa6 := same_back (same_new hq6 (.tup [.str "m", u2])) hpa
    have npa : na ≠ pa := fun z => by rw [z] at ha6; rw [ha6] at hpa6; cases hpa6
    obtain ⟨pap, pac⟩ := dk6.ne hpa6
    have hpaH : H pa = none := by
      cases z : H pa with
      | none => rfl
      | some o => have := ex5.trans ex6 _ _ pap z; rw [this] at hpa6; cases hpa6
    have hpa7 : (upd (upd H6 q6 (.tup [.str "m", u2])) pa (.lst [.ref q4, .ref q6])) pa = some (.lst [.ref q4, .ref q6]) := upd_same
    generalize upd (upd H6 q6 (.tup [.str "m", u2])) pa (.lst [.ref q4, .ref q6]) = H7 at s7 ex7 dk7 ha7 hpa7 ⊢
    dsimp only [gName, tNext]
    refine join_seq (fun σ H' => ∃ us, σ = [some (.ref p), some (.ref ga), some (.bl b), some (.int cell), some (.ref na), some (.ref pa), none] /\ H' pa = some (.lst us) /\ us.length <= 3 /\ Ex p H H' /\ Dk H' p c (n + 4)) ?tail2 fun Kt tail2 => ?main2
    case main2 =>
      refine ⟨_, rfl, (by show 0 <= sizeLine; decide), fun e4 he4 => .inr (.inr ⟨na, e4, ys.map V.str, rfl, rfl, same_new he4 _ _ _ ha7, upd_same, _, rfl, ?_⟩)⟩
      have s8 := same_new he4 (.lst [])
      generalize upd H7 e4 (.lst []) = H8 at s8 ⊢
      refine ite2 (fun e2 => ?_) (fun e2 => tail2 _ _ ⟨_, rfl, s8 _ _ hpa7, by simp, ex7.trans s8.ex, (dk7.keep s8).mono (by lia)⟩)
      refine ⟨_, rfl, _, _, rfl, rfl, cdiv (by decide) (by decide), _, _, rfl, rfl, (by show (0 : Int) < 2; decide), .inl ⟨rfl, _, rfl, ?_⟩⟩
      refine ite2 (fun e3 => ?_) (fun e3 => tail2 _ _ ⟨_, rfl, s8 _ _ hpa7, by simp, ex7.trans s8.ex, (dk7.keep s8).mono (by lia)⟩)
      obtain ⟨pos, x1, hx1⟩ := pick 10 (by decide) H8 (s8 _ _ ha7) (of_decide_eq_true e2)
      refine ⟨_, rfl, .inl ⟨rfl, _, SqL.of (s8 _ _ hpa7)⟩, _, rfl, _, rfl, _, _, rfl, rfl, cdiv (by decide) (by decide), _, rfl, .inl ⟨na, _, rfl, .inl (SqL.of (s8 _ _ ha7)), _, _, rfl, rfl, pos, (ixl (SqL.of (s8 _ _ ha7)) hx1 ⟨(by show 2 <= sizeLine; decide), fun q hq => ⟨(by show 2 <= sizeLine; decide), fun q9 hq9 => ?_⟩⟩)⟩⟩
      have s9 := s8.trans ((same_new hq (.tup [.str "var", .str x1])).trans (same_new hq9 (.tup [.str "o", .ref q])))
      refine ⟨pa, _, _, rfl, rfl, s9 _ _ hpa7, line1 (by simp), ?_⟩
      exact tail2 _ _ ⟨_, rfl, upd_same, by simp, Ex.upd' (ex7.trans s9.ex) hpaH, ((dk7.keep s9).upd pap pac).mono (by lia)⟩
    case tail2 =>
      rintro σ H8 ⟨us, rfl, hpa8, lus, ex8, dk8⟩
      have gl8 := gl.ex dk ex8
      refine join_seq (fun σ H' => ∃ us o6, σ = [some (.ref p), some (.ref ga), some (.bl b), some (.int cell), some (.ref na), some (.ref pa), o6] /\ H' pa = some (.lst us) /\ us.length <= 4 /\ Ex p H H' /\ Dk H' p c (n + 10)) ?tail3 fun Kt tail3 => ?main3
      case main3 =>
        refine ⟨_, rfl, b, rfl, ?_⟩
        refine ite2 (fun e2 => ?_) (fun e2 => tail3 _ _ ⟨us, _, rfl, hpa8, by lia, ex8, dk8.mono (by lia)⟩)
        refine ⟨_, rfl, _, _, rfl, rfl, (by show (0 : Int) < 5; decide), .inl ⟨rfl, _, rfl, ?_⟩⟩
        refine ite2 (fun e3 => ?_) (fun e3 => tail3 _ _ ⟨us, _, rfl, hpa8, by lia, ex8, dk8.mono (by lia)⟩)
        refine ⟨(by show 2 <= sizeLine; decide), fun r1 hr1 => ?_⟩
        have s9 := same_new hr1 (.tup [.str "table", .str "r"])
        refine ⟨_, rfl, _, rfl, 1, by lia, p, c, ga, n + 4, gs, rfl, dk8.keep s9, by lia, gl8.same s9, fun t3 u3 H10 q3 n3 i3 ex10 dk10 => ⟨(by show 2 <= sizeLine; decide), fun r2 hr2 => ⟨(by show 1 <= sizeLine; decide), fun r3 hr3 => ⟨(by show 2 <= sizeLine; decide), fun r4 hr4 => ⟨(by show 3 <= sizeLine; decide), fun l5 hl5 => ?_⟩⟩⟩⟩⟩
        have hpa10 := ex10 _ _ pap (s9 _ _ hpa8)
        have s11 := (same_new hr2 (.tup [.str "one", u3])).trans ((same_new hr3 (.tup [.str "num"])).trans ((same_new hr4 (.tup [.str "none", .ref r3])).trans (same_new hl5 (.lst [.ref r1, .ref r2, .ref r4]))))
        have hl11 : (upd (upd (upd (upd H10 r2 (.tup [.str "one", u3])) r3 (.tup [.str "num"])) r4 (.tup [.str "none", .ref r3])) l5 (.lst [.ref r1, .ref r2, .ref r4])) l5 = some (.lst [.ref r1, .ref r2, .ref r4]) := upd_same
        generalize upd (upd (upd (upd H10 r2 (.tup [.str "one", u3])) r3 (.tup [.str "num"])) r4 (.tup [.str "none", .ref r3])) l5 (.lst [.ref r1, .ref r2, .ref r4]) = H11 at s11 hl11 ⊢
        have ex11 := ex8.trans (Ex.trans s9.ex (ex10.trans s11.ex))
        have dk11 := dk10.keep s11
        obtain ⟨v, hv, _⟩ := atI_mem (xs := [V.ref r1, V.ref r2, V.ref r4]) (mod_lt (cell / 4) 3 (by decide)).1 (mod_lt (cell / 4) 3 (by decide)).2
        refine ⟨_, rfl, _, _, rfl, rfl, cdiv (by decide) (by decide), _, _, rfl, rfl, (by show (0 : Int) < 3; decide), (ixl (v := v) (SqL.of hl11) hv ?_)⟩
        have hpa11 := s11 _ _ hpa10
        refine ⟨_, rfl, .inl ⟨rfl, _, SqL.of hpa11⟩, _, rfl, _, rfl, 0, by lia, p, c, ga, n + 6, gs, rfl, dk11.mono (by lia), by lia, gl.ex dk ex11, fun t4 u4 H12 q4 n4 i4 ex12 dk12 => ?_⟩
        have hpa12 := ex12 _ _ pap hpa11
        refine ⟨_, rfl, (by show 3 <= sizeLine; decide), fun r5 hr5 => ⟨(by show 2 <= sizeLine; decide), fun r6 hr6 => ?_⟩⟩
        have s13 := (same_new hr5 (.tup [.str "when", u4, v])).trans (same_new hr6 (.tup [.str "s", .ref r5]))
        refine ⟨pa, _, _, rfl, rfl, s13 _ _ hpa12, line1 (by lia), ?_⟩
        exact tail3 _ _ ⟨_, _, rfl, upd_same, by rw [List.length_append]; simp; lia, Ex.upd' (ex11.trans (ex12.trans s13.ex)) hpaH, ((dk12.keep s13).upd pap pac).mono (by lia)⟩
      case tail3 =>
        rintro σ H9 ⟨us9, o6, rfl, hpa9, lus9, ex9, dk9⟩
        refine ⟨_, rfl, _, rfl, _, _, rfl, rfl, cdiv (by decide) (by decide), _, _, rfl, rfl, (by show (0 : Int) < 2; decide), _, rfl, .inl ⟨pa, _, rfl, SqL.of hpa9, fun q hq => ⟨q, _, rfl, .inl ⟨SqL.of upd_same, fun q2 hq2 => ⟨(by show 2 <= sizeLine; decide), fun q3 hq3 => ?_⟩⟩⟩⟩⟩
        exact fin _ _ (ex9.trans (Ex.trans (ex_new hq) (Ex.trans (ex_new hq2) (ex_new hq3)))) (((dk9.new hq).new hq2).new hq3)
end
end K66
end
section
namespace K66
open PySem L2 Kn
theorem sel2 {a b : V} (k : Bool) : ∃ v, atI [a, b] (if k = true then 1 else 0) = some v /\ (v = a \/ v = b) := by
  cases k
  · exact ⟨a, rfl, .inl rfl⟩
  · exact ⟨b, rfl, .inr rfl⟩
theorem isDt_gen {H : Hp} {a : Addr} {x y : Str} (h : H a = some (.tup [.str x, .str y])) : IsDt H (genD (x, y)) (.ref a) := isDt_tup h (.cons (isDt_str _) (.cons (isDt_str _) .nil))
theorem ex_fresh {p q : Addr} {H H' : Hp} (x : Ex p H H') (ne : q ≠ p) (h : H' q = none) : H q = none := by
  cases z : H q with
  | none => rfl
  | some o => rw [x _ _ ne z] at h; cases h
section
variable {P : Program} {w : World} {K : PySem.W.Frag} {mg : Str -> Option Value} {base : Heap} {f f_next f_row f_claim : Addr} {fd fd_next fd_row fd_claim : FuncData}
theorem sc__law_branch : FnScope ["deck", "many", "claims", "bags", "gens", "names", "k", "cell", "name", "found", "factor"] ["deck", "many", "claims", "bags"] (defScope (top 25)) := ⟨rfl, rfl, rfl, by decide +kernel, rfl, by decide +kernel, by decide +kernel⟩
noncomputable def spBranch : Sp := fun vs H Q _ => ∃ (p c : Addr) (n : Int), vs = [.ref p, .int 4, .int 4, .bl true] /\ Dk H p c n /\ n < 800000 /\ ∀ (b : Addr) (gs : List Gen) (cs : List Qt) (H' : Hp), Ex p H H' -> Dk H' p c (n + 60) -> Br H' b gs cs -> Q (.ref b) H'
theorem ok_branch (T : Tx mg) (D : Df K mg "_law_branch" (top 25) f fd ["deck", "many", "claims", "bags"]) (D__law_claim : Df K mg "_law_claim" (top 23) f_claim fd_claim ["deck", "gens", "deep"]) (G__law_claim : FnOk P w K mg base CX0 6 f_claim fd_claim ["deck", "gens", "deep"] spClaimA)
    (D__law_next : Df K mg "_law_next" (top 20) f_next fd_next ["deck"]) (G__law_next : FnOk P w K mg base CX0 1 f_next fd_next ["deck"] spNext)
    (D__law_row : Df K mg "_law_row" (top 24) f_row fd_row ["deck", "gens", "bags"]) (G__law_row : FnOk P w K mg base CX0 7 f_row fd_row ["deck", "gens", "bags"] spRow) : FnOk P w K mg base CX0 8 f fd ["deck", "many", "claims", "bags"] spBranch := by
  refine D.fn.okH sc__law_branch (fun vs H Q E h => ?_) (fun cdv A outer s H vs Q E hr h => ?_)
  · obtain ⟨p, c, n, rfl, _⟩ := h; rfl
  obtain ⟨p, c, n, rfl, dk, hn, fin⟩ := h
  have hu := u110 hr
  have hu0 := u0 hr
  have hu1 := hu_of hr
  refine ⟨_, (wss_cons (ws_set (i := 4) sc__law_branch.nd rfl (Or.inl rfl) (we_lst wa_nil))
      (wss_cons (ws_set (i := 5) sc__law_branch.nd rfl (Or.inl rfl) (we_ix (ix_U hu1) (we_lst (wa_cons (we_lst (wa_consts rfl)) (wa_cons (we_lst (wa_consts rfl)) (wa_cons (we_lst (wa_consts rfl)) wa_nil)))) (we_op op_mod (we_call G__law_next (hr.mono (by lia)) rfl D__law_next.mg D__law_next.kp D__law_next.b .nil pass0 (wa_cons (wv 0) wa_nil)) we_int) (fun _ _ => rfl)))
      (wss_cons (ws_for PassesOwn.never rfl (wi_range1 rfl T.z_range (wa_cons (we_op op_mod (we_call G__law_next (hr.mono (by lia)) rfl D__law_next.mg D__law_next.kp D__law_next.b .nil pass0 (wa_cons (wv 0) wa_nil)) (we_op op_plus (wv 1) we_int)) wa_nil)) (wg_name (i := 6) sc__law_branch.nd rfl (Or.inl rfl)) (wss_cons (ws_set (i := 7) sc__law_branch.nd rfl (Or.inl rfl) (we_call G__law_next (hr.mono (by lia)) rfl D__law_next.mg D__law_next.kp D__law_next.b .nil pass0 (wa_cons (wv 0) wa_nil)))
      (wss_cons (ws_set (i := 8) sc__law_branch.nd rfl (Or.inl rfl) (we_ix (ix_U hu1) (we_lst (wa_cons (we_ix (ix_U hu1) (wv 5) (wv 6) (fun _ _ => rfl)) (wa_cons (we_ix (ix_U hu1) (wv 5) (we_op op_mod (we_op op_fdiv (wv 7) we_int) we_int) (fun _ _ => rfl)) wa_nil))) (we_callTy call_int1 rfl T.z_int bt_int (wa_cons (we_cmpR (op_eqU hu) (we_op op_mod (we_op op_fdiv (wv 7) we_int) we_int) we_int (nomark _)) wa_nil)) (fun _ _ => rfl)))
      (wss_one (ws_expr (we_bm PySem.F.plainAttrs_list PySem.F.slot_list_append PySem.F.type_list_append mt_append (wv 4) (wa_cons (we_tup (wa_cons (wv 8) (wa_cons (we_ix (ix_U hu1) (we_lst (wa_consts rfl)) (we_op op_mod (wv 7) we_int) (fun _ _ => rfl)) wa_nil))) wa_nil)))))))
      (wss_cons (ws_set (i := 9) sc__law_branch.nd rfl (Or.inl rfl) (we_lst wa_nil))
      (wss_cons (ws_for PassesOwn.never rfl (wi_range1 rfl T.z_range (wa_cons (we_op op_mod (we_call G__law_next (hr.mono (by lia)) rfl D__law_next.mg D__law_next.kp D__law_next.b .nil pass0 (wa_cons (wv 0) wa_nil)) (we_op op_plus (wv 2) we_int)) wa_nil)) (wg_name (i := 6) sc__law_branch.nd rfl (Or.inl rfl)) (wss_one (ws_expr (we_bm PySem.F.plainAttrs_list PySem.F.slot_list_append PySem.F.type_list_append mt_append (wv 9) (wa_cons (we_call G__law_claim (hr.mono (by lia)) rfl D__law_claim.mg D__law_claim.kp D__law_claim.b .nil pass0 (wa_cons (wv 0) (wa_cons (wv 4) (wa_cons we_int wa_nil)))) wa_nil)))))
      (wss_cons (ws_set (i := 10) sc__law_branch.nd rfl (Or.inl rfl) (we_ix (ix_U hu1) (we_lst (wa_cons we_int (wa_cons we_int (wa_cons we_int (wa_cons (we_un un_neg we_int) (wa_cons (we_un un_neg we_int) (wa_cons (we_op op_pow we_int we_int) wa_nil))))))) (we_op op_mod (we_call G__law_next (hr.mono (by lia)) rfl D__law_next.mg D__law_next.kp D__law_next.b .nil pass0 (wa_cons (wv 0) wa_nil)) we_int) (fun _ _ => rfl)))
      (wss_one (ws_ret (we_tup (wa_cons (wv 10) (wa_cons (we_callTy call_tuple_of rfl T.z_tuple bt_tuple (wa_cons (wv 4) wa_nil)) (wa_cons (we_callTy call_tuple_of rfl T.z_tuple bt_tuple (wa_cons (wv 9) wa_nil)) (wa_cons (we_call G__law_row (hr.mono (by lia)) rfl D__law_row.mg D__law_row.kp D__law_row.b .nil pass0 (wa_cons (wv 0) (wa_cons (wv 4) (wa_cons (wv 3) wa_nil)))) wa_nil))))))))))))), ?_⟩
  obtain ⟨X', gX'⟩ : ∃ X', X' = (cxOf CX0 P w K mg base ["deck", "many", "claims", "bags", "gens", "names", "k", "cell", "name", "found", "factor"] "_law_branch" (defScope (top 25)) f cdv A outer s H E).nox := ⟨_, rfl⟩
  try rw [<- gX']
  clear gX'
  refine hide fun R1 hR1 => ?_
  refine ⟨(by show 0 <= sizeLine; decide), fun ga hga => ?_⟩
  dsimp only [gName]
  subst hR1
  refine hide fun R2 hR2 => ?_
  refine ⟨(by show 4 <= sizeLine; decide), fun l1 hl1 => ⟨(by show 4 <= sizeLine; decide), fun l2 hl2 => ⟨(by show 4 <= sizeLine; decide), fun l3 hl3 => ⟨(by show 3 <= sizeLine; decide), fun l4 hl4 => ?_⟩⟩⟩⟩
  obtain ⟨gap, gac⟩ := dk.ne hga
  have sA := same_new hga (.lst [])
  have sB := same_new hl1 (.lst [V.str "x", V.str "y", V.str "z", V.str "u"])
  have sC := same_new hl2 (.lst [V.str "a", V.str "ab", V.str "p", V.str "w"])
  have sD := same_new hl3 (.lst [V.str "xa", V.str "x", V.str "r", V.str "b"])
  have sE := same_new hl4 (.lst [V.ref l1, .ref l2, .ref l3])
  have lists : ∀ v ∈ [V.ref l1, V.ref l2, V.ref l3], ∃ (nl : Addr) (ns : List Str), v = .ref nl /\ ns.length = 4 /\ H nl = none /\ (upd (upd (upd (upd (upd H ga (.lst [])) l1 (.lst [V.str "x", V.str "y", V.str "z", V.str "u"])) l2 (.lst [V.str "a", V.str "ab", V.str "p", V.str "w"])) l3 (.lst [V.str "xa", V.str "x", V.str "r", V.str "b"])) l4 (.lst [V.ref l1, .ref l2, .ref l3])) nl = some (.lst (ns.map V.str)) /\ nl ≠ ga := by
    intro v hv
    have nn : ∀ {q : Addr} {G : Hp}, Same (upd H ga (.lst [])) G -> G q = none -> q ≠ ga := fun {q G} sg hq z => by rw [z, sg _ _ upd_same] at hq; cases hq
    simp only [List.mem_cons, List.not_mem_nil, or_false] at hv
    rcases hv with rfl | rfl | rfl
    · exact ⟨l1, ["x", "y", "z", "u"], rfl, rfl, same_back sA hl1, sE _ _ (sD _ _ (sC _ _ upd_same)), nn (.refl _) hl1⟩
    · exact ⟨l2, ["a", "ab", "p", "w"], rfl, rfl, same_back (sA.trans sB) hl2, sE _ _ (sD _ _ upd_same), nn sB hl2⟩
    · exact ⟨l3, ["xa", "x", "r", "b"], rfl, rfl, same_back (sA.trans (sB.trans sC)) hl3, sE _ _ upd_same, nn (sB.trans sC) hl3⟩
  have hl4' : (upd (upd (upd (upd (upd H ga (.lst [])) l1 (.lst [V.str "x", V.str "y", V.str "z", V.str "u"])) l2 (.lst [V.str "a", V.str "ab", V.str "p", V.str "w"])) l3 (.lst [V.str "xa", V.str "x", V.str "r", V.str "b"])) l4 (.lst [V.ref l1, .ref l2, .ref l3])) l4 = some (.lst [V.ref l1, .ref l2, .ref l3]) := upd_same
  have s0 := sA.trans (sB.trans (sC.trans (sD.trans sE)))
  have hga0 := sE _ _ (sD _ _ (sC _ _ (sB _ _ (show (upd H ga (.lst [])) ga = some (.lst []) from upd_same))))
  have l4H := same_back (sA.trans (sB.trans (sC.trans sD))) hl4
  generalize upd (upd (upd (upd (upd H ga (.lst [])) l1 (.lst [V.str "x", V.str "y", V.str "z", V.str "u"])) l2 (.lst [V.str "a", V.str "ab", V.str "p", V.str "w"])) l3 (.lst [V.str "xa", V.str "x", V.str "r", V.str "b"])) l4 (.lst [V.ref l1, .ref l2, .ref l3]) = H0 at s0 hga0 hl4' lists ⊢
  have dk0 := dk.keep s0
  refine ⟨_, rfl, p, c, n, rfl, dk0, by lia, fun c1 H1 ex1 dk1 => ⟨_, _, rfl, rfl, (by show (0 : Int) < 3; decide), ?_⟩⟩
  obtain ⟨v, hv, hvm⟩ := atI_mem (xs := [V.ref l1, V.ref l2, V.ref l3]) (mod_lt c1 3 (by decide)).1 (mod_lt c1 3 (by decide)).2
  obtain ⟨nl, ns, rfl, lns, nlH, hnl0, nlga⟩ := lists v hvm
  obtain ⟨nlp, nlc⟩ := dk.ne nlH
  obtain ⟨l4p, _⟩ := dk.ne l4H
  refine (ixl (SqL.of (ex1 _ _ l4p hl4')) hv ?_)
  have hnl1 := ex1 _ _ nlp hnl0
  have hga1 := ex1 _ _ gap hga0
  have exH1 : Ex p H H1 := Ex.trans s0.ex ex1
  dsimp only [gName]
  subst hR2
  refine hide fun R3 hR3 => ?_
  refine ⟨_, rfl, p, c, _, rfl, dk1, by lia, fun r H2 ex2 dk2 => ⟨_, rfl, .inl ⟨_, _, rfl, rfl, _, _, rfl, rfl, (by show (0 : Int) < 4 + 1; decide), r % (4 + 1), rfl, by have := mod_lt r 5 (by decide); lia, by have := mod_lt r 5 (by decide); lia, ?_⟩⟩⟩
  have r5 := mod_lt r 5 (by decide)
  refine for_rangeH (n := (r % (4 + 1)).toNat) (fun j σ H' => ∃ (o6 o7 o8 : Option V) (gus : List V) (gs : List Gen), σ = [some (.ref p), some (.int 4), some (.int 4), some (.bl true), some (.ref ga), some (.ref nl), o6, o7, o8, none, none] /\ Ex p H H' /\ Dk H' p c (n + 2 + j) /\ H' nl = some (.lst (ns.map V.str)) /\ H' ga = some (.lst gus) /\ IsDts H' (gs.map genD) gus /\ gs.length = j)
    ⟨none, none, none, [], [], rfl, exH1.trans ex2, dk2.mono (by lia), ex2 _ _ nlp hnl1, ex2 _ _ gap hga1, .nil, rfl⟩ ?_ ?_
  · rintro E' j σ H3 hj ⟨o6, o7, o8, gus, gs, rfl, ex3, dk3, hnl3, hga3, ig, lg⟩ toN
    have j4 : j < 4 := by lia
    refine ⟨_, rfl, p, c, _, rfl, dk3, by lia, fun cell H4 ex4 dk4 => ?_⟩
    have hnl4 := ex4 _ _ nlp hnl3
    have hga4 := ex4 _ _ gap hga3
    have ig4 := IsDts.mono (dk3.tups ex4) ig
    have exH4 := ex3.trans ex4
    obtain ⟨v1, hv1, hm1⟩ := atI_mem (xs := ns.map V.str) (r := 0 + (j : Int)) (by lia) (by rw [List.length_map]; lia)
    obtain ⟨v2, hv2, hm2⟩ := atI_mem (xs := ns.map V.str) (r := cell / 3 % 2) (mod_lt _ 2 (by decide)).1 (by rw [List.length_map, lns]; have := mod_lt (cell / 3) 2 (by decide); lia)
    obtain ⟨x1, _, rfl⟩ := strs_mem hm1
    obtain ⟨x2, _, rfl⟩ := strs_mem hm2
    refine ⟨_, rfl, _, rfl, (ixl (SqL.of hnl4) hv1 ⟨_, rfl, _, rfl, _, _, rfl, rfl, cdiv (by decide) (by decide), _, _, rfl, rfl, (by show (0 : Int) < 2; decide), (ixl (SqL.of hnl4) hv2 ⟨(by show 2 <= sizeLine; decide), fun l5 hl5 => ?_⟩)⟩)⟩
    have s5 := same_new hl5 (.lst [V.str x1, V.str x2])
    obtain ⟨v3, hv3, hm3⟩ := sel2 (a := V.str x1) (b := V.str x2) (decide (V.int (cell / 7 % 5) = V.int 1))
    obtain ⟨x3, rfl⟩ : ∃ x, v3 = V.str x := by rcases hm3 with rfl | rfl <;> exact ⟨_, rfl⟩
    refine ⟨_, rfl, _, _, rfl, rfl, cdiv (by decide) (by decide), _, _, rfl, rfl, (by show (0 : Int) < 5; decide), .inl ⟨rfl, .inr ⟨_, rfl, (ixl (SqL.of upd_same) hv3 ?_)⟩⟩⟩
    generalize upd H4 l5 (.lst [V.str x1, V.str x2]) = H5 at s5 ⊢
    refine ⟨_, rfl, .inl ⟨rfl, _, SqL.of (s5 _ _ hga4)⟩, _, rfl, (by show 3 <= sizeLine; decide), fun l6 hl6 => ?_⟩
    obtain ⟨v4, hv4, hm4⟩ := atI_mem (xs := [V.str "p", V.str "q", V.str "r"]) (mod_lt cell 3 (by decide)).1 (mod_lt cell 3 (by decide)).2
    obtain ⟨x4, rfl⟩ : ∃ x, v4 = V.str x := by
      simp only [List.mem_cons, List.not_mem_nil, or_false] at hm4
      rcases hm4 with rfl | rfl | rfl <;> exact ⟨_, rfl⟩
    have s6 := s5.trans (same_new hl6 (.lst [V.str "p", V.str "q", V.str "r"]))
    refine ⟨_, rfl, _, _, rfl, rfl, (by show (0 : Int) < 3; decide), (ixl (SqL.of upd_same) hv4 ⟨(by show 2 <= sizeLine; decide), fun q hq => ?_⟩)⟩
    have s7 := s6.trans (same_new hq (.tup [.str x3, .str x4]))
    have hq7 : (upd (upd H5 l6 (.lst [V.str "p", V.str "q", V.str "r"])) q (.tup [.str x3, .str x4])) q = some (.tup [.str x3, .str x4]) := upd_same
    generalize upd (upd H5 l6 (.lst [V.str "p", V.str "q", V.str "r"])) q (.tup [.str x3, .str x4]) = H7 at s7 hq7 ⊢
    have lgu : gus.length = j := by rw [ig.length, List.length_map, lg]
    refine ⟨ga, _, _, rfl, rfl, s7 _ _ hga4, line1 (by lia), ?_⟩
    have t8 : Tups H7 (upd H7 ga (.lst (gus ++ [.ref q]))) := Tups.lst (s7 _ _ hga4)
    refine toN _ _ ⟨_, _, _, gus ++ [.ref q], gs ++ [(x3, x4)], rfl, Ex.upd' (exH4.trans s7.ex) hga, ((dk4.keep s7).upd gap gac).mono (by lia), by rw [upd_ne nlga]; exact s7 _ _ hnl4, upd_same, ?_, by rw [List.length_append, lg]; rfl⟩
    rw [List.map_append]
    exact IsDts.append (IsDts.mono t8 (IsDts.mono s7.tups ig4)) (.cons (IsDt.mono t8 (isDt_gen hq7)) .nil)
  · rintro σ H3 ⟨o6, o7, o8, gus, gs, rfl, ex3, dk3, hnl3, hga3, ig, lg⟩
    have lg4 : gs.length <= 4 := by lia
    subst hR3
    dsimp only
    refine hide fun R4 hR4 => ?_
    refine ⟨(by show 0 <= sizeLine; decide), fun fa hfa => ?_⟩
    dsimp only [gName]
    subst hR4
    refine hide fun R5 hR5 => ?_
    obtain ⟨fap, fac⟩ := dk3.ne hfa
    have hfaH := ex_fresh ex3 fap hfa
    have faga : fa ≠ ga := (ne_of_none hga3 hfa).symm
    have s4 := same_new hfa (.lst [])
    have hfa4 : (upd H3 fa (.lst [])) fa = some (.lst []) := upd_same
    have hga4 := s4 _ _ hga3
    have ig4 := IsDts.mono s4.tups ig
    have ex4 := ex3.trans s4.ex
    have dk4 := dk3.keep s4
    generalize upd H3 fa (.lst []) = H4 at s4 hfa4 hga4 ig4 ex4 dk4 ⊢
    refine ⟨_, rfl, p, c, n + 6, rfl, dk4.mono (by lia), by lia, fun r2 H5 ex5 dk5 => ⟨_, rfl, .inl ⟨_, _, rfl, rfl, _, _, rfl, rfl, (by show (0 : Int) < 4 + 1; decide), r2 % (4 + 1), rfl, by have := mod_lt r2 5 (by decide); lia, by have := mod_lt r2 5 (by decide); lia, ?_⟩⟩⟩
    have r25 := mod_lt r2 5 (by decide)
    refine for_rangeH (n := (r2 % (4 + 1)).toNat) (fun j σ H' => ∃ (o6 : Option V) (cus : List V) (cs : List Qt), σ = [some (.ref p), some (.int 4), some (.int 4), some (.bl true), some (.ref ga), some (.ref nl), o6, o7, o8, some (.ref fa), none] /\ Ex p H H' /\ Dk H' p c (n + 7 + 10 * j) /\ H' ga = some (.lst gus) /\ IsDts H' (gs.map genD) gus /\ H' fa = some (.lst cus) /\ IsDts H' (cs.map dQ) cus /\ cs.length = j /\ ∀ t ∈ cs, QW 5 t /\ ∀ x ∈ nmQ t, x ∈ gs.map (·.1))
      ⟨_, [], [], rfl, ex4.trans ex5, dk5.mono (by lia), ex5 _ _ gap hga4, IsDts.mono (dk4.tups ex5) ig4, ex5 _ _ fap hfa4, .nil, rfl, fun t ht => (nomatch ht)⟩ ?_ ?_
    · rintro E' j σ H6 hj ⟨o6', cus, cs, rfl, ex6, dk6, hga6, ig6, hfa6, ic6, lc, cok⟩ toN
      have lcu : cus.length = j := by rw [ic6.length, List.length_map, lc]
      refine ⟨_, rfl, .inl ⟨rfl, _, SqL.of hfa6⟩, _, rfl, _, rfl, 1, by lia, p, c, ga, _, gs, rfl, dk6, by lia, ⟨gap, gus, hga6, ig6, lg4⟩, fun t u H7 qt nt it ex7 dk7 => ⟨fa, _, _, rfl, rfl, ex7 _ _ fap hfa6, line1 (by lia), ?_⟩⟩
      have t67 := dk6.tups ex7
      have t8 : Tups H7 (upd H7 fa (.lst (cus ++ [u]))) := Tups.lst (ex7 _ _ fap hfa6)
      refine toN _ _ ⟨_, cus ++ [u], cs ++ [t], rfl, Ex.upd' (ex6.trans ex7) hfaH, (dk7.upd fap fac).mono (by lia), by rw [upd_ne (Ne.symm faga)]; exact ex7 _ _ gap hga6, IsDts.mono t8 (IsDts.mono t67 ig6), upd_same, ?_, by rw [List.length_append, lc]; rfl, fun y hy => ?_⟩
      · rw [List.map_append]
        exact IsDts.append (IsDts.mono t8 (IsDts.mono t67 ic6)) (.cons (IsDt.mono t8 it) .nil)
      · rcases List.mem_append.mp hy with h | h
        · exact cok y h
        · rw [List.mem_singleton.mp h]; exact ⟨qt, nt⟩
    · rintro σ H6 ⟨o6', cus, cs, rfl, ex6, dk6, hga6, ig6, hfa6, ic6, lc, cok⟩
      have dk6' : Dk H6 p c (n + 47) := dk6.mono (by lia)
      subst hR5
      dsimp only
      refine hide fun R6 hR6 => ?_
      refine ⟨_, rfl, _, rfl, _, _, rfl, rfl, ⟨by decide, by decide, by decide⟩, (by show 6 <= sizeLine; decide), fun l7 hl7 => ?_⟩
      obtain ⟨l7p, _⟩ := dk6.ne hl7
      have s7 := same_new hl7 (.lst [.int 1, .int 1, .int 2, .int (-1), .int (-3), .int (10 ^ (9 : Int).toNat)])
      have hl7' : (upd H6 l7 (.lst [.int 1, .int 1, .int 2, .int (-1), .int (-3), .int (10 ^ (9 : Int).toNat)])) l7 = some (.lst [.int 1, .int 1, .int 2, .int (-1), .int (-3), .int (10 ^ (9 : Int).toNat)]) := upd_same
      generalize upd H6 l7 (.lst [.int 1, .int 1, .int 2, .int (-1), .int (-3), .int (10 ^ (9 : Int).toNat)]) = H7 at s7 hl7' ⊢
      refine ⟨_, rfl, p, c, _, rfl, dk6'.keep s7, by lia, fun c8 H8 ex8 dk8 => ⟨_, _, rfl, rfl, (by show (0 : Int) < 6; decide), ?_⟩⟩
      obtain ⟨v8, hv8, hm8⟩ := atI_mem (xs := [V.int 1, .int 1, .int 2, .int (-1), .int (-3), .int (10 ^ (9 : Int).toNat)]) (mod_lt c8 6 (by decide)).1 (mod_lt c8 6 (by decide)).2
      obtain ⟨fc, rfl⟩ : ∃ z, v8 = V.int z := by
        simp only [List.mem_cons, List.not_mem_nil, or_false] at hm8
        rcases hm8 with rfl | rfl | rfl | rfl | rfl | rfl <;> exact ⟨_, rfl⟩
      refine (ixl (SqL.of (ex8 _ _ l7p hl7')) hv8 ?_)
      have ex8' : Ex p H H8 := ex6.trans (Ex.trans s7.ex ex8)
      have t68 : Tups H6 H8 := fun z o e => (dk6'.keep s7).tups ex8 _ _ (s7 _ _ e)
      have hga8 := ex8 _ _ gap (s7 _ _ hga6)
      have hfa8 := ex8 _ _ fap (s7 _ _ hfa6)
      dsimp only [gName]
      subst hR6
      refine ⟨_, rfl, _, rfl, ga, _, rfl, .inl ⟨SqL.of hga8, fun tg htg => ⟨_, rfl, fa, _, rfl, .inl ⟨SqL.of (same_new htg _ _ _ hfa8), fun tf htf => ?_⟩⟩⟩⟩
      have s9 := (same_new htg (.tup gus)).trans (same_new htf (.tup cus))
      have htg9 : (upd (upd H8 tg (.tup gus)) tf (.tup cus)) tg = some (.tup gus) := same_new htf _ _ _ upd_same
      have htf9 : (upd (upd H8 tg (.tup gus)) tf (.tup cus)) tf = some (.tup cus) := upd_same
      generalize upd (upd H8 tg (.tup gus)) tf (.tup cus) = H9 at s9 htg9 htf9 ⊢
      have t69 : Tups H6 H9 := fun z o e => s9 _ _ (t68 _ _ e)
      refine ⟨_, rfl, _, rfl, _, rfl, p, c, ga, _, gs, true, rfl, dk8.keep s9, by lia, ⟨gap, gus, s9 _ _ hga8, IsDts.mono t69 ig6, lg4⟩, fun row H10 ex10 dk10 => ⟨(by show 4 <= sizeLine; decide), fun b hb => ?_⟩⟩
      have t9A := (dk8.keep s9).tups ex10
      have s11 := same_new hb (.tup [.int fc, .ref tg, .ref tf, row])
      refine fin b gs cs _ (ex8'.trans (Ex.trans s9.ex (ex10.trans s11.ex))) ((dk10.keep s11).mono (by lia)) ⟨fc, tg, tf, row, gus, cus, upd_same, s11 _ _ (t9A _ _ htg9), IsDts.mono s11.tups (IsDts.mono t9A (IsDts.mono t69 ig6)), s11 _ _ (t9A _ _ htf9), IsDts.mono s11.tups (IsDts.mono t9A (IsDts.mono t69 ic6)), lg4, by lia, cok⟩
end
end K66
end
section
namespace K66
open PySem L2 Kn
noncomputable def partsQ : Qt -> List (Option Qt)
  | .num _ => [none]
  | .word _ => [none]
  | .var _ => [none]
  | .at _ t => [none, some t]
  | .two _ a b => [some a, some b]
  | .neg a => [some a]
noncomputable def PItem (H : Hp) : Option Qt -> V -> Prop
  | none, u => (∃ i, u = .int i) \/ ∃ z, u = .str z
  | some k, u => IsDt H (dQ k) u
noncomputable def nmO : Option Qt -> List Str
  | none => []
  | some k => nmQ k
theorem parts_is {H : Hp} {t : Qt} {xs : List V} (h : IsDts H (dQL t) (.str (wdQ t) :: xs)) : Paired (PItem H) (partsQ t) xs := by
  cases t with
  | num i => obtain ⟨_, _, e, _, h2⟩ := cons_of h; cases e; obtain ⟨u, rfl, h3⟩ := one_of h2; exact .cons (.inl ⟨i, int_of h3⟩) .nil
  | word i => obtain ⟨_, _, e, _, h2⟩ := cons_of h; cases e; obtain ⟨u, rfl, h3⟩ := one_of h2; exact .cons (.inr ⟨i, str_of h3⟩) .nil
  | var i => obtain ⟨_, _, e, _, h2⟩ := cons_of h; cases e; obtain ⟨u, rfl, h3⟩ := one_of h2; exact .cons (.inr ⟨i, str_of h3⟩) .nil
  | «at» f t => obtain ⟨_, _, e, _, h2⟩ := cons_of h; cases e; obtain ⟨u, r, rfl, h3, h4⟩ := cons_of h2; obtain ⟨u2, rfl, h5⟩ := one_of h4; exact .cons (.inr ⟨f, str_of h3⟩) (.cons h5 .nil)
  | two w a b => obtain ⟨_, _, e, _, h2⟩ := cons_of h; cases e; obtain ⟨u, r, rfl, h3, h4⟩ := cons_of h2; obtain ⟨u2, rfl, h5⟩ := one_of h4; exact .cons h3 (.cons h5 .nil)
  | neg a => obtain ⟨_, _, e, _, h2⟩ := cons_of h; cases e; obtain ⟨u, rfl, h3⟩ := one_of h2; exact .cons h3 .nil
theorem parts_qw {d : Nat} {t : Qt} (h : QW d t) {k : Qt} (hk : some k ∈ partsQ t) : ∃ e, e < d /\ QW e k := by
  cases t with
  | num i => simp [partsQ] at hk
  | word i => simp [partsQ] at hk
  | var i => simp [partsQ] at hk
  | «at» f t =>
    cases d with
    | zero => exact h.elim
    | succ d => simp [partsQ] at hk; subst hk; exact ⟨d, by lia, h⟩
  | two w a b =>
    cases d with
    | zero => exact h.elim
    | succ d =>
      simp [partsQ] at hk
      rcases hk with rfl | rfl
      · exact ⟨d, by lia, h.2.1⟩
      · exact ⟨d, by lia, h.2.2⟩
  | neg a =>
    cases d with
    | zero => exact h.elim
    | succ d => simp [partsQ] at hk; subst hk; exact ⟨d, by lia, h⟩
theorem parts_nm {t : Qt} (h : ∀ x, t ≠ .var x) : nmQ t = (partsQ t).flatMap nmO := by
  cases t with
  | var x => exact absurd rfl (h x)
  | _ => simp [nmQ, partsQ, nmO]
theorem parts_len (t : Qt) : (partsQ t).length <= 2 := by cases t <;> simp [partsQ]
theorem paired_get' {α β : Type} {F : α -> β -> Prop} {l : List α} {m : List β} {i : Nat} (h : Paired F l m) (hi : i < l.length) : ∃ b, m[i]? = some b /\ F l[i] b := by
  have hl := Paired.length h
  obtain ⟨a, e, r⟩ := paired_get (i := i) h (List.getElem?_eq_getElem (by lia))
  rw [List.getElem?_eq_getElem hi] at e
  cases e
  exact ⟨_, List.getElem?_eq_getElem (by lia), r⟩
section
variable {P : Program} {w : World} {K : PySem.W.Frag} {mg : Str -> Option Value} {base : Heap} {f f_names f_last f_ready : Addr} {fd fd_names fd_last fd_ready : FuncData}
theorem sc__law_names : FnScope ["question", "found", "part"] ["question"] (defScope (top 26)) := ⟨rfl, rfl, rfl, by decide +kernel, rfl, by decide +kernel, by decide +kernel⟩
noncomputable def spNames (d : Nat) : Sp := fun vs H Q _ => ∃ (v : V) (t : Qt), vs = [v] /\ IsDt H (dQ t) v /\ QW d t /\ ∀ (l : Addr) (H' : Hp), Same H H' -> H' l = some (.lst ((nmQ t).map V.str)) -> Q (.ref l) H'
theorem ok_names {j d : Nat} (hd : d <= 5) (T : Tx mg) (D__law_names : Df K mg "_law_names" (top 26) f fd ["question"]) (G__law_names : FnOk P w K mg base CX0 j f fd ["question"] (fun vs H Q E => ∃ e, e < d /\ spNames e vs H Q E)) :
    FnOk P w K mg base CX0 (j + 1) f fd ["question"] (spNames d) := by
  refine D__law_names.fn.okH sc__law_names (fun vs H Q E h => ?_) (fun cdv A outer s H vs Q E hr h => ?_)
  · obtain ⟨v, t, rfl, _⟩ := h; rfl
  obtain ⟨v, t, rfl, iv, qt, fin⟩ := h
  have hu := u110 hr
  have hu0 := u0 hr
  have hu1 := hu_of hr
  refine ⟨_, (wss_cons (ws_if (wt_cmpR (op_eqU hu) (we_ix (ix_U hu1) (wv 0) we_int (fun _ _ => rfl)) we_str (nomark _)) (wss_one (ws_ret (we_lst (wa_cons (we_ix (ix_U hu1) (wv 0) we_int (fun _ _ => rfl)) wa_nil)))) wss_nil)
      (wss_cons (ws_set (i := 1) sc__law_names.nd rfl (Or.inl rfl) (we_lst wa_nil))
      (wss_cons (ws_for PassesOwn.never rfl (wi_U (we_slice sl_U (wv 0) (wo_some we_int) wo_none)) (wg_name (i := 2) sc__law_names.nd rfl (Or.inl rfl)) (wss_one (ws_if (wt_val (we_callB call_isi rfl T.z_isinstance bt_isinstance (wa_cons (wv 2) (wa_cons (we_bltn rfl T.z_tuple bt_tuple (relv_ty _)) wa_nil)))) (wss_one (ws_set (i := 1) sc__law_names.nd rfl (Or.inl rfl) (we_op op_plus (wv 1) (we_call G__law_names (hr.mono (by lia)) rfl D__law_names.mg D__law_names.kp D__law_names.b .nil pass0 (wa_cons (wv 2) wa_nil))))) wss_nil)))
      (wss_one (ws_ret (wv 1)))))), ?_⟩
  obtain ⟨X', gX'⟩ : ∃ X', X' = (cxOf CX0 P w K mg base ["question", "found", "part"] "_law_names" (defScope (top 26)) f cdv A outer s H E).nox := ⟨_, rfl⟩
  try rw [<- gX']
  clear gX'
  have iv' := iv
  obtain ⟨a, xs, rfl, ha, hxs⟩ := q_at iv
  refine ⟨_, rfl, (ixt (v := .str (wdQ t)) (SqT.of ha) (wd0 ha) (.inl ⟨rfl, _, rfl, ?_⟩))⟩
  by_cases hw : wdQ t = "var"
  · obtain ⟨x, rfl⟩ := var_of_wd qt hw
    obtain ⟨a', e2, ha'⟩ := q_var iv'
    cases e2
    refine iteP veq ?_
    exact ⟨_, rfl, (ixt (SqT.of ha') rfl ⟨(by show 1 <= sizeLine; decide), fun l hl => fin l _ (same_new hl _) upd_same⟩)⟩
  · refine iteN (vne hw) ?_
    have nv : ∀ x, t ≠ .var x := fun x z => hw (by rw [z]; rfl)
    refine ⟨(by show 0 <= sizeLine; decide), fun fl hfl => ?_⟩
    have s1 := same_new hfl (.lst [])
    have hfl1 : (upd H fl (.lst [])) fl = some (.lst (([] : List Str).map V.str)) := upd_same
    generalize upd H fl (.lst []) = H1 at s1 hfl1 ⊢
    refine .inr ⟨_, rfl, _, rfl, .inr (.inl ⟨a, _, rfl, SqT.of (s1 _ _ ha), ncutN (k := 1) (by decide) (by simp), fun q hq => ⟨q, rfl, ⟨_, SqT.of upd_same⟩, ?_⟩⟩)⟩
    have ec : cutV (V.str (wdQ t) :: xs) (some 1) none = xs := by
      have := cutN (xs := V.str (wdQ t) :: xs) (k := 1)
      rw [show ((1 : Nat) : Int) = 1 from rfl] at this
      rw [this]; rfl
    rw [ec]
    have s2 := s1.trans (same_new hq (.tup xs))
    have hq2 : (upd H1 q (.tup xs)) q = some (.tup xs) := upd_same
    have hfl2 := same_new hq (.tup xs) _ _ hfl1
    generalize upd H1 q (.tup xs) = H2 at s2 hq2 hfl2 ⊢
    have ip := parts_is hxs
    have lp := Paired.length ip
    have pl := parts_len t
    refine ⟨fun i m σ H' => ∃ (fl : Addr) (o2 : Option V), m + i = (partsQ t).length /\ i <= (partsQ t).length /\ Same H2 H' /\ H' fl = some (.lst ((((partsQ t).take i).flatMap nmO).map V.str)) /\ (((partsQ t).take i).flatMap nmO).length <= i * 32 /\ σ = [some (.ref a), some (.ref fl), o2], ⟨(partsQ t).length, fl, none, rfl, Nat.zero_le _, .refl _, hfl2, by simp, rfl⟩, ?_⟩
    rintro i m σ H3 ⟨fl3, o2, hm, hi', s3, hfl3, ln, rfl⟩
    by_cases hi : i < (partsQ t).length
    · obtain ⟨u, eu, pu⟩ := paired_get' ip hi
      refine .inr (for_hide (⟨_, _, SqT.of (s3 _ _ hq2), eu⟩) (fun σ' H' => ∃ (fl : Addr) (o2 : Option V), (m - 1) + (i + 1) = (partsQ t).length /\ i + 1 <= (partsQ t).length /\ Same H2 H' /\ H' fl = some (.lst ((((partsQ t).take (i + 1)).flatMap nmO).map V.str)) /\ (((partsQ t).take (i + 1)).flatMap nmO).length <= (i + 1) * 32 /\ σ' = [some (.ref a), some (.ref fl), o2]) (fun σ' H' hW => ⟨m - 1, by lia, hW⟩) fun E' toN _ toR _ => ?_)
      intro x H4 hy
      obtain ⟨rfl, hx⟩ := hy
      have e5 := hx _ (SqT.of (s3 _ _ hq2))
      rw [eu] at e5
      cases e5
      have tk : ((partsQ t).take (i + 1)).flatMap nmO = ((partsQ t).take i).flatMap nmO ++ nmO (partsQ t)[i] := by
        rw [List.take_add_one, List.getElem?_eq_getElem hi, List.flatMap_append]; simp
      rw [tk] at toN
      have pm : ∀ k, (partsQ t)[i] = some k -> ∃ e, e < d /\ QW e k := fun k e => parts_qw qt (by rw [<- e]; exact List.getElem_mem hi)
      generalize (partsQ t)[i] = o at pu pm toN
      cases o with
      | none =>
        refine ⟨_, rfl, ?_⟩
        have stay : Same H2 H4 := s3
        rcases pu with ⟨z, rfl⟩ | ⟨z, rfl⟩
        · exact ⟨_, _, false, rfl, .inl ⟨rfl, .inl ⟨⟨z, rfl⟩, rfl⟩⟩, _, rfl, iteN (by decide) <| toN _ _ ⟨fl3, _, by lia, by lia, s3, by simpa [nmO] using hfl3, by rw [show nmO none = [] from rfl, List.append_nil]; lia, rfl⟩⟩
        · exact ⟨_, _, false, rfl, .inl ⟨rfl, .inr (.inl ⟨⟨z, rfl⟩, rfl⟩)⟩, _, rfl, iteN (by decide) <| toN _ _ ⟨fl3, _, by lia, by lia, s3, by simpa [nmO] using hfl3, by rw [show nmO none = [] from rfl, List.append_nil]; lia, rfl⟩⟩
      | some k =>
        obtain ⟨e, he, qk⟩ := pm k rfl
        have ik : IsDt H4 (dQ k) u := IsDt.mono s3.tups (IsDt.mono s2.tups pu)
        have ik' := ik
        obtain ⟨ak, yk, rfl, hak, _⟩ := q_at ik
        refine ⟨_, rfl, _, _, true, rfl, .inl ⟨rfl, .inr (.inr ⟨⟨ak, _, rfl, hak⟩, rfl⟩)⟩, _, rfl, iteP rfl ?_⟩
        refine ⟨_, rfl, _, rfl, e, he, _, k, rfl, ik', qk, fun l5 H5 s5 hl5 => ?_⟩
        have lk : (nmQ k).length <= 32 := Nat.le_trans (nmQ_len (qk.mono (show e <= 5 by lia))) (by decide)
        refine .inr (.inr (.inl ⟨fl3, l5, _, _, rfl, rfl, s5 _ _ hfl3, hl5, Nat.le_of_lt (line1 (by rw [List.length_map, List.length_map]; lia)), fun p6 hp6 => ?_⟩))
        rw [<- List.map_append]
        exact toN _ _ ⟨p6, _, by lia, by lia, s3.trans (s5.trans (same_new hp6 _)), upd_same, by rw [List.length_append]; show _ + (nmQ k).length <= _; lia, rfl⟩
    · refine .inl ⟨⟨_, SqT.of (s3 _ _ hq2), by lia⟩, ?_⟩
      rw [List.take_of_length_le (by lia), <- parts_nm nv] at hfl3
      exact ⟨_, rfl, fin fl3 _ (s2.trans s3) hfl3⟩
theorem names_all (T : Tx mg) (D__law_names : Df K mg "_law_names" (top 26) f fd ["question"]) : ∀ d : Nat, d <= 5 -> FnOk P w K mg base CX0 (d + 1) f fd ["question"] (spNames d) := fun d => by
  induction d using Nat.strongRecOn with
  | _ d ih => exact fun d1 => ok_names (j := d) d1 T D__law_names (fnOk_lt fun e he => (ih e he (by lia)).mono (by lia))
noncomputable def GT (H : Hp) (g : Addr) (gs : List Gen) : Prop := ∃ gus, H g = some (.tup gus) /\ IsDts H (gs.map genD) gus /\ gs.length <= 4
theorem GT.mono {H H' : Hp} (s : Tups H H') {g : Addr} {gs : List Gen} (h : GT H g gs) : GT H' g gs := by
  obtain ⟨gus, h1, h2, h3⟩ := h
  exact ⟨gus, s _ _ h1, IsDts.mono s h2, h3⟩
theorem sc__law_last : FnScope ["gens", "name"] ["gens", "name"] (defScope (top 27)) := ⟨rfl, rfl, rfl, by decide +kernel, rfl, by decide +kernel, by decide +kernel⟩
noncomputable def spLast : Sp := fun vs H Q _ => ∃ (g : Addr) (x : Str) (gs : List Gen) (k : Nat), vs = [.ref g, .str x] /\ GT H g gs /\ lastN gs x = some k /\ ∀ H', Same H H' -> Q (.int k) H'
theorem ok_last (T : Tx mg) (D : Df K mg "_law_last" (top 27) f fd ["gens", "name"]) : FnOk P w K mg base CX0 1 f fd ["gens", "name"] spLast := by
  refine D.fn.okH sc__law_last (fun vs H Q E h => ?_) (fun cdv A outer s H vs Q E hr h => ?_)
  · obtain ⟨g, x, gs, k, rfl, _⟩ := h; rfl
  obtain ⟨g, x, gs, k, rfl, ⟨gus, hg, ig, lg⟩, hk, fin⟩ := h
  have hu := u110 hr
  have hu0 := u0 hr
  have hu1 := hu_of hr
  refine ⟨_, (wss_one (ws_ret (we_ix (ix_U hu1) (we_lc (Nt := ["i"]) (fr := [("gens", 0), ("name", 1)]) (LcOk.of (sc := defScope (top 27)) (N := ["gens", "name"]) rfl rfl (by decide +kernel)) rfl (wi_range1 rfl T.z_range (wa_cons (we_callB call_lenU rfl T.z_len bt_len (wa_cons (wv 0) wa_nil)) wa_nil)) (fun z => wg_name (i := 0) (by show (["i", "gens", "name"] : List Str).Nodup; decide +kernel) rfl (Or.inl rfl) (.inr rfl)) (fun z => tgt_name (by decide)) (fun z => wif_one (wt_cmpR (op_eqU hu) (we_ix (ix_U hu1) (we_ix (ix_U hu1) (wv 1) (wv 0) (fun _ _ => rfl)) we_int (fun _ _ => rfl)) (wv 2) (nomark _))) (fun z => (wv 0))) (we_un un_neg we_int) (fun _ _ => rfl)))), ?_⟩
  obtain ⟨X', gX'⟩ : ∃ X', X' = (cxOf CX0 P w K mg base ["gens", "name"] "_law_last" (defScope (top 27)) f cdv A outer s H E).nox := ⟨_, rfl⟩
  try rw [<- gX']
  clear gX'
  have lgu : gus.length = gs.length := by rw [ig.length, List.length_map]
  refine ⟨_, rfl, .inl ⟨g, _, rfl, .inr (SqT.of hg), gus.length, rfl, by lia, by lia, ?_⟩⟩
  refine ⟨fun i m zs H8 => H8 = H /\ m + i = gs.length /\ i <= gs.length /\ zs = ((List.range i).filter fun j => decide (nmG gs j = x)).map fun (j : Nat) => V.int (j : Int), ⟨gs.length, rfl, rfl, Nat.zero_le _, rfl⟩, ?_⟩
  rintro i m zs H8 ⟨rfl, hm, hi', rfl⟩
  refine ⟨line1 (by rw [List.length_map]; have := List.length_filter_le (fun j => decide (nmG gs j = x)) (List.range i); rw [List.length_range] at this; lia), ?_⟩
  by_cases hi : i < gs.length
  · refine .inr ⟨by show i < Int.toNat _; lia, fun zc y H9 hy => ?_⟩
    obtain ⟨rfl, rfl⟩ := hy
    obtain ⟨cg, e1, hcg⟩ := gen_at ig hi
    have ei : (0 : Int) + (i : Int) = (i : Int) := by lia
    rw [ei]
    refine ⟨_, rfl, _, rfl, (ixt (SqT.of hg) (atI_nat e1) ((ixt (SqT.of hcg) rfl ⟨_, rfl, .inl ⟨rfl, _, rfl, ?_⟩⟩)))⟩
    by_cases hx : nmG gs i = x
    · refine iteP (by rw [hx]; exact veq) ?_
      refine ⟨_, rfl, m - 1, by lia, rfl, by lia, by lia, ?_⟩
      rw [List.range_succ, List.filter_append, List.map_append]
      have : [i].filter (fun j => decide (nmG gs j = x)) = [i] := by simp [hx]
      rw [this]; rfl
    · refine iteN (vne hx) ?_
      refine ⟨m - 1, by lia, rfl, by lia, by lia, ?_⟩
      rw [List.range_succ, List.filter_append]
      have : [i].filter (fun j => decide (nmG gs j = x)) = [] := by simp [hx]
      rw [this, List.append_nil]
  · refine .inl ⟨by show Int.toNat _ <= i; lia, fun l8 hl8 => ?_⟩
    have e : i = gs.length := by lia
    subst e
    unfold lastN lastI at hk
    obtain ⟨ys, ey⟩ := List.getLast?_eq_some_iff.mp hk
    have hl9 : ((List.range gs.length).filter fun j => decide (nmG gs j = x)).map (fun (j : Nat) => V.int (j : Int)) = ys.map (fun (j : Nat) => V.int (j : Int)) ++ [V.int k] := by rw [ey, List.map_append]; rfl
    rw [hl9]
    exact ⟨_, rfl, (ixl (SqL.of upd_same) (atI_last _ _) (fin _ (same_new hl8 _)))⟩
theorem sc__law_ready : FnScope ["gens", "question", "gone"] ["gens", "question", "gone"] (defScope (top 28)) := ⟨rfl, rfl, rfl, by decide +kernel, rfl, by decide +kernel, by decide +kernel⟩
noncomputable def spReady : Sp := fun vs H Q _ => ∃ (g go : Addr) (v : V) (gs : List Gen) (t : Qt) (gn : List Int), vs = [.ref g, v, .ref go] /\ GT H g gs /\ IsDt H (dQ t) v /\ QW 5 t /\ (∀ x ∈ nmQ t, x ∈ gs.map (·.1)) /\ H go = some (.lst (gn.map V.int)) /\
  ∀ (r : Bool) (H' : Hp), (r = true ↔ Rdy gs (nmQ t) gn) -> Same H H' -> Q (.bl r) H'
theorem ok_ready (T : Tx mg) (D : Df K mg "_law_ready" (top 28) f fd ["gens", "question", "gone"]) (D__law_names : Df K mg "_law_names" (top 26) f_names fd_names ["question"]) (G__law_names : FnOk P w K mg base CX0 6 f_names fd_names ["question"] (spNames 5))
    (D__law_last : Df K mg "_law_last" (top 27) f_last fd_last ["gens", "name"]) (G__law_last : FnOk P w K mg base CX0 1 f_last fd_last ["gens", "name"] spLast) : FnOk P w K mg base CX0 7 f fd ["gens", "question", "gone"] spReady := by
  refine D.fn.okH sc__law_ready (fun vs H Q E h => ?_) (fun cdv A outer s H vs Q E hr h => ?_)
  · obtain ⟨g, go, v, gs, t, gn, rfl, _⟩ := h; rfl
  obtain ⟨g, go, v, gs, t, gn, rfl, gt, iv, qt, nt, hgo, fin⟩ := h
  have hu := u110 hr
  have hu0 := u0 hr
  have hu1 := hu_of hr
  refine ⟨_, (wss_one (ws_ret (we_callB (call_all rfl) rfl T.z_all bt_all (wa_cons (we_lc (Nt := ["name"]) (fr := [("gens", 0), ("gone", 2)]) (LcOk.of (sc := defScope (top 28)) (N := ["gens", "question", "gone"]) rfl rfl (by decide +kernel)) rfl (wi_U (we_call G__law_names (hr.mono (by lia)) rfl D__law_names.mg D__law_names.kp D__law_names.b .nil pass0 (wa_cons (wv 1) wa_nil))) (fun z => wg_name (i := 0) (by show (["name", "gens", "gone"] : List Str).Nodup; decide +kernel) rfl (Or.inl rfl) (.inr rfl)) (fun z => tgt_name (by decide)) (fun z => wif_nil) (fun z => (we_cmpR (op_inU hu) (we_call G__law_last (hr.mono (by lia)) rfl D__law_last.mg D__law_last.kp D__law_last.b .nil pass0 (wa_cons (wv 1) (wa_cons (wv 0) wa_nil))) (wv 2) (by with_unfolding_all rfl)))) wa_nil)))), ?_⟩
  obtain ⟨X', gX'⟩ : ∃ X', X' = (cxOf CX0 P w K mg base ["gens", "question", "gone"] "_law_ready" (defScope (top 28)) f cdv A outer s H E).nox := ⟨_, rfl⟩
  try rw [<- gX']
  clear gX'
  refine .inl ⟨_, rfl, v, t, rfl, iv, qt, fun l H1 s1 hl => ⟨l, rfl, ⟨_, SqL.of hl⟩, ?_⟩⟩
  have ln : (nmQ t).length <= 32 := Nat.le_trans (nmQ_len qt) (by decide)
  let num : Str -> Int := fun x => match lastN gs x with | some k => (k : Int) | none => -1
  have hnum : ∀ x (k : Nat), lastN gs x = some k -> num x = k := fun x k e => by show (match lastN gs x with | some k => (k : Int) | none => -1) = _; rw [e]
  refine ⟨fun i m zs H8 => Same H1 H8 /\ m + i = (nmQ t).length /\ i <= (nmQ t).length /\ zs = (((nmQ t).take i).map fun x => decide (num x ∈ gn)).map V.bl, ⟨(nmQ t).length, .refl _, rfl, Nat.zero_le _, rfl⟩, ?_⟩
  rintro i m zs H8 ⟨s8, hm, hi', rfl⟩
  refine ⟨line1 (by rw [List.length_map, List.length_map, List.length_take]; lia), ?_⟩
  by_cases hi : i < (nmQ t).length
  · have hyi : ((nmQ t).map V.str)[i]? = some (.str (nmQ t)[i]) := by rw [List.getElem?_map, List.getElem?_eq_getElem hi]; rfl
    refine .inr ⟨⟨_, _, SqL.of (s8 _ _ hl), hyi⟩, fun zc x H9 hy => ?_⟩
    obtain ⟨rfl, hx⟩ := hy
    have e2 := hx _ (SqL.of (s8 _ _ hl))
    rw [hyi] at e2
    cases e2
    refine gall ?_
    obtain ⟨k, hk, _⟩ := lastN_some (nt _ (List.getElem_mem hi))
    refine ⟨_, rfl, _, rfl, g, _, gs, k, rfl, gt.mono (s1.trans s8).tups, hk, fun H10 s10 => ?_⟩
    refine ⟨_, rfl, .inl ⟨go, _, rfl, .inl (SqL.of (s10 _ _ (s8 _ _ (s1 _ _ hgo)))), rfl, flat_ints gn, m - 1, by lia, s8.trans s10, by lia, by lia, ?_⟩⟩
    rw [List.take_add_one, List.getElem?_eq_getElem hi, List.map_append, List.map_append]
    show _ ++ [V.bl (inV (.int k) (gn.map V.int))] = _
    rw [inV_int, <- hnum _ k hk]
    rfl
  · refine .inl ⟨⟨_, SqL.of (s8 _ _ hl), by rw [List.length_map]; lia⟩, fun l8 hl8 => ⟨l8, _, rfl, SqL.of upd_same, ?_⟩⟩
    rw [List.take_of_length_le (by lia), List.all_map]
    refine fin _ _ ?_ (s1.trans (s8.trans (same_new hl8 _)))
    rw [List.all_eq_true]
    constructor
    · intro h x hx k hk
      have := of_decide_eq_true (h x hx)
      rwa [hnum x k hk] at this
    · intro h x hx
      obtain ⟨k, hk, _⟩ := lastN_some (nt x hx)
      refine decide_eq_true ?_
      rw [hnum x k hk]
      exact h x hx k hk
end
end K66
end
section
namespace K66
open PySem L2 Kn
noncomputable def lawP (gs : List Gen) (i : Nat) (g : List Int) (p : Qt × Qt) : Prop := (∃ fl, p.1 = .at fl (.var (nmG gs i))) /\ lastN gs (nmG gs i) = some i /\ Rdy gs (nmQ p.2) g
noncomputable def lawS (gs : List Gen) (i : Nat) (g : List Int) (t : Qt) : Prop := ∃ a b, t = .two "same" a b /\ ∃ p ∈ [(a, b), (b, a)], lawP gs i g p
theorem dQ_var {n : Nat} {u : Qt} {x : Str} (h : QW n u) : dQ u = Dt.tup [.str "var", .str x] ↔ u = .var x := by
  constructor
  · intro e
    have e' : dQL u = [.str "var", .str x] := by unfold dQ at e; injection e
    have hw : wdQ u = "var" := by cases u <;> first | rfl | (simp only [dQL, List.cons.injEq, Dt.str.injEq] at e'; exact e'.1)
    obtain ⟨y, rfl⟩ := var_of_wd h hw
    simp only [dQL, List.cons.injEq, Dt.str.injEq, and_true, true_and] at e'
    rw [e']
  · rintro rfl; rfl
section
variable {P : Program} {w : World} {K : PySem.W.Frag} {mg : Str -> Option Value} {base : Heap} {f f_names f_last f_ready f_lsought : Addr} {fd fd_names fd_last fd_ready fd_lsought : FuncData}
theorem sc__law_sought : FnScope ["gens", "claim", "i", "gone", "one", "other"] ["gens", "claim", "i", "gone"] (defScope (top 29)) := ⟨rfl, rfl, rfl, by decide +kernel, rfl, by decide +kernel, by decide +kernel⟩
noncomputable def spLS : Sp := fun vs H Q _ => ∃ (g go : Addr) (v : V) (gs : List Gen) (t : Qt) (gn : List Int) (i : Nat), vs = [.ref g, v, .int i, .ref go] /\ GT H g gs /\ IsDt H (dQ t) v /\ QW 5 t /\ (∀ x ∈ nmQ t, x ∈ gs.map (·.1)) /\ i < gs.length /\ H go = some (.lst (gn.map V.int)) /\
  ∀ (r : Bool) (H' : Hp), (r = true ↔ lawS gs i gn t) -> Same H H' -> Q (.bl r) H'
theorem ok_ls (T : Tx mg) (D : Df K mg "_law_sought" (top 29) f fd ["gens", "claim", "i", "gone"]) (D__law_ready : Df K mg "_law_ready" (top 28) f_ready fd_ready ["gens", "question", "gone"]) (G__law_ready : FnOk P w K mg base CX0 7 f_ready fd_ready ["gens", "question", "gone"] spReady)
    (D__law_last : Df K mg "_law_last" (top 27) f_last fd_last ["gens", "name"]) (G__law_last : FnOk P w K mg base CX0 1 f_last fd_last ["gens", "name"] spLast) : FnOk P w K mg base CX0 8 f fd ["gens", "claim", "i", "gone"] spLS := by
  refine D.fn.okH sc__law_sought (fun vs H Q E h => ?_) (fun cdv A outer s H vs Q E hr h => ?_)
  · obtain ⟨g, go, v, gs, t, gn, i, rfl, _⟩ := h; rfl
  obtain ⟨g, go, v, gs, t, gn, i, rfl, gt, iv, qt, nt, hi, hgo, fin⟩ := h
  have hu := u110 hr
  have hu0 := u0 hr
  have hu1 := hu_of hr
  refine ⟨_, (wss_cons (ws_if (wt_cmpR (op_neU hu) (we_ix (ix_U hu1) (wv 1) we_int (fun _ _ => rfl)) we_str (nomark _)) (wss_one (ws_ret we_bl)) wss_nil)
      (wss_cons (ws_for PassesOwn.never rfl (wi_U (we_lst (wa_cons (we_tup (wa_cons (we_ix (ix_U hu1) (wv 1) we_int (fun _ _ => rfl)) (wa_cons (we_ix (ix_U hu1) (wv 1) we_int (fun _ _ => rfl)) wa_nil))) (wa_cons (we_tup (wa_cons (we_ix (ix_U hu1) (wv 1) we_int (fun _ _ => rfl)) (wa_cons (we_ix (ix_U hu1) (wv 1) we_int (fun _ _ => rfl)) wa_nil))) wa_nil)))) (wg_tup rfl (wgs_cons (wg_name (i := 4) sc__law_sought.nd rfl (Or.inl rfl)) (wgs_cons (wg_name (i := 5) sc__law_sought.nd rfl (Or.inl rfl)) wgs_nil))) (wss_one (ws_if (wt_pw (ww_and (wt_cmpR (op_eqU hu) (we_ix (ix_U hu1) (wv 4) we_int (fun _ _ => rfl)) we_str (nomark _)) (ww_and (wt_cmpR (op_eqU hu) (we_ix (ix_U hu1) (wv 4) we_int (fun _ _ => rfl)) (we_tup (wa_cons we_str (wa_cons (we_ix (ix_U hu1) (we_ix (ix_U hu1) (wv 0) (wv 2) (fun _ _ => rfl)) we_int (fun _ _ => rfl)) wa_nil))) (nomark _)) (ww_and1 (wt_cmpR (op_eqU hu) (we_call G__law_last (hr.mono (by lia)) rfl D__law_last.mg D__law_last.kp D__law_last.b .nil pass0 (wa_cons (wv 0) (wa_cons (we_ix (ix_U hu1) (we_ix (ix_U hu1) (wv 0) (wv 2) (fun _ _ => rfl)) we_int (fun _ _ => rfl)) wa_nil))) (wv 2) (nomark _)))))) (wss_one (ws_if (wt_val (we_call G__law_ready (hr.mono (by lia)) rfl D__law_ready.mg D__law_ready.kp D__law_ready.b .nil pass0 (wa_cons (wv 0) (wa_cons (wv 5) (wa_cons (wv 3) wa_nil))))) (wss_one (ws_ret we_bl)) wss_nil)) wss_nil)))
      (wss_one (ws_ret we_bl)))), ?_⟩
  obtain ⟨X', gX'⟩ : ∃ X', X' = (cxOf CX0 P w K mg base ["gens", "claim", "i", "gone", "one", "other"] "_law_sought" (defScope (top 29)) f cdv A outer s H E).nox := ⟨_, rfl⟩
  try rw [<- gX']
  clear gX'
  have iv' := iv
  obtain ⟨ca, xs, rfl, hca, hxs⟩ := q_at iv
  refine ⟨_, rfl, (ixt (v := .str (wdQ t)) (SqT.of hca) (wd0 hca) (.inl ⟨rfl, _, rfl, ?_⟩))⟩
  by_cases hw : wdQ t = "same"
  · obtain ⟨qa, qb, rfl⟩ := same_of qt hw
    obtain ⟨ca', u1, u2, e2, hca', iu1, iu2⟩ := q_two iv'
    cases e2
    refine iteN (by rw [hw]; decide) ?_
    have x1 : atI [V.str "same", u1, u2] 1 = some u1 := rfl
    have x2 : atI [V.str "same", u1, u2] 2 = some u2 := rfl
    refine .inl ⟨_, rfl, (ixt (v := u1) (SqT.of hca') x1 ⟨_, rfl, (ixt (v := u2) (SqT.of hca') x2 ⟨(by show 2 <= sizeLine; decide), fun p1 hp1 => ?_⟩)⟩)⟩
    have s2 := same_new hp1 (.tup [u1, u2])
    refine ⟨_, rfl, (ixt (v := u2) (SqT.of (s2 _ _ hca')) x2 ⟨_, rfl, (ixt (v := u1) (SqT.of (s2 _ _ hca')) x1 ⟨(by show 2 <= sizeLine; decide), fun p2 hp2 => ⟨(by show 2 <= sizeLine; decide), fun tt htt => ?_⟩⟩)⟩)⟩
    have s3 := s2.trans ((same_new hp2 (.tup [u2, u1])).trans (same_new htt (.lst [.ref p1, .ref p2])))
    have hp1' : (upd (upd (upd H p1 (.tup [u1, u2])) p2 (.tup [u2, u1])) tt (.lst [.ref p1, .ref p2])) p1 = some (.tup [u1, u2]) := same_new htt _ _ _ (same_new hp2 _ _ _ upd_same)
    have hp2' : (upd (upd (upd H p1 (.tup [u1, u2])) p2 (.tup [u2, u1])) tt (.lst [.ref p1, .ref p2])) p2 = some (.tup [u2, u1]) := same_new htt _ _ _ upd_same
    have htt' : (upd (upd (upd H p1 (.tup [u1, u2])) p2 (.tup [u2, u1])) tt (.lst [.ref p1, .ref p2])) tt = some (.lst [.ref p1, .ref p2]) := upd_same
    generalize upd (upd (upd H p1 (.tup [u1, u2])) p2 (.tup [u2, u1])) tt (.lst [.ref p1, .ref p2]) = H2 at s3 hp1' hp2' htt' ⊢
    have na : ∀ x ∈ nmQ qa, x ∈ gs.map (·.1) := fun x hx => nt x (List.mem_append_left _ hx)
    have nb : ∀ x ∈ nmQ qb, x ∈ gs.map (·.1) := fun x hx => nt x (List.mem_append_right _ hx)
    have items : ∀ k, k < 2 -> ∃ (pk : Addr) (v1 v2 : V) (o : Qt × Qt), [V.ref p1, .ref p2][k]? = some (.ref pk) /\ [(qa, qb), (qb, qa)][k]? = some o /\ H2 pk = some (.tup [v1, v2]) /\ IsDt H2 (dQ o.1) v1 /\ IsDt H2 (dQ o.2) v2 /\ QW 4 o.1 /\ QW 4 o.2 /\ (∀ x ∈ nmQ o.2, x ∈ gs.map (·.1)) := by
      intro k hk
      match k, hk with
      | 0, _ => exact ⟨p1, u1, u2, (qa, qb), rfl, rfl, hp1', IsDt.mono s3.tups iu1, IsDt.mono s3.tups iu2, qt.2.1, qt.2.2, nb⟩
      | 1, _ => exact ⟨p2, u2, u1, (qb, qa), rfl, rfl, hp2', IsDt.mono s3.tups iu2, IsDt.mono s3.tups iu1, qt.2.2, qt.2.1, na⟩
    have hS : lawS gs i gn (.two "same" qa qb) ↔ ∃ p ∈ [(qa, qb), (qb, qa)], lawP gs i gn p := by
      constructor
      · rintro ⟨a, b, e, h⟩
        injection e with _ e1 e2
        subst e1 e2
        exact h
      · exact fun h => ⟨qa, qb, rfl, h⟩
    generalize hPL : [(qa, qb), (qb, qa)] = PL at items hS
    have lPL : PL.length = 2 := by rw [<- hPL]; rfl
    refine ⟨tt, rfl, ⟨_, SqL.of htt'⟩, ?_⟩
    refine ⟨fun k m σ H' => m + k = 2 /\ k <= 2 /\ Same H2 H' /\ (∀ p ∈ PL.take k, ¬ lawP gs i gn p) /\ ∃ o4 o5, σ = [some (.ref g), some (.ref ca), some (.int i), some (.ref go), o4, o5], ⟨2, rfl, Nat.zero_le _, .refl _, fun p hp => (nomatch hp), none, none, rfl⟩, ?_⟩
    rintro k m σ H3 ⟨hm, hk2, s4, hno, o4, o5, rfl⟩
    by_cases hk : k < 2
    · obtain ⟨pk, v1, v2, o, ep, eo, hpk, iv1, iv2, qo1, qo2, no2⟩ := items k hk
      refine .inr (for_hide (⟨_, _, SqL.of (s4 _ _ htt'), ep⟩) (fun σ' H' => (m - 1) + (k + 1) = 2 /\ k + 1 <= 2 /\ Same H2 H' /\ (∀ p ∈ PL.take (k + 1), ¬ lawP gs i gn p) /\ ∃ o4 o5, σ' = [some (.ref g), some (.ref ca), some (.int i), some (.ref go), o4, o5]) (fun σ' H' hW => ⟨m - 1, by lia, hW⟩) fun E' toN _ toR _ => ?_)
      intro x H4 hy
      obtain ⟨rfl, hx⟩ := hy
      have e5 := hx _ (SqL.of (s4 _ _ htt'))
      rw [ep] at e5
      cases e5
      have next : ∀ H5, Same H4 H5 -> ¬ lawP gs i gn o -> (m - 1) + (k + 1) = 2 /\ k + 1 <= 2 /\ Same H2 H5 /\ (∀ p ∈ PL.take (k + 1), ¬ lawP gs i gn p) /\ ∃ o4 o5, [some (V.ref g), some (.ref ca), some (.int i), some (.ref go), some v1, some v2] = [some (V.ref g), some (.ref ca), some (.int i), some (.ref go), o4, o5] := fun H5 s5 hn => by
        refine ⟨by lia, by lia, s4.trans s5, fun p hp => ?_, _, _, rfl⟩
        rw [List.take_add_one, eo] at hp
        rcases List.mem_append.mp hp with h | h
        · exact hno p h
        · have : p = o := by simpa using h
          rw [this]; exact hn
      have iv1' := IsDt.mono s4.tups iv1
      have iv1'' := iv1'
      obtain ⟨a1, ys, rfl, ha1, hys⟩ := q_at iv1'
      refine ⟨pk, _, rfl, SqT.of (s4 _ _ hpk), rfl, _, _, rfl, _, _, rfl, rfl, ?_⟩
      refine ⟨_, rfl, (ixt (v := .str (wdQ o.1)) (SqT.of ha1) (wd0 ha1) (.inl ⟨rfl, _, rfl, ?_⟩))⟩
      by_cases ha : wdQ o.1 = "at"
      · obtain ⟨fl, u, eat⟩ := at_of_wd qo1 ha
        rw [eat] at iv1''
        obtain ⟨a1', uu, e6, ha1', iuu⟩ := q_atf iv1''
        cases e6
        refine iteP (by rw [ha]; exact veq) ?_
        obtain ⟨gus, hg, ig, lg⟩ := gt.mono (s3.trans s4).tups
        obtain ⟨cg, eg, hcg⟩ := gen_at ig hi
        have qu : QW 3 u := by rw [eat] at qo1; exact qo1
        refine ⟨_, rfl, (ixt (v := uu) (SqT.of ha1') rfl ⟨_, rfl, _, rfl, (ixt (SqT.of hg) (atI_nat eg) ((ixt (SqT.of hcg) rfl ⟨(by show 2 <= sizeLine; decide), fun q7 hq7 => ?_⟩)))⟩)⟩
        have s7 := same_new hq7 (.tup [.str "var", .str (nmG gs i)])
        refine .inr ⟨dQ u, dQ (.var (nmG gs i)), IsDt.mono s7.tups iuu, isQ_var upd_same, ?_, _, rfl, ?_⟩
        · have := QW.dep qu
          show (Dt.tup (dQL u)).dep <= depMax
          simp only [Dt.dep]
          unfold depMax
          lia
        generalize upd H4 q7 (.tup [.str "var", .str (nmG gs i)]) = H7 at s7 ⊢
        by_cases hu7 : u = .var (nmG gs i)
        · refine iteP (decide_eq_true (by rw [hu7])) ?_
          obtain ⟨kk, hkk, _⟩ := lastN_some (gs := gs) (x := nmG gs i) (List.mem_map.mpr ⟨gs[i], List.getElem_mem hi, by unfold nmG; rw [List.getD_eq_getElem?_getD, List.getElem?_eq_getElem hi]; rfl⟩)
          refine ⟨_, rfl, _, rfl, _, rfl, (ixt (SqT.of (s7 _ _ hg)) (atI_nat eg) ((ixt (SqT.of (s7 _ _ hcg)) rfl ⟨g, _, gs, kk, rfl, ⟨gus, s7 _ _ hg, IsDts.mono s7.tups ig, lg⟩, hkk, fun H8 s8 => ⟨_, rfl, .inl ⟨rfl, _, rfl, ?_⟩⟩⟩)))⟩
          have s8' := s7.trans s8
          by_cases hkk' : kk = i
          · refine iteP (decide_eq_true (by rw [hkk'])) ?_
            refine ⟨_, rfl, _, rfl, _, rfl, g, go, v2, gs, o.2, gn, rfl, ⟨gus, s8' _ _ hg, IsDts.mono s8'.tups ig, lg⟩, IsDt.mono s8'.tups (IsDt.mono s4.tups iv2), qo2.up, no2, s8' _ _ (s4 _ _ (s3 _ _ hgo)), fun r H9 hr9 s9 => ⟨_, rfl, ?_⟩⟩
            cases r with
            | true =>
              refine iteP rfl ?_
              refine toR _ _ (fin true _ ?_ (s3.trans (s4.trans (s8'.trans s9))))
              simp only [true_iff]
              refine hS.mpr ⟨o, List.mem_of_getElem? eo, ⟨fl, by rw [eat, hu7]⟩, by rw [hkk, hkk'], hr9.mp rfl⟩
            | false =>
              refine iteN (by decide) ?_
              exact toN _ _ <| next _ (s8'.trans s9) fun h => absurd (hr9.mpr h.2.2) (by decide)
          · refine iteN (fun z => hkk' (by have := of_decide_eq_true z; injection this with this; lia)) ?_
            exact toN _ _ <| next _ s8' fun h => hkk' (by have := h.2.1; rw [hkk] at this; injection this)
        · refine iteN (fun z => hu7 ((dQ_var qu).mp (of_decide_eq_true z))) ?_
          refine toN _ _ <| next _ s7 fun h => hu7 ?_
          obtain ⟨fl', e'⟩ := h.1
          rw [eat] at e'
          injection e'
      · refine iteN (vne ha) ?_
        refine toN _ _ <| next _ (.refl _) fun h => ha ?_
        obtain ⟨fl', e'⟩ := h.1
        rw [e']; rfl
    · refine .inl ⟨⟨_, SqL.of (s4 _ _ htt'), by simp; lia⟩, ?_⟩
      refine fin false _ ?_ (s3.trans s4)
      simp only [Bool.false_eq_true, false_iff]
      intro h
      obtain ⟨p, hp, hl⟩ := hS.mp h
      rw [List.take_of_length_le (by lia)] at hno
      exact hno p hp hl
  · refine iteP (by rw [decide_eq_false (fun z => hw (by injection z))]; rfl) ?_
    refine fin false _ ?_ (.refl _)
    simp only [Bool.false_eq_true, false_iff]
    rintro ⟨a, b, rfl, _⟩
    exact hw rfl
end
end K66
end
section
namespace K66
open PySem L2 Kn
noncomputable def okL (gs : List Gen) (cs : List Qt) (g d : List Int) : Stp -> Prop
  | .go i => i < gs.length /\ (i : Int) ∉ g
  | .ask j => ∃ t, cs[j]? = some t /\ (j : Int) ∉ d /\ Rdy gs (nmQ t) g
  | .seek i j => i < gs.length /\ (i : Int) ∉ g /\ ∃ t, cs[j]? = some t /\ (j : Int) ∉ d /\ lawS gs i g t
noncomputable def stS (s : Stp) : Dt := stD s.st
noncomputable def At0 (i : Nat) : Stp -> Prop
  | .go i' => i' < i
  | _ => False
noncomputable def At1 (j : Nat) : Stp -> Prop
  | .go _ => True
  | .ask j' => j' < j
  | .seek _ j' => j' < j
noncomputable def At2 (j i : Nat) : Stp -> Prop
  | .go _ => True
  | .ask j' => j' < j + 1
  | .seek i' j' => j' < j \/ (j' = j /\ i' < i)
theorem mem_snoc {ss : List Stp} {ok A B : Stp -> Prop} {s0 : Stp} (h : ∀ s, s ∈ ss ↔ ok s /\ A s) (o : ok s0) (b : ∀ s, B s ↔ A s \/ s = s0) : ∀ s, s ∈ ss ++ [s0] ↔ ok s /\ B s := fun s => by
  rw [List.mem_append, List.mem_singleton, h, b]
  constructor
  · rintro (h | rfl)
    · exact ⟨h.1, .inl h.2⟩
    · exact ⟨o, .inr rfl⟩
  · rintro ⟨h1, h | rfl⟩
    · exact .inl ⟨h1, h⟩
    · exact .inr rfl
theorem mem_skip {ss : List Stp} {ok A B : Stp -> Prop} {s0 : Stp} (h : ∀ s, s ∈ ss ↔ ok s /\ A s) (o : ¬ ok s0) (b : ∀ s, B s ↔ A s \/ s = s0) : ∀ s, s ∈ ss ↔ ok s /\ B s := fun s => by
  rw [h, b]
  constructor
  · exact fun h => ⟨h.1, .inl h.2⟩
  · rintro ⟨h1, h | rfl⟩
    · exact ⟨h1, h⟩
    · exact absurd h1 o
theorem mem_same {ss : List Stp} {ok A B : Stp -> Prop} (h : ∀ s, s ∈ ss ↔ ok s /\ A s) (b : ∀ s, ok s -> (B s ↔ A s)) : ∀ s, s ∈ ss ↔ ok s /\ B s := fun s => by
  rw [h]
  exact ⟨fun h => ⟨h.1, (b s h.1).mpr h.2⟩, fun h => ⟨h.1, (b s h.1).mp h.2⟩⟩
theorem at0_step (i : Nat) (s : Stp) : At0 (i + 1) s ↔ At0 i s \/ s = .go i := by
  cases s <;> simp [At0]; lia
theorem at2_ask (j : Nat) (s : Stp) : At2 j 0 s ↔ At1 j s \/ s = .ask j := by
  cases s <;> simp [At2, At1]; lia
theorem at2_seek (j i : Nat) (s : Stp) : At2 j (i + 1) s ↔ At2 j i s \/ s = .seek i j := by
  cases s <;> simp [At2]; lia
theorem at1_done {gs : List Gen} {cs : List Qt} {g d : List Int} (j : Nat) (s : Stp) (o : okL gs cs g d s) : At1 (j + 1) s ↔ At2 j gs.length s := by
  cases s with
  | go i => simp [At1, At2]
  | ask i => simp [At1, At2]
  | seek i k => have := o.1; simp only [At1, At2]; lia
theorem at1_zero {gs : List Gen} {cs : List Qt} {g d : List Int} (s : Stp) (o : okL gs cs g d s) : At1 0 s ↔ At0 gs.length s := by
  cases s with
  | go i => have := o.1; simp [At1, At0]; lia
  | ask i => simp [At1, At0]
  | seek i k => simp [At1, At0]
theorem at1_end {gs : List Gen} {cs : List Qt} {g d : List Int} (s : Stp) (o : okL gs cs g d s) : True ↔ At1 cs.length s := by
  cases s with
  | go i => simp [At1]
  | ask i => obtain ⟨t, e, _⟩ := o; have := (List.getElem?_eq_some_iff.mp e).1; simp [At1]; lia
  | seek i k => obtain ⟨_, _, t, e, _⟩ := o; have := (List.getElem?_eq_some_iff.mp e).1; simp [At1]; lia
theorem notIn_int (n : Int) (l : List Int) : (!inV (.int n) (l.map V.int)) = true ↔ n ∉ l := by rw [inV_int]; simp
noncomputable def SL (H : Hp) (l : Addr) (ss : List Stp) : Prop := ∃ us, H l = some (.lst us) /\ IsDts H (ss.map stS) us
theorem st_go {H : Hp} {a : Addr} {i : Nat} (h : H a = some (.tup [.str "go", .int i])) : IsDt H (stS (.go i)) (.ref a) := st_is (s := Stp.st (.go i)) h
theorem st_ask {H : Hp} {a : Addr} {i : Nat} (h : H a = some (.tup [.str "ask", .int i])) : IsDt H (stS (.ask i)) (.ref a) := st_is (s := Stp.st (.ask i)) h
theorem st_seek {H : Hp} {a : Addr} {i j : Nat} (h : H a = some (.tup [.str "seek", .int i, .int j])) : IsDt H (stS (.seek i j)) (.ref a) := st_is (s := Stp.st (.seek i j)) h
theorem SL.add {H H' : Hp} {l q : Addr} {ss : List Stp} {s : Stp} {us : List V} (h : IsDts H (ss.map stS) us) (t : Tups H H') (hl : H' l = some (.lst us)) (i : IsDt H' (stS s) (.ref q)) : SL (upd H' l (.lst (us ++ [.ref q]))) l (ss ++ [s]) := by
  have t8 : Tups H' (upd H' l (.lst (us ++ [.ref q]))) := Tups.lst hl
  refine ⟨_, upd_same, ?_⟩
  rw [List.map_append]
  exact IsDts.append (IsDts.mono t8 (IsDts.mono t h)) (.cons (IsDt.mono t8 i) .nil)
section
variable {P : Program} {w : World} {K : PySem.W.Frag} {mg : Str -> Option Value} {base : Heap} {f f_ready f_lsought : Addr} {fd fd_ready fd_lsought : FuncData}
theorem sc__law_steps : FnScope ["branch", "gone", "done", "factor", "gens", "claims", "row", "found", "j", "i"] ["branch", "gone", "done"] (defScope (top 30)) := ⟨rfl, rfl, rfl, by decide +kernel, rfl, by decide +kernel, by decide +kernel⟩
noncomputable def spSteps : Sp := fun vs H Q _ => ∃ (b go dn : Addr) (gs : List Gen) (cs : List Qt) (g d : List Int), vs = [.ref b, .ref go, .ref dn] /\ Br H b gs cs /\ H go = some (.lst (g.map V.int)) /\ H dn = some (.lst (d.map V.int)) /\
  ∀ (l : Addr) (ss : List Stp) (H' : Hp), Same H H' -> H l = none -> SL H' l ss -> (∀ s, s ∈ ss ↔ okL gs cs g d s) -> ss.length <= 24 -> Q (.ref l) H'
theorem ok_steps (T : Tx mg) (D : Df K mg "_law_steps" (top 30) f fd ["branch", "gone", "done"]) (D__law_ready : Df K mg "_law_ready" (top 28) f_ready fd_ready ["gens", "question", "gone"]) (G__law_ready : FnOk P w K mg base CX0 7 f_ready fd_ready ["gens", "question", "gone"] spReady)
    (D__law_sought : Df K mg "_law_sought" (top 29) f_lsought fd_lsought ["gens", "claim", "i", "gone"]) (G__law_sought : FnOk P w K mg base CX0 8 f_lsought fd_lsought ["gens", "claim", "i", "gone"] spLS) : FnOk P w K mg base CX0 9 f fd ["branch", "gone", "done"] spSteps := by
  refine D.fn.okH sc__law_steps (fun vs H Q E h => ?_) (fun cdv A outer s H vs Q E hr h => ?_)
  · obtain ⟨b, go, dn, gs, cs, g, d, rfl, _⟩ := h; rfl
  obtain ⟨b, go, dn, gs, cs, g, d, rfl, ⟨ff, ga, ca, row, gus, cus, hb, hg, ig, hc, ic, lg, lc, cok⟩, hgo, hdn, fin⟩ := h
  have hu := u110 hr
  have hu0 := u0 hr
  have hu1 := hu_of hr
  refine ⟨_, (wss_cons (ws_asg (wv 0) (wg_tup rfl (wgs_cons (wg_name (i := 3) sc__law_steps.nd rfl (Or.inl rfl)) (wgs_cons (wg_name (i := 4) sc__law_steps.nd rfl (Or.inl rfl)) (wgs_cons (wg_name (i := 5) sc__law_steps.nd rfl (Or.inl rfl)) (wgs_cons (wg_name (i := 6) sc__law_steps.nd rfl (Or.inl rfl)) wgs_nil))))))
      (wss_cons (ws_lc (j := 7) (hN := sc__law_steps.nd) (hj := rfl) (hy := (Or.inl rfl)) (Nt := ["i"]) (fr := [("gone", 1)]) (LcOk.of (sc := defScope (top 30)) (N := ["branch", "gone", "done", "factor", "gens", "claims", "row", "found", "j", "i"]) rfl rfl (by decide +kernel)) rfl (wi_range1 rfl T.z_range (wa_cons (we_callB call_lenU rfl T.z_len bt_len (wa_cons (wv 4) wa_nil)) wa_nil)) (fun z => wg_name (i := 0) (by show (["i", "gone"] : List Str).Nodup; decide +kernel) rfl (Or.inl rfl) (.inr rfl)) (fun z => tgt_name (by decide)) (fun z => wif_one (wt_cmpR (op_notInU hu) (wv 0) (wv 1) (by with_unfolding_all rfl))) (fun z => (we_tup (wa_cons we_str (wa_cons (wv 0) wa_nil)))))
      (wss_cons (ws_for PassesOwn.never rfl (wi_range1 rfl T.z_range (wa_cons (we_callB call_lenU rfl T.z_len bt_len (wa_cons (wv 5) wa_nil)) wa_nil)) (wg_name (i := 8) sc__law_steps.nd rfl (Or.inl rfl)) (wss_cons (ws_if (wt_pw (ww_and (wt_cmpR (op_notInU hu) (wv 8) (wv 2) (by with_unfolding_all rfl)) (ww_and1 (wt_val (we_call G__law_ready (hr.mono (by lia)) rfl D__law_ready.mg D__law_ready.kp D__law_ready.b .nil pass0 (wa_cons (wv 4) (wa_cons (we_ix (ix_U hu1) (wv 5) (wv 8) (fun _ _ => rfl)) (wa_cons (wv 1) wa_nil)))))))) (wss_one (ws_expr (we_bm PySem.F.plainAttrs_list PySem.F.slot_list_append PySem.F.type_list_append mt_append (wv 7) (wa_cons (we_tup (wa_cons we_str (wa_cons (wv 8) wa_nil))) wa_nil)))) wss_nil)
      (wss_one (ws_for PassesOwn.never rfl (wi_range1 rfl T.z_range (wa_cons (we_callB call_lenU rfl T.z_len bt_len (wa_cons (wv 4) wa_nil)) wa_nil)) (wg_name (i := 9) sc__law_steps.nd rfl (Or.inl rfl)) (wss_one (ws_if (wt_pw (ww_and (wt_cmpR (op_notInU hu) (wv 8) (wv 2) (by with_unfolding_all rfl)) (ww_and (wt_cmpR (op_notInU hu) (wv 9) (wv 1) (by with_unfolding_all rfl)) (ww_and1 (wt_val (we_call G__law_sought (hr.mono (by lia)) rfl D__law_sought.mg D__law_sought.kp D__law_sought.b .nil pass0 (wa_cons (wv 4) (wa_cons (we_ix (ix_U hu1) (wv 5) (wv 8) (fun _ _ => rfl)) (wa_cons (wv 9) (wa_cons (wv 1) wa_nil)))))))))) (wss_one (ws_expr (we_bm PySem.F.plainAttrs_list PySem.F.slot_list_append PySem.F.type_list_append mt_append (wv 7) (wa_cons (we_tup (wa_cons we_str (wa_cons (wv 9) (wa_cons (wv 8) wa_nil)))) wa_nil)))) wss_nil))))))
      (wss_one (ws_ret (wv 7)))))), ?_⟩
  obtain ⟨X', gX'⟩ : ∃ X', X' = (cxOf CX0 P w K mg base ["branch", "gone", "done", "factor", "gens", "claims", "row", "found", "j", "i"] "_law_steps" (defScope (top 30)) f cdv A outer s H E).nox := ⟨_, rfl⟩
  try rw [<- gX']
  clear gX'
  have lgu : gus.length = gs.length := by rw [ig.length, List.length_map]
  have lcu : cus.length = cs.length := by rw [ic.length, List.length_map]
  have gt : GT H ga gs := ⟨gus, hg, ig, lg⟩
  refine ⟨_, rfl, b, _, rfl, SqT.of hb, rfl, _, _, rfl, _, _, rfl, _, _, rfl, _, _, rfl, rfl, ?_⟩
  refine ⟨_, rfl, .inl ⟨ga, _, rfl, .inr (SqT.of hg), gus.length, rfl, by lia, by lia, ?_⟩⟩
  refine ⟨fun i m zs H8 => ∃ ss : List Stp, Same H H8 /\ m + i = gs.length /\ i <= gs.length /\ IsDts H8 (ss.map stS) zs /\ (∀ s, s ∈ ss ↔ okL gs cs g d s /\ At0 i s) /\ ss.length <= i, ⟨gs.length, [], .refl _, rfl, Nat.zero_le _, .nil, fun s => ⟨fun h => (nomatch h), fun h => by cases s <;> simp [At0] at h⟩, Nat.le_refl _⟩, ?_⟩
  rintro i m zs H8 ⟨ss, s8, hm, hi', iz, mem, ls⟩
  have lz : zs.length = ss.length := by rw [iz.length, List.length_map]
  refine ⟨line1 (by lia), ?_⟩
  by_cases hi : i < gs.length
  · refine .inr ⟨by show i < Int.toNat _; lia, fun zc y H9 hy => ?_⟩
    obtain ⟨rfl, rfl⟩ := hy
    have ei : (0 : Int) + (i : Int) = (i : Int) := by lia
    rw [ei]
    refine ⟨_, rfl, _, rfl, .inl ⟨go, _, rfl, .inl (SqL.of (s8 _ _ hgo)), rfl, flat_ints g, _, rfl, ?_⟩⟩
    refine ite2 (fun e => ?_) (fun e => ?_)
    · have hin : (i : Int) ∉ g := (notIn_int _ _).mp e
      refine ⟨_, rfl, (by show 2 <= sizeLine; decide), fun q hq => ?_⟩
      have s9 := same_new hq (.tup [.str "go", .int i])
      refine ⟨m - 1, by lia, ss ++ [.go i], s8.trans s9, by lia, by lia, ?_, mem_snoc (s0 := .go i) mem ⟨hi, hin⟩ (at0_step i), by rw [List.length_append]; exact Nat.succ_le_succ ls⟩
      rw [List.map_append]
      exact IsDts.append (IsDts.mono s9.tups iz) (.cons (st_go upd_same) .nil)
    · have hin : ¬ (i : Int) ∉ g := fun z => e ((notIn_int _ _).mpr z)
      exact ⟨m - 1, by lia, ss, s8, by lia, by lia, iz, mem_skip (s0 := .go i) mem (fun o => hin o.2) (at0_step i), by lia⟩
  refine .inl ⟨by show Int.toNat _ <= i; lia, fun fl hfl => ?_⟩
  obtain rfl : i = gs.length := by lia
  have flH := same_back s8 hfl
  have s9 := s8.trans (same_new hfl (.lst zs))
  have sl9 : SL (upd H8 fl (.lst zs)) fl ss := ⟨zs, upd_same, IsDts.mono (same_new hfl _).tups iz⟩
  generalize upd H8 fl (.lst zs) = H9 at s9 sl9 ⊢
  refine ⟨_, rfl, .inl ⟨ca, _, rfl, .inr (SqT.of (s9 _ _ hc)), cus.length, rfl, by lia, by lia, ?_⟩⟩
  refine for_rangeH (n := Int.toNat (cus.length : Int)) (fun j σ H' => ∃ (o8 o9 : Option V) (ss : List Stp), σ = [some (.ref b), some (.ref go), some (.ref dn), some (.int ff), some (.ref ga), some (.ref ca), some row, some (.ref fl), o8, o9] /\ Same H H' /\ SL H' fl ss /\ (∀ s, s ∈ ss ↔ okL gs cs g d s /\ At1 j s) /\ ss.length <= 4 + 5 * j)
    ⟨none, none, ss, rfl, s9, sl9, mem_same mem (fun s o => at1_zero s o), by lia⟩ ?_ ?_
  · rintro E' j σ H1 hj ⟨o8, o9, ss, rfl, s1, ⟨us, hfl1, iu1⟩, mem, ls⟩ toN
    have hj' : j < cs.length := by lia
    have ej : (0 : Int) + (j : Int) = (j : Int) := by lia
    rw [ej]
    obtain ⟨cv, ec, icv⟩ := ic.get (i := j) (d := dQ cs[j]) (by rw [List.getElem?_map, List.getElem?_eq_getElem hj']; rfl)
    have cj := cok _ (List.getElem_mem hj')
    have ecs : cs[j]? = some cs[j] := List.getElem?_eq_getElem hj'
    generalize cs[j] = t at icv cj ecs
    have lus1 : us.length = ss.length := by rw [iu1.length, List.length_map]
    dsimp only [gName]
    refine join_seq (fun σ H' => ∃ ss : List Stp, σ = [some (.ref b), some (.ref go), some (.ref dn), some (.int ff), some (.ref ga), some (.ref ca), some row, some (.ref fl), some (.int j), o9] /\ Same H H' /\ SL H' fl ss /\ (∀ s, s ∈ ss ↔ okL gs cs g d s /\ At2 j 0 s) /\ ss.length <= 5 + 5 * j) ?tl fun Kt tail => ?mn
    case mn =>
      refine ⟨_, rfl, _, rfl, .inl ⟨dn, _, rfl, .inl (SqL.of (s1 _ _ hdn)), rfl, flat_ints d, _, rfl, ?_⟩⟩
      refine ite2 (fun e => ?_) (fun e => ?_)
      · have hjn : (j : Int) ∉ d := (notIn_int _ _).mp e
        refine ⟨_, rfl, _, rfl, _, rfl, (ixt (v := cv) (SqT.of (s1 _ _ hc)) (atI_nat ec) ⟨_, rfl, ga, go, cv, gs, t, g, rfl, gt.mono s1.tups, IsDt.mono s1.tups icv, cj.1, cj.2, s1 _ _ hgo, fun r H2 hr2 s2 => ⟨_, rfl, ?_⟩⟩)⟩
        cases r with
        | true =>
          refine iteP rfl ?_
          refine ⟨_, rfl, .inl ⟨rfl, _, SqL.of (s2 _ _ hfl1)⟩, _, rfl, (by show 2 <= sizeLine; decide), fun q hq => ?_⟩
          have s3 := s2.trans (same_new hq (.tup [.str "ask", .int j]))
          refine ⟨fl, _, _, rfl, rfl, s3 _ _ hfl1, line1 (by lia), ?_⟩
          exact tail _ _ ⟨ss ++ [.ask j], rfl, fun z o e => by rw [upd_ne (ne_of_none e flH)]; exact s3 _ _ (s1 _ _ e), SL.add iu1 s3.tups (s3 _ _ hfl1) (st_ask upd_same), mem_snoc (s0 := .ask j) mem ⟨t, ecs, hjn, hr2.mp rfl⟩ (at2_ask j), by rw [List.length_append]; show _ + 1 <= _; lia⟩
        | false =>
          refine iteN (by decide) ?_
          refine tail _ _ ⟨ss, rfl, s1.trans s2, ⟨us, s2 _ _ hfl1, IsDts.mono s2.tups iu1⟩, mem_skip (s0 := .ask j) mem (fun o => ?_) (at2_ask j), by lia⟩
          obtain ⟨t', e', _, rd⟩ := o
          rw [ecs] at e'
          cases e'
          exact absurd (hr2.mpr rd) (by decide)
      · have hjn : ¬ (j : Int) ∉ d := fun z => e ((notIn_int _ _).mpr z)
        refine tail _ _ ⟨ss, rfl, s1, ⟨us, hfl1, iu1⟩, mem_skip (s0 := .ask j) mem (fun o => ?_) (at2_ask j), by lia⟩
        obtain ⟨t', e', h', _⟩ := o
        exact hjn h'
    case tl =>
      rintro σ H2 ⟨ss2, rfl, s2, sl2, mem2, ls2⟩
      refine ⟨_, rfl, .inl ⟨ga, _, rfl, .inr (SqT.of (s2 _ _ hg)), gus.length, rfl, by lia, by lia, ?_⟩⟩
      refine for_rangeH (n := Int.toNat (gus.length : Int)) (fun i σ H' => ∃ (o9 : Option V) (ss : List Stp), σ = [some (.ref b), some (.ref go), some (.ref dn), some (.int ff), some (.ref ga), some (.ref ca), some row, some (.ref fl), some (.int j), o9] /\ Same H H' /\ SL H' fl ss /\ (∀ s, s ∈ ss ↔ okL gs cs g d s /\ At2 j i s) /\ ss.length <= 5 + 5 * j + i)
        ⟨o9, ss2, rfl, s2, sl2, mem2, by lia⟩ ?_ ?_
      · rintro E2 i σ H3 hi ⟨o9', ss3, rfl, s3, ⟨us3, hfl3, iu3⟩, mem3, ls3⟩ toN2
        have hi' : i < gs.length := by lia
        have ei : (0 : Int) + (i : Int) = (i : Int) := by lia
        rw [ei]
        have lus3 : us3.length = ss3.length := by rw [iu3.length, List.length_map]
        refine ⟨_, rfl, _, rfl, .inl ⟨dn, _, rfl, .inl (SqL.of (s3 _ _ hdn)), rfl, flat_ints d, _, rfl, ?_⟩⟩
        refine ite2 (fun e => ?_) (fun e => ?_)
        · have hjn : (j : Int) ∉ d := (notIn_int _ _).mp e
          refine ⟨_, rfl, _, rfl, .inl ⟨go, _, rfl, .inl (SqL.of (s3 _ _ hgo)), rfl, flat_ints g, _, rfl, ?_⟩⟩
          refine ite2 (fun e => ?_) (fun e => ?_)
          · have hin : (i : Int) ∉ g := (notIn_int _ _).mp e
            refine ⟨_, rfl, _, rfl, _, rfl, (ixt (v := cv) (SqT.of (s3 _ _ hc)) (atI_nat ec) ⟨_, rfl, _, rfl, ga, go, cv, gs, t, g, i, rfl, gt.mono s3.tups, IsDt.mono s3.tups icv, cj.1, cj.2, hi', s3 _ _ hgo, fun r H4 hr4 s4 => ⟨_, rfl, ?_⟩⟩)⟩
            cases r with
            | true =>
              refine iteP rfl ?_
              refine ⟨_, rfl, .inl ⟨rfl, _, SqL.of (s4 _ _ hfl3)⟩, _, rfl, _, rfl, (by show 3 <= sizeLine; decide), fun q hq => ?_⟩
              have s5 := s4.trans (same_new hq (.tup [.str "seek", .int i, .int j]))
              refine ⟨fl, _, _, rfl, rfl, s5 _ _ hfl3, line1 (by lia), ?_⟩
              exact toN2 _ _ ⟨_, ss3 ++ [.seek i j], rfl, fun z o e => by rw [upd_ne (ne_of_none e flH)]; exact s5 _ _ (s3 _ _ e), SL.add iu3 s5.tups (s5 _ _ hfl3) (st_seek upd_same), mem_snoc (s0 := .seek i j) mem3 ⟨hi', hin, t, ecs, hjn, hr4.mp rfl⟩ (at2_seek j i), by rw [List.length_append]; show _ + 1 <= _; lia⟩
            | false =>
              refine iteN (by decide) ?_
              refine toN2 _ _ ⟨_, ss3, rfl, s3.trans s4, ⟨us3, s4 _ _ hfl3, IsDts.mono s4.tups iu3⟩, mem_skip (s0 := .seek i j) mem3 (fun o => ?_) (at2_seek j i), by lia⟩
              obtain ⟨_, _, t', e', _, rd⟩ := o
              rw [ecs] at e'
              cases e'
              exact absurd (hr4.mpr rd) (by decide)
          · have hin : ¬ (i : Int) ∉ g := fun z => e ((notIn_int _ _).mpr z)
            exact toN2 _ _ ⟨_, ss3, rfl, s3, ⟨us3, hfl3, iu3⟩, mem_skip (s0 := .seek i j) mem3 (fun o => hin o.2.1) (at2_seek j i), by lia⟩
        · have hjn : ¬ (j : Int) ∉ d := fun z => e ((notIn_int _ _).mpr z)
          refine toN2 _ _ ⟨_, ss3, rfl, s3, ⟨us3, hfl3, iu3⟩, mem_skip (s0 := .seek i j) mem3 (fun o => ?_) (at2_seek j i), by lia⟩
          obtain ⟨_, _, t', e', h', _⟩ := o
          exact hjn h'
      · rintro σ H3 ⟨o9', ss3, rfl, s3, sl3, mem3, ls3⟩
        have en : Int.toNat (gus.length : Int) = gs.length := by lia
        rw [en] at mem3 ls3
        exact toN _ _ ⟨_, _, ss3, rfl, s3, sl3, mem_same mem3 (fun s o => at1_done j s o), by lia⟩
  · rintro σ H1 ⟨o8, o9, ss1, rfl, s1, sl1, mem1, ls1⟩
    have en : Int.toNat (cus.length : Int) = cs.length := by lia
    rw [en] at mem1 ls1
    refine ⟨_, rfl, fin fl ss1 H1 s1 flH sl1 (fun s => ?_) (by lia)⟩
    rw [mem1]
    exact ⟨fun h => h.1, fun h => ⟨h, (at1_end s h).mp trivial⟩⟩
end
end K66
end
section
namespace K66
open PySem L2 Kn
theorem nd_len {α : Type} [DecidableEq α] : ∀ {l m : List α}, l.Nodup -> (∀ x ∈ l, x ∈ m) -> l.length <= m.length
  | [], m, _, _ => Nat.zero_le _
  | a :: l, m, nd, h => by
    rw [List.nodup_cons] at nd
    have ha : a ∈ m := h a List.mem_cons_self
    have ih' := nd_len (m := m.erase a) nd.2 fun x hx => (List.mem_erase_of_ne (fun e : x = a => nd.1 (by rw [<- e]; exact hx))).mpr (h x (List.mem_cons_of_mem _ hx))
    rw [List.length_erase_of_mem ha] at ih'
    have : 0 < m.length := List.length_pos_of_mem ha
    rw [List.length_cons]
    lia
theorem nd_perm {α : Type} [DecidableEq α] : ∀ {l m : List α}, l.Nodup -> (∀ x ∈ l, x ∈ m) -> m.length <= l.length -> l.Perm m
  | [], m, _, _, hl => by
    have : m = [] := List.length_eq_zero_iff.mp (by simpa using hl)
    rw [this]
  | a :: l, m, nd, h, hl => by
    rw [List.nodup_cons] at nd
    have ha : a ∈ m := h a List.mem_cons_self
    have ih' := nd_perm (m := m.erase a) nd.2 (fun x hx => (List.mem_erase_of_ne (fun e : x = a => nd.1 (by rw [<- e]; exact hx))).mpr (h x (List.mem_cons_of_mem _ hx))) (by rw [List.length_erase_of_mem ha]; rw [List.length_cons] at hl; lia)
    exact (ih'.cons a).trans (List.perm_cons_erase ha).symm
theorem rng_len (n : Nat) : (rngI n).length = n := by unfold rngI; rw [List.length_map, List.length_range]
theorem rng_mem {n : Nat} {x : Int} : x ∈ rngI n ↔ ∃ i : Nat, i < n /\ x = i := by
  unfold rngI
  rw [List.mem_map]
  exact ⟨fun ⟨i, h, e⟩ => ⟨i, List.mem_range.mp h, e.symm⟩, fun ⟨i, h, e⟩ => ⟨i, List.mem_range.mpr h, e.symm⟩⟩
theorem rng_nd (n : Nat) : (rngI n).Nodup := by
  unfold rngI
  exact List.Pairwise.map _ (fun a b h e => h (by lia)) (List.nodup_range (n := n))
noncomputable def Wi (n : Nat) (g : List Int) : Prop := g.Nodup /\ ∀ x ∈ g, x ∈ rngI n
theorem Wi.len {n : Nat} {g : List Int} (h : Wi n g) : g.length <= n := by have := nd_len h.1 h.2; rwa [rng_len] at this
theorem Wi.perm {n : Nat} {g : List Int} (h : Wi n g) : g.Perm (rngI n) ↔ g.length = n := ⟨fun p => by rw [p.length_eq, rng_len], fun e => nd_perm h.1 h.2 (by rw [rng_len]; lia)⟩
theorem Wi.of_perm {n : Nat} {g : List Int} (h : g.Perm (rngI n)) : Wi n g := ⟨h.nodup_iff.mpr (rng_nd n), fun x hx => h.mem_iff.mp hx⟩
theorem Wi.app {n : Nat} {g k : List Int} (h : Wi n g) (k1 : k.Nodup) (kn : ∀ x ∈ k, x ∈ rngI n) (dj : ∀ x ∈ k, x ∉ g) : Wi n (g ++ k) :=
  ⟨List.nodup_append.mpr ⟨h.1, k1, fun a ha b hb e => dj b hb (by rw [<- e]; exact ha)⟩, fun x hx => (List.mem_append.mp hx).elim (h.2 x) (kn x)⟩
theorem Wi.left {n : Nat} {g k : List Int} (h : Wi n (g ++ k)) : Wi n g /\ ∀ x ∈ k, x ∉ g := by
  obtain ⟨h1, h2⟩ := h
  rw [List.nodup_append] at h1
  exact ⟨⟨h1.1, fun x hx => h2 x (List.mem_append_left _ hx)⟩, fun x hx z => h1.2.2 x z x hx rfl⟩
noncomputable def finL (n m : Nat) (g d : List Int) : Prop := g.length = n /\ d.length = m
theorem try_some {gs : List Gen} {i : Nat} {a b o : Qt} {fl : Str} (h : tryOne gs i a b = some (fl, o)) : ∃ x, a = .at fl (.var x) /\ lastN gs x = some i /\ o = b := by
  cases a with
  | «at» f u =>
    cases u with
    | var x =>
      have h' : (if lastN gs x = some i then some (f, b) else none) = some (fl, o) := h
      by_cases e : lastN gs x = some i
      · rw [if_pos e] at h'
        injection h' with h'
        injection h' with h1 h2
        subst h1 h2
        exact ⟨x, rfl, e, rfl⟩
      · rw [if_neg e] at h'; cases h'
    | _ => cases h
  | _ => cases h
theorem try_of {gs : List Gen} {i : Nat} {x fl : Str} {b : Qt} (h : lastN gs x = some i) : tryOne gs i (.at fl (.var x)) b = some (fl, b) := by
  show (if lastN gs x = some i then some (fl, b) else none) = _
  rw [if_pos h]
theorem lawP_iff {gs : List Gen} {i : Nat} {g : List Int} {p : Qt × Qt} : lawP gs i g p ↔ ∃ fl, tryOne gs i p.1 p.2 = some (fl, p.2) /\ Rdy gs (nmQ p.2) g := by
  constructor
  · rintro ⟨⟨fl, e⟩, h1, h2⟩
    exact ⟨fl, by rw [e]; exact try_of h1, h2⟩
  · rintro ⟨fl, h, h2⟩
    obtain ⟨x, e, h1, _⟩ := try_some h
    have := (lastI_lt h1).2
    exact ⟨⟨fl, by rw [this]; exact e⟩, by rw [this]; exact h1, h2⟩
theorem lawS_iff {gs : List Gen} {i : Nat} {g : List Int} {t : Qt} (hi : (i : Int) ∉ g) : lawS gs i g t ↔ ∃ q, soughtC gs i t = some q /\ Rdy gs (nmQ q.2) g := by
  constructor
  · rintro ⟨a, b, rfl, p, hp, hl⟩
    have es : soughtC gs i (.two "same" a b) = soughtL gs i [(a, b), (b, a)] := by unfold soughtC; exact if_pos rfl
    rw [es]
    obtain ⟨fl, h1, h2⟩ := lawP_iff.mp hl
    simp only [List.mem_cons, List.not_mem_nil, or_false] at hp
    rcases hp with rfl | rfl
    · exact ⟨_, by unfold soughtL; rw [List.findSome?_cons, h1], h2⟩
    · cases e : tryOne gs i a b with
      | none => exact ⟨_, by unfold soughtL; rw [List.findSome?_cons, e, List.findSome?_cons, h1], h2⟩
      | some q =>
        exfalso
        obtain ⟨x, ea, hx, _⟩ := try_some (fl := q.1) (o := q.2) e
        subst ea
        exact hi (h2 x List.mem_cons_self i hx)
  · rintro ⟨q, h, h2⟩
    cases t with
    | two w a b =>
      have h' : (if w = "same" then soughtL gs i [(a, b), (b, a)] else none) = some q := h
      by_cases e : w = "same"
      · rw [if_pos e] at h'
        subst e
        refine ⟨a, b, rfl, ?_⟩
        unfold soughtL at h'
        rw [List.findSome?_cons] at h'
        cases e1 : tryOne gs i a b with
        | some r =>
          rw [e1] at h'
          injection h' with h'
          subst h'
          obtain ⟨x, ea, hx, eo⟩ := try_some (fl := r.1) (o := r.2) e1
          refine ⟨(a, b), by simp, lawP_iff.mpr ⟨r.1, ?_, by rw [<- eo]; exact h2⟩⟩
          rw [e1, <- eo]
        | none =>
          rw [e1] at h'
          have h3 : List.findSome? (fun p : Qt × Qt => tryOne gs i p.1 p.2) [(b, a)] = some q := h'
          rw [List.findSome?_cons] at h3
          dsimp only at h3
          cases e2 : tryOne gs i b a with
          | none => rw [e2] at h3; cases h3
          | some r =>
            rw [e2] at h3
            injection h3 with h3
            subst h3
            obtain ⟨x, ea, hx, eo⟩ := try_some (fl := r.1) (o := r.2) e2
            refine ⟨(b, a), by simp, lawP_iff.mpr ⟨r.1, ?_, by rw [<- eo]; exact h2⟩⟩
            rw [e2, <- eo]
      · rw [if_neg e] at h'; cases h'
    | _ => cases h
theorem okL_iff {gs : List Gen} {cs : List Qt} {g d : List Int} {s : Stp} : okL gs cs g d s ↔ okP gs cs g d s /\ (∀ x ∈ s.gn, x ∉ g) /\ ∀ x ∈ s.cl, x ∉ d := by
  cases s with
  | go i =>
    constructor
    · rintro ⟨h1, h2⟩
      exact ⟨⟨h1, fun x hx => (nomatch hx)⟩, fun x hx => by rw [List.mem_singleton.mp hx]; exact h2, fun x hx => (nomatch hx)⟩
    · rintro ⟨⟨h1, _⟩, h2, _⟩
      exact ⟨h1, h2 _ List.mem_cons_self⟩
  | ask j =>
    constructor
    · rintro ⟨t, e, h1, h2⟩
      refine ⟨⟨(List.getElem?_eq_some_iff.mp e).1, ?_⟩, fun x hx => (nomatch hx), fun x hx => by rw [List.mem_singleton.mp hx]; exact h1⟩
      show Rdy gs (match cs[j]? with | some t => nmQ t | none => []) g
      rw [e]; exact h2
    · rintro ⟨⟨h1, h2⟩, _, h3⟩
      have e := List.getElem?_eq_getElem (show j < cs.length from h1)
      have h2' : Rdy gs (match cs[j]? with | some t => nmQ t | none => []) g := h2
      rw [e] at h2'
      exact ⟨_, e, h3 _ List.mem_cons_self, h2'⟩
  | seek i j =>
    constructor
    · rintro ⟨h1, h2, t, e, h3, h4⟩
      obtain ⟨q, hq, hr⟩ := (lawS_iff h2).mp h4
      have es : soughtQ gs cs i j = some q := by unfold soughtQ; rw [e]; exact hq
      refine ⟨⟨⟨h1, (List.getElem?_eq_some_iff.mp e).1, by rw [es]; exact fun z => nomatch z⟩, ?_⟩, fun x hx => by rw [List.mem_singleton.mp hx]; exact h2, fun x hx => by rw [List.mem_singleton.mp hx]; exact h3⟩
      show Rdy gs (match soughtQ gs cs i j with | some p => nmQ p.2 | none => []) g
      rw [es]; exact hr
    · rintro ⟨⟨⟨h1, h2, h3⟩, h4⟩, h5, h6⟩
      have h5' := h5 _ List.mem_cons_self
      have e := List.getElem?_eq_getElem (show j < cs.length from h2)
      obtain ⟨q, es⟩ := Option.ne_none_iff_exists'.mp h3
      have h4' : Rdy gs (match soughtQ gs cs i j with | some p => nmQ p.2 | none => []) g := h4
      rw [es] at h4'
      have es' : soughtC gs i cs[j] = some q := by unfold soughtQ at es; rw [e] at es; exact es
      exact ⟨h1, h5', _, e, h6 _ List.mem_cons_self, (lawS_iff h5').mpr ⟨q, es', h4'⟩⟩
theorem gn_in {gs : List Gen} {cs : List Qt} {g d : List Int} {s : Stp} (h : okP gs cs g d s) : ∀ x ∈ s.gn, x ∈ rngI gs.length := by
  intro x hx
  cases s with
  | go i => rw [List.mem_singleton.mp hx]; exact rng_mem.mpr ⟨i, h.1, rfl⟩
  | ask j => cases hx
  | seek i j => rw [List.mem_singleton.mp hx]; exact rng_mem.mpr ⟨i, h.1.1, rfl⟩
theorem cl_in {gs : List Gen} {cs : List Qt} {g d : List Int} {s : Stp} (h : okP gs cs g d s) : ∀ x ∈ s.cl, x ∈ rngI cs.length := by
  intro x hx
  cases s with
  | go i => cases hx
  | ask j => rw [List.mem_singleton.mp hx]; exact rng_mem.mpr ⟨j, h.1, rfl⟩
  | seek i j => rw [List.mem_singleton.mp hx]; exact rng_mem.mpr ⟨j, h.1.2.1, rfl⟩
theorem gn_nd (s : Stp) : s.gn.Nodup := by cases s <;> simp [Stp.gn]
theorem cl_nd (s : Stp) : s.cl.Nodup := by cases s <;> simp [Stp.cl]
theorem okL_wi {gs : List Gen} {cs : List Qt} {g d : List Int} {s : Stp} (hg : Wi gs.length g) (hd : Wi cs.length d) (o : okL gs cs g d s) : Wi gs.length (g ++ s.gn) /\ Wi cs.length (d ++ s.cl) := by
  obtain ⟨h1, h2, h3⟩ := okL_iff.mp o
  exact ⟨hg.app (gn_nd s) (gn_in h1) h2, hd.app (cl_nd s) (cl_in h1) h3⟩
theorem fitP_wi {gs : List Gen} {cs : List Qt} : ∀ {sts : List Step} {g d : List Int}, FitF (okP gs cs) (finP gs.length cs.length) g d sts -> Wi gs.length g /\ Wi cs.length d
  | [], g, d, h => ⟨Wi.of_perm h.1, Wi.of_perm h.2⟩
  | st :: sts, g, d, ⟨s, _, _, h⟩ => by
    obtain ⟨h1, h2⟩ := fitP_wi h
    exact ⟨h1.left.1, h2.left.1⟩
theorem fit_iff {gs : List Gen} {cs : List Qt} : ∀ {sts : List Step} {g d : List Int}, Wi gs.length g -> Wi cs.length d -> (FitF (okP gs cs) (finP gs.length cs.length) g d sts ↔ FitF (okL gs cs) (finL gs.length cs.length) g d sts)
  | [], g, d, hg, hd => by
    show (g.Perm _ /\ d.Perm _) ↔ (g.length = _ /\ d.length = _)
    rw [hg.perm, hd.perm]
  | st :: sts, g, d, hg, hd => by
    constructor
    · rintro ⟨s, e, o, h⟩
      obtain ⟨w1, w2⟩ := fitP_wi h
      exact ⟨s, e, okL_iff.mpr ⟨o, w1.left.2, w2.left.2⟩, (fit_iff w1 w2).mp h⟩
    · rintro ⟨s, e, o, h⟩
      obtain ⟨w1, w2⟩ := okL_wi hg hd o
      exact ⟨s, e, (okL_iff.mp o).1, (fit_iff w1 w2).mpr h⟩
theorem wi_nil (n : Nat) : Wi n [] := ⟨List.nodup_nil, fun x hx => (nomatch hx)⟩
theorem end_fin {gs : List Gen} {cs : List Qt} {g d : List Int} (hg : Wi gs.length g) (hd : Wi cs.length d) (no : ∀ s, ¬ okL gs cs g d s) : finL gs.length cs.length g d := by
  have ga : ∀ x ∈ rngI gs.length, x ∈ g := fun x hx => by
    obtain ⟨i, hi, rfl⟩ := rng_mem.mp hx
    exact Decidable.byContradiction fun h => no (.go i) ⟨hi, h⟩
  have da : ∀ x ∈ rngI cs.length, x ∈ d := fun x hx => by
    obtain ⟨j, hj, rfl⟩ := rng_mem.mp hx
    refine Decidable.byContradiction fun h => no (.ask j) ⟨_, List.getElem?_eq_getElem hj, h, fun x _ k hk => ga _ (rng_mem.mpr ⟨k, (lastI_lt hk).1, rfl⟩)⟩
  have l1 := nd_len (rng_nd gs.length) ga
  have l2 := nd_len (rng_nd cs.length) da
  rw [rng_len] at l1 l2
  exact ⟨Nat.le_antisymm hg.len l1, Nat.le_antisymm hd.len l2⟩
end K66
end
section
namespace K66
open PySem L2 Kn
theorem atD_inj {a b : At} (h : atD a = atD b) : a = b := by
  cases a <;> cases b <;> simp [atD] at h <;> rw [h]
theorem atDs_inj : ∀ {as bs : List At}, as.map atD = bs.map atD -> as = bs
  | [], [], _ => rfl
  | [], _ :: _, h => by simp at h
  | _ :: _, [], h => by simp at h
  | a :: as, b :: bs, h => by
    rw [List.map_cons, List.map_cons] at h
    injection h with h1 h2
    rw [atD_inj h1, atDs_inj h2]
theorem stD_inj {a b : Step} (h : stD a = stD b) : a = b := by
  unfold stD at h
  injection h with h
  injection h with h1 h2
  injection h1 with h1
  have := atDs_inj h2
  cases a; cases b
  simp only at h1 this
  rw [h1, this]
theorem ats_dep : ∀ as : List At, depL (as.map atD) = 0
  | [] => rfl
  | a :: as => by rw [List.map_cons, depL, ats_dep as]; cases a <;> simp [atD, Dt.dep]
theorem sts_dep : ∀ ss : List Stp, depL (ss.map stS) <= 1
  | [] => Nat.zero_le _
  | s :: ss => by
    have := sts_dep ss
    rw [List.map_cons, depL]
    show max (Dt.dep (Dt.tup (Dt.str s.st.1 :: s.st.2.map atD))) _ <= 1
    simp only [Dt.dep, depL, ats_dep]
    lia
theorem stD_mem {ss : List Stp} {st : Step} : stD st ∈ ss.map stS ↔ ∃ s ∈ ss, s.st = st := by
  rw [List.mem_map]
  exact ⟨fun ⟨s, h, e⟩ => ⟨s, h, stD_inj e⟩, fun ⟨s, h, e⟩ => ⟨s, h, by rw [<- e]; rfl⟩⟩
theorem st0 {st : Step} : atI (stV st) 0 = some (.str st.1) := (show atI (V.str st.1 :: st.2.map atV) ((0 : Nat) : Int) = _ from atI_nat rfl)
theorem SL.keep {H H' : Hp} {l : Addr} {ss : List Stp} (h : SL H l ss) (e : ∀ o, H l = some o -> H' l = some o) (t : Tups H H') : SL H' l ss := by
  obtain ⟨us, h1, h2⟩ := h
  exact ⟨us, e _ h1, IsDts.mono t h2⟩
section
variable {P : Program} {w : World} {K : PySem.W.Frag} {mg : Str -> Option Value} {base : Heap} {f f_steps f_next : Addr} {fd fd_steps fd_next : FuncData}
theorem sc__law_fits : FnScope ["branch", "plan", "gone", "done", "step"] ["branch", "plan"] (defScope (top 32)) := ⟨rfl, rfl, rfl, by decide +kernel, rfl, by decide +kernel, by decide +kernel⟩
noncomputable def spLF : Sp := fun vs H Q _ => ∃ (b pl : Addr) (gs : List Gen) (cs : List Qt) (us : List V) (sts : List Step), vs = [.ref b, .ref pl] /\ Br H b gs cs /\ H pl = some (.tup us) /\ IsDts H (sts.map stD) us /\ sts.length <= 40 /\
  ∀ (r : Bool) (H' : Hp), (r = true ↔ FitF (okL gs cs) (finL gs.length cs.length) [] [] sts) -> Same H H' -> Q (.bl r) H'
theorem ok_lf (T : Tx mg) (D : Df K mg "_law_fits" (top 32) f fd ["branch", "plan"]) (D__law_steps : Df K mg "_law_steps" (top 30) f_steps fd_steps ["branch", "gone", "done"]) (G__law_steps : FnOk P w K mg base CX0 9 f_steps fd_steps ["branch", "gone", "done"] spSteps) :
    FnOk P w K mg base CX0 10 f fd ["branch", "plan"] spLF := by
  refine D.fn.okH sc__law_fits (fun vs H Q E h => ?_) (fun cdv A outer s H vs Q E hr h => ?_)
  · obtain ⟨b, pl, gs, cs, us, sts, rfl, _⟩ := h; rfl
  obtain ⟨b, pl, gs, cs, us, sts, rfl, br, hpl, ius, l40, fin⟩ := h
  have hu := u110 hr
  have hu0 := u0 hr
  have hu1 := hu_of hr
  refine ⟨_, (wss_cons (ws_set (i := 2) sc__law_fits.nd rfl (Or.inl rfl) (we_lst wa_nil))
      (wss_cons (ws_set (i := 3) sc__law_fits.nd rfl (Or.inl rfl) (we_lst wa_nil))
      (wss_cons (ws_for PassesOwn.never rfl (wi_U (wv 1)) (wg_name (i := 4) sc__law_fits.nd rfl (Or.inl rfl)) (wss_cons (ws_if (wt_cmpR (op_notInU hu) (wv 4) (we_call G__law_steps (hr.mono (by lia)) rfl D__law_steps.mg D__law_steps.kp D__law_steps.b .nil pass0 (wa_cons (wv 0) (wa_cons (wv 2) (wa_cons (wv 3) wa_nil)))) (by with_unfolding_all rfl)) (wss_one (ws_ret we_bl)) wss_nil)
      (wss_cons (ws_if (wt_cmpR (op_neU hu) (we_ix (ix_U hu1) (wv 4) we_int (fun _ _ => rfl)) we_str (nomark _)) (wss_one (ws_expr (we_bm PySem.F.plainAttrs_list PySem.F.slot_list_append PySem.F.type_list_append mt_append (wv 2) (wa_cons (we_ix (ix_U hu1) (wv 4) we_int (fun _ _ => rfl)) wa_nil)))) wss_nil)
      (wss_one (ws_if (wt_cmpR (op_neU hu) (we_ix (ix_U hu1) (wv 4) we_int (fun _ _ => rfl)) we_str (nomark _)) (wss_one (ws_expr (we_bm PySem.F.plainAttrs_list PySem.F.slot_list_append PySem.F.type_list_append mt_append (wv 3) (wa_cons (we_ix (ix_U hu1) (wv 4) (we_un un_neg we_int) (fun _ _ => rfl)) wa_nil)))) wss_nil)))))
      (wss_one (ws_ret (we_and (we_cmpR (op_eqU hu) (we_callB call_lenU rfl T.z_len bt_len (wa_cons (wv 2) wa_nil)) (we_callB call_lenU rfl T.z_len bt_len (wa_cons (we_ix (ix_U hu1) (wv 0) we_int (fun _ _ => rfl)) wa_nil)) (nomark _)) (we_one (we_cmpR (op_eqU hu) (we_callB call_lenU rfl T.z_len bt_len (wa_cons (wv 3) wa_nil)) (we_callB call_lenU rfl T.z_len bt_len (wa_cons (we_ix (ix_U hu1) (wv 0) we_int (fun _ _ => rfl)) wa_nil)) (nomark _))))))))), ?_⟩
  obtain ⟨X', gX'⟩ : ∃ X', X' = (cxOf CX0 P w K mg base ["branch", "plan", "gone", "done", "step"] "_law_fits" (defScope (top 32)) f cdv A outer s H E).nox := ⟨_, rfl⟩
  try rw [<- gX']
  clear gX'
  refine ⟨(by show 0 <= sizeLine; decide), fun ga hga => ⟨(by show 0 <= sizeLine; decide), fun sa hsa => ?_⟩⟩
  have s0 := (same_new hga (.lst [])).trans (same_new hsa (.lst []))
  have hga0 : (upd (upd H ga (.lst [])) sa (.lst [])) ga = some (.lst (([] : List Int).map V.int)) := same_new hsa _ _ _ upd_same
  have hsa0 : (upd (upd H ga (.lst [])) sa (.lst [])) sa = some (.lst (([] : List Int).map V.int)) := upd_same
  have nH : H sa = none := same_back (same_new hga (.lst [])) hsa
  have ngs : ga ≠ sa := fun z => by rw [<- z, upd_same] at hsa; cases hsa
  generalize upd (upd H ga (.lst [])) sa (.lst []) = H0 at s0 hga0 hsa0 ⊢
  have lus : us.length = sts.length := by rw [ius.length, List.length_map]
  refine iU rfl (.inr rfl) (s0 _ _ hpl) fun J hJ => ?_
  refine ⟨fun i m σ H' => ∃ (g d : List Int), m + i = sts.length /\ i <= sts.length /\ Same H H' /\ H' ga = some (.lst (g.map V.int)) /\ H' sa = some (.lst (d.map V.int)) /\ g.length <= i /\ d.length <= i /\ (FitF (okL gs cs) (finL gs.length cs.length) [] [] sts ↔ FitF (okL gs cs) (finL gs.length cs.length) g d (sts.drop i)) /\ ∃ o4, σ = [some (.ref b), some (.ref pl), some (.ref ga), some (.ref sa), o4], ⟨sts.length, [], [], rfl, Nat.zero_le _, s0, hga0, hsa0, Nat.le_refl _, Nat.le_refl _, Iff.rfl, none, rfl⟩, ?_⟩
  rintro i m σ H1 ⟨g, d, hm, hi', s1, hg1, hs1, lg, ld, iff1, o4, rfl⟩
  by_cases hi : i < sts.length
  · refine .inr (for_hide (hJ.go i H1 (s1 _ _ hpl) (by lia)) (fun σ' H' => ∃ (g d : List Int), (m - 1) + (i + 1) = sts.length /\ i + 1 <= sts.length /\ Same H H' /\ H' ga = some (.lst (g.map V.int)) /\ H' sa = some (.lst (d.map V.int)) /\ g.length <= i + 1 /\ d.length <= i + 1 /\ (FitF (okL gs cs) (finL gs.length cs.length) [] [] sts ↔ FitF (okL gs cs) (finL gs.length cs.length) g d (sts.drop (i + 1))) /\ ∃ o4, σ' = [some (.ref b), some (.ref pl), some (.ref ga), some (.ref sa), o4]) (fun σ' H' hW => ⟨m - 1, by lia, hW⟩) fun E' toN _ toR _ => ?_)
    intro x H2 hy
    obtain ⟨e0, hx⟩ := hJ.yl i H1 x _ (s1 _ _ hpl) hy
    rw [e0]
    obtain ⟨u, hu', du⟩ := ius.get (i := i) (d := stD sts[i]) (by rw [List.getElem?_map, List.getElem?_eq_getElem hi]; rfl)
    obtain rfl : u = x := by rw [hu'] at hx; injection hx
    have du' := du
    obtain ⟨a, rfl, ha⟩ := st_of du
    have stp := @fit_step (okL gs cs) (finL gs.length cs.length) g d sts i hi
    have sno := @fit_no (okL gs cs) (finL gs.length cs.length) g d sts i hi
    generalize sts[i] = st at ha stp sno du'
    refine ⟨_, rfl, _, rfl, _, rfl, _, rfl, b, ga, sa, gs, cs, g, d, rfl, br.mono s1.tups, hg1, hs1, fun l ss H3 s3 hl ⟨us3, hl3, iu3⟩ mem3 ls3 => ?_⟩
    have s3' := s1.trans s3
    refine .inr ⟨l, us3, stD st, ss.map stS, rfl, SqL.of hl3, IsDt.mono s3'.tups du', iu3, Nat.le_trans (sts_dep ss) (by decide), _, rfl, ?_⟩
    by_cases hin : stD st ∈ ss.map stS
    · refine iteN (by rw [decide_eq_true hin]; decide) ?_
      obtain ⟨s, hs, e⟩ := stD_mem.mp hin
      have oks := (mem3 s).mp hs
      subst e
      have iff2 := iff1.trans (stp rfl oks)
      have hg3 := s3 _ _ hg1
      have hs3 := s3 _ _ hs1
      have ha3 := s3' _ _ ha
      have lint : ∀ (l : List Int) (x : Int), l.map V.int ++ [V.int x] = (l ++ [x]).map V.int := fun l x => by rw [List.map_append]; rfl
      cases s with
      | go k =>
        have ha' : H3 a = some (.tup [V.str "go", .int k]) := ha3
        refine ⟨_, rfl, (ixt (SqT.of ha') rfl (.inl ⟨rfl, _, rfl, iteP (by decide) ?_⟩))⟩
        refine ⟨_, rfl, .inl ⟨rfl, _, SqL.of hg3⟩, _, rfl, (ixt (SqT.of ha') rfl ⟨ga, _, _, rfl, rfl, hg3, line1 (by rw [List.length_map]; lia), ?_⟩)⟩
        rw [lint]
        have ha4 : (upd H3 ga (.lst ((g ++ [(k : Int)]).map V.int))) a = some (.tup [V.str "go", .int k]) := Tups.lst hg3 _ _ ha'
        refine ⟨_, rfl, (ixt (SqT.of ha4) rfl (.inl ⟨rfl, _, rfl, iteN (by decide) ?_⟩))⟩
        exact toN _ _ ⟨g ++ [(k : Int)], d, by lia, by lia, fun z o e => by rw [upd_ne (ne_of_none e hga)]; exact s3' _ _ e, upd_same, by rw [upd_ne (Ne.symm ngs)]; exact hs3, by rw [List.length_append]; exact Nat.succ_le_succ lg, by lia, by simpa [Stp.gn, Stp.cl] using iff2, _, rfl⟩
      | ask k =>
        have ha' : H3 a = some (.tup [V.str "ask", .int k]) := ha3
        refine ⟨_, rfl, (ixt (SqT.of ha') rfl (.inl ⟨rfl, _, rfl, iteN (by decide) ?_⟩))⟩
        refine ⟨_, rfl, (ixt (SqT.of ha') rfl (.inl ⟨rfl, _, rfl, iteP (by decide) ?_⟩))⟩
        refine ⟨_, rfl, .inl ⟨rfl, _, SqL.of hs3⟩, _, rfl, _, rfl, (ixt (SqT.of ha') rfl ⟨sa, _, _, rfl, rfl, hs3, line1 (by rw [List.length_map]; lia), ?_⟩)⟩
        rw [lint]
        exact toN _ _ ⟨g, d ++ [(k : Int)], by lia, by lia, fun z o e => by rw [upd_ne (ne_of_none e nH)]; exact s3' _ _ e, by rw [upd_ne ngs]; exact hg3, upd_same, by lia, by rw [List.length_append]; exact Nat.succ_le_succ ld, by simpa [Stp.gn, Stp.cl] using iff2, _, rfl⟩
      | seek k j =>
        have ha' : H3 a = some (.tup [V.str "seek", .int k, .int j]) := ha3
        refine ⟨_, rfl, (ixt (SqT.of ha') rfl (.inl ⟨rfl, _, rfl, iteP (by decide) ?_⟩))⟩
        refine ⟨_, rfl, .inl ⟨rfl, _, SqL.of hg3⟩, _, rfl, (ixt (SqT.of ha') rfl ⟨ga, _, _, rfl, rfl, hg3, line1 (by rw [List.length_map]; lia), ?_⟩)⟩
        rw [lint]
        have ha4 : (upd H3 ga (.lst ((g ++ [(k : Int)]).map V.int))) a = some (.tup [V.str "seek", .int k, .int j]) := Tups.lst hg3 _ _ ha'
        have hs4 : (upd H3 ga (.lst ((g ++ [(k : Int)]).map V.int))) sa = some (.lst (d.map V.int)) := by rw [upd_ne (Ne.symm ngs)]; exact hs3
        have hg4 : (upd H3 ga (.lst ((g ++ [(k : Int)]).map V.int))) ga = some (.lst ((g ++ [(k : Int)]).map V.int)) := upd_same
        have s4 : Same H (upd H3 ga (.lst ((g ++ [(k : Int)]).map V.int))) := fun z o e => by rw [upd_ne (ne_of_none e hga)]; exact s3' _ _ e
        generalize upd H3 ga (.lst ((g ++ [(k : Int)]).map V.int)) = H4 at ha4 hs4 hg4 s4 ⊢
        refine ⟨_, rfl, (ixt (SqT.of ha4) rfl (.inl ⟨rfl, _, rfl, iteP (by decide) ?_⟩))⟩
        refine ⟨_, rfl, .inl ⟨rfl, _, SqL.of hs4⟩, _, rfl, _, rfl, (ixt (SqT.of ha4) rfl ⟨sa, _, _, rfl, rfl, hs4, line1 (by rw [List.length_map]; lia), ?_⟩)⟩
        rw [lint]
        exact toN _ _ ⟨g ++ [(k : Int)], d ++ [(j : Int)], by lia, by lia, fun z o e => by rw [upd_ne (ne_of_none e nH)]; exact s4 _ _ e, by rw [upd_ne ngs]; exact hg4, upd_same, by rw [List.length_append]; exact Nat.succ_le_succ lg, by rw [List.length_append]; exact Nat.succ_le_succ ld, by simpa [Stp.gn, Stp.cl] using iff2, _, rfl⟩
    · refine iteP (by rw [decide_eq_false hin]; rfl) ?_
      refine toR _ _ (fin _ _ ?_ s3')
      simp only [Bool.false_eq_true, false_iff]
      rw [iff1]
      exact sno fun s e o => hin (stD_mem.mpr ⟨s, (mem3 s).mpr o, e⟩)
  · refine .inl ⟨hJ.st i H1 (s1 _ _ hpl) (by lia), ?_⟩
    obtain rfl : i = sts.length := by lia
    rw [List.drop_length] at iff1
    obtain ⟨ff, gg, cc, row, gus, cus, hb, hgg, ig, hcc, ic, lgg, lcc, cok⟩ := br
    have lgu : gus.length = gs.length := by rw [ig.length, List.length_map]
    have lcu : cus.length = cs.length := by rw [ic.length, List.length_map]
    refine ⟨_, rfl, .inl ⟨ga, _, rfl, .inl (SqL.of hg1), _, rfl, (ixt (SqT.of (s1 _ _ hb)) rfl (.inl ⟨gg, _, rfl, .inr (SqT.of (s1 _ _ hgg)), .inl ⟨rfl, _, rfl, ?_⟩⟩))⟩⟩
    rw [List.length_map, lgu]
    by_cases h1 : g.length = gs.length
    · refine iteP (decide_eq_true (by rw [h1])) ?_
      refine ⟨_, rfl, .inl ⟨sa, _, rfl, .inl (SqL.of hs1), _, rfl, (ixt (SqT.of (s1 _ _ hb)) rfl (.inl ⟨cc, _, rfl, .inr (SqT.of (s1 _ _ hcc)), .inl ⟨rfl, ?_⟩⟩))⟩⟩
      rw [List.length_map, lcu]
      refine fin _ _ ?_ s1
      rw [iff1, decide_eq_true_iff]
      show _ ↔ (g.length = _ /\ d.length = _)
      constructor
      · intro e; injection e with e; exact ⟨h1, by lia⟩
      · rintro ⟨_, e⟩; rw [e]
    · refine iteN (fun z => h1 (by have := of_decide_eq_true z; injection this with this; lia)) ?_
      refine fin _ _ ?_ s1
      simp only [Bool.false_eq_true, false_iff]
      rw [iff1]
      exact fun z => h1 z.1
end
end K66
end
section
namespace K66
open PySem L2 Kn
noncomputable def PI (gs : List Gen) (cs : List Qt) (H0 : Hp) (p c pa go dn : Addr) (n : Int) (H' : Hp) (ss : List Stp) (g d : List Int) : Prop :=
  Ex p H0 H' /\ Dk H' p c (n + ss.length) /\ SL H' pa ss /\ H' go = some (.lst (g.map V.int)) /\ H' dn = some (.lst (d.map V.int)) /\ Wi gs.length g /\ Wi cs.length d /\ ss.length <= g.length + d.length /\
  ∀ rest, FitF (okL gs cs) (finL gs.length cs.length) g d rest -> FitF (okL gs cs) (finL gs.length cs.length) [] [] (ss.map Stp.st ++ rest)
theorem PI.same {gs : List Gen} {cs : List Qt} {H0 : Hp} {p c pa go dn : Addr} {n : Int} {H' H'' : Hp} {ss : List Stp} {g d : List Int} (h : PI gs cs H0 p c pa go dn n H' ss g d) (s : Same H' H'') : PI gs cs H0 p c pa go dn n H'' ss g d := by
  obtain ⟨h1, h2, h3, h4, h5, r⟩ := h
  exact ⟨h1.trans s.ex, h2.keep s, h3.keep (s _) s.tups, s _ _ h4, s _ _ h5, r⟩
theorem stp_len (s : Stp) : 1 <= s.gn.length + s.cl.length := by cases s <;> simp [Stp.gn, Stp.cl]
section
variable {P : Program} {w : World} {K : PySem.W.Frag} {mg : Str -> Option Value} {base : Heap} {f f_steps f_next : Addr} {fd fd_steps fd_next : FuncData}
theorem sc__law_plan : FnScope ["deck", "branch", "plan", "gone", "done", "some", "keen", "cell", "step"] ["deck", "branch"] (defScope (top 31)) := ⟨rfl, rfl, rfl, by decide +kernel, rfl, by decide +kernel, by decide +kernel⟩
noncomputable def spPlan : Sp := fun vs H Q _ => ∃ (p c b : Addr) (n : Int) (gs : List Gen) (cs : List Qt), vs = [.ref p, .ref b] /\ Dk H p c n /\ n < 800000 /\ Br H b gs cs /\
  ∀ (pl : Addr) (us : List V) (ss : List Stp) (H' : Hp), Ex p H H' -> Dk H' p c (n + 8) -> H' pl = some (.tup us) -> IsDts H' (ss.map stS) us -> FitF (okL gs cs) (finL gs.length cs.length) [] [] (ss.map Stp.st) -> ss.length <= 8 -> Q (.ref pl) H'
theorem ok_plan (T : Tx mg) (D : Df K mg "_law_plan" (top 31) f fd ["deck", "branch"]) (D__law_steps : Df K mg "_law_steps" (top 30) f_steps fd_steps ["branch", "gone", "done"]) (G__law_steps : FnOk P w K mg base CX0 9 f_steps fd_steps ["branch", "gone", "done"] spSteps)
    (D__law_next : Df K mg "_law_next" (top 20) f_next fd_next ["deck"]) (G__law_next : FnOk P w K mg base CX0 1 f_next fd_next ["deck"] spNext) : FnOk P w K mg base CX0 10 f fd ["deck", "branch"] spPlan := by
  refine D.fn.okH sc__law_plan (fun vs H Q E h => ?_) (fun cdv A outer s H vs Q E hr h => ?_)
  · obtain ⟨p, c, b, n, gs, cs, rfl, _⟩ := h; rfl
  obtain ⟨p, c, b, n, gs, cs, rfl, dk, hn, br, fin⟩ := h
  have hu := u110 hr
  have hu0 := u0 hr
  have hu1 := hu_of hr
  have lgs : gs.length <= 4 := by obtain ⟨_, _, _, _, _, _, _, _, _, _, _, h, _, _⟩ := br; exact h
  have lcs : cs.length <= 4 := by obtain ⟨_, _, _, _, _, _, _, _, _, _, _, _, h, _⟩ := br; exact h
  refine ⟨_, (wss_cons (ws_set (i := 2) sc__law_plan.nd rfl (Or.inl rfl) (we_lst wa_nil))
      (wss_cons (ws_set (i := 3) sc__law_plan.nd rfl (Or.inl rfl) (we_lst wa_nil))
      (wss_cons (ws_set (i := 4) sc__law_plan.nd rfl (Or.inl rfl) (we_lst wa_nil))
      (wss_cons (ws_set (i := 5) sc__law_plan.nd rfl (Or.inl rfl) (we_call G__law_steps (hr.mono (by lia)) rfl D__law_steps.mg D__law_steps.kp D__law_steps.b .nil pass0 (wa_cons (wv 1) (wa_cons (wv 3) (wa_cons (wv 4) wa_nil)))))
      (wss_cons (ws_while PassesOwn.never (wt_cmpR (op_neU hu) (wv 5) (we_lst wa_nil) (nomark _)) (wss_cons (ws_lc (j := 6) (hN := sc__law_plan.nd) (hj := rfl) (hy := (Or.inl rfl)) (Nt := ["step"]) (fr := []) (LcOk.of (sc := defScope (top 31)) (N := ["deck", "branch", "plan", "gone", "done", "some", "keen", "cell", "step"]) rfl rfl (by decide +kernel)) rfl (wi_U (wv 5)) (fun z => wg_name (i := 0) (by show (["step"] : List Str).Nodup; decide +kernel) rfl (Or.inl rfl) (.inr rfl)) (fun z => tgt_name (by decide)) (fun z => wif_one (wt_cmpR (op_eqU hu) (we_ix (ix_U hu1) (wv 0) we_int (fun _ _ => rfl)) we_str (nomark _))) (fun z => (wv 0)))
      (wss_cons (ws_set (i := 7) sc__law_plan.nd rfl (Or.inl rfl) (we_call G__law_next (hr.mono (by lia)) rfl D__law_next.mg D__law_next.kp D__law_next.b .nil pass0 (wa_cons (wv 0) wa_nil)))
      (wss_cons (ws_if (wt_pw (ww_and (wt_cmpR (op_eqU hu) (we_op op_mod (wv 7) we_int) we_int (nomark _)) (ww_and1 (wt_cmpR (op_neU hu) (wv 6) (we_lst wa_nil) (nomark _))))) (wss_one (ws_set (i := 5) sc__law_plan.nd rfl (Or.inl rfl) (wv 6))) wss_nil)
      (wss_cons (ws_set (i := 8) sc__law_plan.nd rfl (Or.inl rfl) (we_ix (ix_U hu1) (wv 5) (we_op op_mod (we_op op_fdiv (wv 7) we_int) (we_callB call_lenU rfl T.z_len bt_len (wa_cons (wv 5) wa_nil))) (fun _ _ => rfl)))
      (wss_cons (ws_expr (we_bm PySem.F.plainAttrs_list PySem.F.slot_list_append PySem.F.type_list_append mt_append (wv 2) (wa_cons (wv 8) wa_nil)))
      (wss_cons (ws_if (wt_cmpR (op_neU hu) (we_ix (ix_U hu1) (wv 8) we_int (fun _ _ => rfl)) we_str (nomark _)) (wss_one (ws_expr (we_bm PySem.F.plainAttrs_list PySem.F.slot_list_append PySem.F.type_list_append mt_append (wv 3) (wa_cons (we_ix (ix_U hu1) (wv 8) we_int (fun _ _ => rfl)) wa_nil)))) wss_nil)
      (wss_cons (ws_if (wt_cmpR (op_neU hu) (we_ix (ix_U hu1) (wv 8) we_int (fun _ _ => rfl)) we_str (nomark _)) (wss_one (ws_expr (we_bm PySem.F.plainAttrs_list PySem.F.slot_list_append PySem.F.type_list_append mt_append (wv 4) (wa_cons (we_ix (ix_U hu1) (wv 8) (we_un un_neg we_int) (fun _ _ => rfl)) wa_nil)))) wss_nil)
      (wss_one (ws_set (i := 5) sc__law_plan.nd rfl (Or.inl rfl) (we_call G__law_steps (hr.mono (by lia)) rfl D__law_steps.mg D__law_steps.kp D__law_steps.b .nil pass0 (wa_cons (wv 1) (wa_cons (wv 3) (wa_cons (wv 4) wa_nil))))))))))))))
      (wss_one (ws_ret (we_callTy call_tuple_of rfl T.z_tuple bt_tuple (wa_cons (wv 2) wa_nil))))))))), ?_⟩
  obtain ⟨X', gX'⟩ : ∃ X', X' = (cxOf CX0 P w K mg base ["deck", "branch", "plan", "gone", "done", "some", "keen", "cell", "step"] "_law_plan" (defScope (top 31)) f cdv A outer s H E).nox := ⟨_, rfl⟩
  try rw [<- gX']
  clear gX'
  refine ⟨(by show 0 <= sizeLine; decide), fun pa hpa => ⟨(by show 0 <= sizeLine; decide), fun go hgo => ⟨(by show 0 <= sizeLine; decide), fun dn hdn => ?_⟩⟩⟩
  have sA := same_new hpa (.lst [])
  have sB := same_new hgo (.lst [])
  have sC := same_new hdn (.lst [])
  have goH := same_back sA hgo
  have dnH := same_back (sA.trans sB) hdn
  have ngp : go ≠ pa := fun z => by rw [z, upd_same] at hgo; cases hgo
  have ndp : dn ≠ pa := fun z => by rw [z, sB _ _ upd_same] at hdn; cases hdn
  have ndg : dn ≠ go := fun z => by rw [z, upd_same] at hdn; cases hdn
  obtain ⟨pap, pac⟩ := dk.ne hpa
  obtain ⟨gop, goc⟩ := dk.ne goH
  obtain ⟨dnp, dnc⟩ := dk.ne dnH
  have s0 := sA.trans (sB.trans sC)
  have pi0 : PI gs cs H p c pa go dn n (upd (upd (upd H pa (.lst [])) go (.lst [])) dn (.lst [])) [] [] [] := ⟨s0.ex, (dk.keep s0).mono (by simp), ⟨[], sC _ _ (sB _ _ upd_same), .nil⟩, sC _ _ upd_same, upd_same, wi_nil _, wi_nil _, Nat.le_refl _, fun rest h => h⟩
  generalize upd (upd (upd H pa (.lst [])) go (.lst [])) dn (.lst []) = H0 at pi0 s0 ⊢
  refine ⟨_, rfl, _, rfl, _, rfl, b, go, dn, gs, cs, [], [], rfl, br.mono s0.tups, pi0.2.2.2.1, pi0.2.2.2.2.1, fun sm ss1 H1 s1 hsm sl1 mem1 ls1 => ?_⟩
  refine ⟨fun m σ H' => ∃ (ss ss' : List Stp) (g d : List Int) (sm : Addr) (o6 o7 o8 : Option V), m = (gs.length - g.length) + (cs.length - d.length) /\ σ = [some (.ref p), some (.ref b), some (.ref pa), some (.ref go), some (.ref dn), some (.ref sm), o6, o7, o8] /\ PI gs cs H p c pa go dn n H' ss g d /\ SL H' sm ss' /\ sm ≠ p /\ (∀ s, s ∈ ss' ↔ okL gs cs g d s) /\ ss'.length <= 24,
    ⟨_, [], ss1, [], [], sm, none, none, none, rfl, rfl, pi0.same s1, sl1, (pi0.2.1.ne hsm).1, mem1, ls1⟩, ?_⟩
  rintro m σ H1' ⟨ss, ss', g, d, sm', o6, o7, o8, rfl, rfl, pi, ⟨us', hsm', iu'⟩, smp, mem, ls⟩
  have lu' : us'.length = ss'.length := by rw [iu'.length, List.length_map]
  refine ⟨_, rfl, (by show 0 <= sizeLine; decide), fun e4 he4 => .inr (.inr ⟨sm', e4, us', rfl, rfl, same_new he4 _ _ _ hsm', upd_same, _, rfl, ?_⟩)⟩
  have s2 := same_new he4 (.lst [])
  generalize upd H1' e4 (.lst []) = H2 at s2 ⊢
  have pi2 := pi.same s2
  have hsm2 := s2 _ _ hsm'
  have iu2 := IsDts.mono s2.tups iu'
  refine ite2 (fun e => ?_) (fun e => ?_)
  · have ne' : us' ≠ [] := of_decide_eq_true e
    refine wh_hideD fun E' toN _ _ _ => ?_
    refine .inl ⟨_, rfl, sm', rfl, ⟨_, SqL.of hsm2⟩, ?_⟩
    refine ⟨fun i m zs H8 => ∃ ks : List Stp, H8 = H2 /\ m + i = ss'.length /\ i <= ss'.length /\ IsDts H2 (ks.map stS) zs /\ (∀ s ∈ ks, s ∈ ss') /\ ks.length <= i, ⟨ss'.length, [], rfl, rfl, Nat.zero_le _, .nil, fun s h => (nomatch h), Nat.le_refl _⟩, ?_⟩
    rintro i m zs H8 ⟨ks, rfl, hm, hi', iz, hks, lk⟩
    have lz : zs.length = ks.length := by rw [iz.length, List.length_map]
    refine ⟨line1 (by lia), ?_⟩
    by_cases hi : i < ss'.length
    · obtain ⟨u, hu', du⟩ := iu2.get (i := i) (d := stS ss'[i]) (by rw [List.getElem?_map, List.getElem?_eq_getElem hi]; rfl)
      refine .inr ⟨⟨_, _, SqL.of hsm2, hu'⟩, fun zc x H9 hy => ?_⟩
      obtain ⟨rfl, hx⟩ := hy
      have e2 := hx _ (SqL.of hsm2)
      rw [hu'] at e2
      cases e2
      have sm := List.getElem_mem hi
      generalize ss'[i] = sx at du sm
      have du' := du
      obtain ⟨a, rfl, ha⟩ := st_of du
      refine ⟨_, rfl, (ixt (SqT.of ha) st0 (.inl ⟨rfl, _, rfl, ?_⟩))⟩
      refine ite2 (fun e => ?_) (fun e => ⟨m - 1, by lia, ks, rfl, by lia, by lia, iz, hks, by lia⟩)
      refine ⟨_, rfl, m - 1, by lia, ks ++ [sx], rfl, by lia, by lia, ?_, fun s hs => ?_, by rw [List.length_append]; exact Nat.succ_le_succ lk⟩
      · rw [List.map_append]; exact IsDts.append iz (.cons du' .nil)
      · rcases List.mem_append.mp hs with h | h
        · exact hks s h
        · rw [List.mem_singleton.mp h]; exact sm
    refine .inl ⟨⟨_, SqL.of hsm2, by lia⟩, fun ke hke => ?_⟩
    obtain ⟨kep, _⟩ := pi2.2.1.ne hke
    have s3 := same_new hke (.lst zs)
    have hke3 : (upd H8 ke (.lst zs)) ke = some (.lst zs) := upd_same
    have pi3 := pi2.same s3
    have hsm3 := s3 _ _ hsm2
    have iz3 := IsDts.mono s3.tups iz
    have iu3 := IsDts.mono s3.tups iu2
    generalize upd H8 ke (.lst zs) = H3 at s3 hke3 pi3 hsm3 iz3 iu3 ⊢
    obtain ⟨ex3, dk3, sl3, hgo3, hdn3, wg, wd, lss, fit⟩ := pi3
    have lss8 : ss.length <= 8 := by have := wg.len; have := wd.len; lia
    refine ⟨_, rfl, p, c, _, rfl, dk3, by lia, fun cell H4 ex4 dk4 => ?_⟩
    have t34 := dk3.tups ex4
    have sl4 := sl3.keep (H' := H4) (fun o => ex4 _ o pap) t34
    have hgo4 := ex4 _ _ gop hgo3
    have hdn4 := ex4 _ _ dnp hdn3
    have hsm4 := ex4 _ _ smp hsm3
    have hke4 := ex4 _ _ kep hke3
    have iz4 := IsDts.mono t34 iz3
    have iu4 := IsDts.mono t34 iu3
    have exH4 := ex3.trans ex4
    dsimp only [gName]
    refine join_seq (fun σ H' => ∃ (sm2 : Addr) (us2 : List V) (ss2 : List Stp), σ = [some (.ref p), some (.ref b), some (.ref pa), some (.ref go), some (.ref dn), some (.ref sm2), some (.ref ke), some (.int cell), o8] /\ Same H4 H' /\ H' sm2 = some (.lst us2) /\ IsDts H' (ss2.map stS) us2 /\ (∀ s ∈ ss2, okL gs cs g d s) /\ us2 ≠ []) ?tl fun Kt tail => ?mn
    case mn =>
      have okA : ∀ s ∈ ss', okL gs cs g d s := fun s hs => (mem s).mp hs
      refine ⟨_, rfl, _, _, rfl, rfl, (by show (0 : Int) < 2; decide), .inl ⟨rfl, _, rfl, ?_⟩⟩
      refine ite2 (fun e => ?_) (fun e => tail _ _ ⟨sm', us', ss', rfl, .refl _, hsm4, iu4, okA, ne'⟩)
      refine ⟨_, rfl, (by show 0 <= sizeLine; decide), fun e5 he5 => .inr (.inr ⟨ke, e5, zs, rfl, rfl, same_new he5 _ _ _ hke4, upd_same, _, rfl, ?_⟩)⟩
      have s5 := same_new he5 (.lst [])
      generalize upd H4 e5 (.lst []) = H5 at s5 ⊢
      refine ite2 (fun e2 => ?_) (fun e2 => tail _ _ ⟨sm', us', ss', rfl, s5, s5 _ _ hsm4, IsDts.mono s5.tups iu4, okA, ne'⟩)
      exact ⟨_, rfl, tail _ _ ⟨ke, zs, ks, rfl, s5, s5 _ _ hke4, IsDts.mono s5.tups iz4, fun s hs => okA s (hks s hs), of_decide_eq_true e2⟩⟩
    case tl =>
      rintro σ H5 ⟨sm2, us2, ss2, rfl, s5, hsm5, iu5, ok5, ne5⟩
      have pos : (0 : Int) < (us2.length : Int) := by
        cases us2 with
        | nil => exact absurd rfl ne5
        | cons _ _ => simp
      obtain ⟨v1, hv1, hm1⟩ := atI_mem (xs := us2) (mod_lt (cell / 2) _ pos).1 (mod_lt (cell / 2) _ pos).2
      obtain ⟨i1, hi1⟩ := List.mem_iff_getElem?.mp hm1
      have l5 : us2.length = ss2.length := by rw [iu5.length, List.length_map]
      have hi1' : i1 < ss2.length := by have := (List.getElem?_eq_some_iff.mp hi1).1; lia
      obtain ⟨u, hu', du⟩ := iu5.get (i := i1) (d := stS ss2[i1]) (by rw [List.getElem?_map, List.getElem?_eq_getElem hi1']; rfl)
      rw [hu'] at hi1
      cases hi1
      have oks := ok5 _ (List.getElem_mem hi1')
      generalize ss2[i1] = st at du oks
      have du' := du
      obtain ⟨a, rfl, ha⟩ := st_of du
      refine ⟨_, rfl, _, rfl, _, _, rfl, rfl, cdiv (by decide) (by decide), _, rfl, .inl ⟨sm2, _, rfl, .inl (SqL.of hsm5), _, _, rfl, rfl, pos, (ixl (SqL.of hsm5) hv1 ?_)⟩⟩
      obtain ⟨us, hpa4, ius4⟩ := sl4
      have hpa5 := s5 _ _ hpa4
      have lus : us.length = ss.length := by rw [ius4.length, List.length_map]
      refine ⟨_, rfl, .inl ⟨rfl, _, SqL.of hpa5⟩, _, rfl, pa, _, _, rfl, rfl, hpa5, line1 (by lia), ?_⟩
      have sl6 : SL (upd H5 pa (.lst (us ++ [.ref a]))) pa (ss ++ [st]) := SL.add ius4 s5.tups hpa5 du'
      have ex6 : Ex p H (upd H5 pa (.lst (us ++ [.ref a]))) := Ex.upd' (exH4.trans s5.ex) hpa
      have dk6 := (dk4.keep s5).upd (o := .lst (us ++ [.ref a])) pap pac
      have hgo6 : (upd H5 pa (.lst (us ++ [.ref a]))) go = some (.lst (g.map V.int)) := by rw [upd_ne ngp]; exact s5 _ _ hgo4
      have hdn6 : (upd H5 pa (.lst (us ++ [.ref a]))) dn = some (.lst (d.map V.int)) := by rw [upd_ne ndp]; exact s5 _ _ hdn4
      have ha6 : (upd H5 pa (.lst (us ++ [.ref a]))) a = some (.tup (stV st.st)) := Tups.lst hpa5 _ _ ha
      generalize upd H5 pa (.lst (us ++ [.ref a])) = H6 at sl6 ex6 dk6 hgo6 hdn6 ha6 ⊢
      obtain ⟨wg', wd'⟩ := okL_wi wg wd oks
      have lint : ∀ (l : List Int) (x : Int), l.map V.int ++ [V.int x] = (l ++ [x]).map V.int := fun l x => by rw [List.map_append]; rfl
      have lg4 := wg.len
      have ld4 := wd.len
      dsimp only [tNext]
      refine join_seq (fun σ H' => σ = [some (.ref p), some (.ref b), some (.ref pa), some (.ref go), some (.ref dn), some (.ref sm2), some (.ref ke), some (.int cell), some (.ref a)] /\ SL H' pa (ss ++ [st]) /\ Ex p H H' /\ Dk H' p c (n + ss.length + 1) /\ H' go = some (.lst ((g ++ st.gn).map V.int)) /\ H' dn = some (.lst (d.map V.int)) /\ H' a = some (.tup (stV st.st))) ?tl2 fun Kt tail2 => ?mn2
      case mn2 =>
        cases st with
        | ask k =>
          have ha' : H6 a = some (.tup [V.str "ask", .int k]) := ha6
          refine ⟨_, rfl, (ixt (SqT.of ha') rfl (.inl ⟨rfl, _, rfl, iteN (by decide) ?_⟩))⟩
          exact tail2 _ _ ⟨rfl, sl6, ex6, dk6, by simpa [Stp.gn] using hgo6, hdn6, ha6⟩
        | go k =>
          have ha' : H6 a = some (.tup [V.str "go", .int k]) := ha6
          refine ⟨_, rfl, (ixt (SqT.of ha') rfl (.inl ⟨rfl, _, rfl, iteP (by decide) ?_⟩))⟩
          refine ⟨_, rfl, .inl ⟨rfl, _, SqL.of hgo6⟩, _, rfl, (ixt (SqT.of ha') rfl ⟨go, _, _, rfl, rfl, hgo6, line1 (by rw [List.length_map]; lia), ?_⟩)⟩
          rw [lint]
          exact tail2 _ _ ⟨rfl, sl6.keep (fun o z => by rw [upd_ne (Ne.symm ngp)]; exact z) (Tups.lst hgo6), Ex.upd' ex6 goH, dk6.upd gop goc, upd_same, by rw [upd_ne ndg]; exact hdn6, Tups.lst hgo6 _ _ ha6⟩
        | seek k j =>
          have ha' : H6 a = some (.tup [V.str "seek", .int k, .int j]) := ha6
          refine ⟨_, rfl, (ixt (SqT.of ha') rfl (.inl ⟨rfl, _, rfl, iteP (by decide) ?_⟩))⟩
          refine ⟨_, rfl, .inl ⟨rfl, _, SqL.of hgo6⟩, _, rfl, (ixt (SqT.of ha') rfl ⟨go, _, _, rfl, rfl, hgo6, line1 (by rw [List.length_map]; lia), ?_⟩)⟩
          rw [lint]
          exact tail2 _ _ ⟨rfl, sl6.keep (fun o z => by rw [upd_ne (Ne.symm ngp)]; exact z) (Tups.lst hgo6), Ex.upd' ex6 goH, dk6.upd gop goc, upd_same, by rw [upd_ne ndg]; exact hdn6, Tups.lst hgo6 _ _ ha6⟩
      case tl2 =>
        rintro σ H7 ⟨rfl, sl7, ex7, dk7, hgo7, hdn7, ha7⟩
        refine join_seq (fun σ H' => σ = [some (.ref p), some (.ref b), some (.ref pa), some (.ref go), some (.ref dn), some (.ref sm2), some (.ref ke), some (.int cell), some (.ref a)] /\ SL H' pa (ss ++ [st]) /\ Ex p H H' /\ Dk H' p c (n + ss.length + 1) /\ H' go = some (.lst ((g ++ st.gn).map V.int)) /\ H' dn = some (.lst ((d ++ st.cl).map V.int))) ?tl3 fun Kt tail3 => ?mn3
        case mn3 =>
          cases st with
          | go k =>
            have ha' : H7 a = some (.tup [V.str "go", .int k]) := ha7
            refine ⟨_, rfl, (ixt (SqT.of ha') rfl (.inl ⟨rfl, _, rfl, iteN (by decide) ?_⟩))⟩
            exact tail3 _ _ ⟨rfl, sl7, ex7, dk7, hgo7, by simpa [Stp.cl] using hdn7⟩
          | ask k =>
            have ha' : H7 a = some (.tup [V.str "ask", .int k]) := ha7
            refine ⟨_, rfl, (ixt (SqT.of ha') rfl (.inl ⟨rfl, _, rfl, iteP (by decide) ?_⟩))⟩
            refine ⟨_, rfl, .inl ⟨rfl, _, SqL.of hdn7⟩, _, rfl, _, rfl, (ixt (SqT.of ha') rfl ⟨dn, _, _, rfl, rfl, hdn7, line1 (by rw [List.length_map]; lia), ?_⟩)⟩
            rw [lint]
            exact tail3 _ _ ⟨rfl, sl7.keep (fun o z => by rw [upd_ne (Ne.symm ndp)]; exact z) (Tups.lst hdn7), Ex.upd' ex7 dnH, dk7.upd dnp dnc, by rw [upd_ne (Ne.symm ndg)]; exact hgo7, upd_same⟩
          | seek k j =>
            have ha' : H7 a = some (.tup [V.str "seek", .int k, .int j]) := ha7
            refine ⟨_, rfl, (ixt (SqT.of ha') rfl (.inl ⟨rfl, _, rfl, iteP (by decide) ?_⟩))⟩
            refine ⟨_, rfl, .inl ⟨rfl, _, SqL.of hdn7⟩, _, rfl, _, rfl, (ixt (SqT.of ha') rfl ⟨dn, _, _, rfl, rfl, hdn7, line1 (by rw [List.length_map]; lia), ?_⟩)⟩
            rw [lint]
            exact tail3 _ _ ⟨rfl, sl7.keep (fun o z => by rw [upd_ne (Ne.symm ndp)]; exact z) (Tups.lst hdn7), Ex.upd' ex7 dnH, dk7.upd dnp dnc, by rw [upd_ne (Ne.symm ndg)]; exact hgo7, upd_same⟩
        case tl3 =>
          rintro σ H8 ⟨rfl, sl8, ex8, dk8, hgo8, hdn8⟩
          refine ⟨_, rfl, _, rfl, _, rfl, b, go, dn, gs, cs, _, _, rfl, br.mono (dk.tups ex8), hgo8, hdn8, fun l9 ss9 H9 s9 hl9 sl9 mem9 ls9 => ?_⟩
          have st1 := stp_len st
          have la := wg'.len
          have lb := wd'.len
          have ea : (g ++ st.gn).length = g.length + st.gn.length := List.length_append
          have eb : (d ++ st.cl).length = d.length + st.cl.length := List.length_append
          refine toN _ _ ⟨_, ?_, ss ++ [st], ss9, g ++ st.gn, d ++ st.cl, l9, _, _, _, rfl, rfl, ⟨ex8.trans s9.ex, (dk8.keep s9).mono (by rw [List.length_append]; simp; lia), sl8.keep (s9 _) s9.tups, s9 _ _ hgo8, s9 _ _ hdn8, wg', wd', by rw [List.length_append]; simp only [List.length_singleton]; lia, fun rest h => ?_⟩, sl9, (dk8.ne hl9).1, mem9, ls9⟩
          · lia
          · have := fit (st.st :: rest) ⟨st, rfl, oks, h⟩
            rw [List.map_append, List.append_assoc]
            exact this
  · have eu : us' = [] := Decidable.byContradiction fun z => e (decide_eq_true z)
    have es : ss' = [] := by rw [eu] at lu'; exact List.length_eq_zero_iff.mp lu'.symm
    obtain ⟨ex3, dk3, ⟨us, hpa3, ius⟩, hgo3, hdn3, wg, wd, lss, fit⟩ := pi2
    have lss8 : ss.length <= 8 := by have := wg.len; have := wd.len; lia
    have fn := end_fin wg wd fun s o => by have := (mem s).mpr o; rw [es] at this; cases this
    refine ⟨_, rfl, pa, _, rfl, .inl ⟨SqL.of hpa3, fun q hq => ?_⟩⟩
    have s4 := same_new hq (.tup us)
    have := fit [] fn
    rw [List.append_nil] at this
    exact fin q us ss _ (ex3.trans s4.ex) ((dk3.keep s4).mono (by lia)) upd_same (IsDts.mono s4.tups ius) this lss8
end
end K66
end
section
namespace K66
open PySem L2 Kn
noncomputable def GS (H : Hp) (u : V) : Prop := ∃ st : Step, IsDt H (stD st) u /\ st.2.length <= 10
noncomputable def AG (H : Hp) (l : List V) : Prop := ∀ u ∈ l, GS H u
theorem GS.mono {H H' : Hp} (s : Tups H H') {u : V} (h : GS H u) : GS H' u := by
  obtain ⟨st, i, l⟩ := h
  exact ⟨st, IsDt.mono s i, l⟩
theorem AG.mono {H H' : Hp} (s : Tups H H') {l : List V} (h : AG H l) : AG H' l := fun u hu => (h u hu).mono s
theorem AG.new {H : Hp} {q : Addr} {l : List V} (st : Step) (h : AG H l) (hq : H q = none) (hs : st.2.length <= 10) : AG (upd H q (.tup (stV st))) (l ++ [.ref q]) := fun u hu => by
  rcases List.mem_append.mp hu with z | z
  · exact (h u z).mono (same_new hq _).tups
  · rw [List.mem_singleton.mp z]; exact ⟨st, st_is upd_same, hs⟩
noncomputable def SG (H : Hp) (l : Addr) (n : Nat) : Prop := ∃ us, H l = some (.lst us) /\ AG H us /\ us.length = n
theorem SG.mono {H H' : Hp} (s : Same H H') {l : Addr} {n : Nat} (h : SG H l n) : SG H' l n := by
  obtain ⟨us, h1, h2, h3⟩ := h
  exact ⟨us, s _ _ h1, h2.mono s.tups, h3⟩
noncomputable def GP (H : Hp) (q : Addr) (n : Nat) : Prop := ∃ us, H q = some (.tup us) /\ AG H us /\ us.length <= n
theorem GP.mono {H H' : Hp} (s : Same H H') {q : Addr} {n : Nat} (h : GP H q n) : GP H' q n := by
  obtain ⟨us, h1, h2, h3⟩ := h
  exact ⟨us, s _ _ h1, h2.mono s.tups, h3⟩
theorem GP.le {H : Hp} {q : Addr} {n m : Nat} (h : GP H q n) (l : n <= m) : GP H q m := by
  obtain ⟨us, h1, h2, h3⟩ := h
  exact ⟨us, h1, h2, by lia⟩
theorem ag_sts {H : Hp} : ∀ {us : List V}, AG H us -> ∃ sts : List Step, IsDts H (sts.map stD) us /\ ∀ st ∈ sts, st.2.length <= 10
  | [], _ => ⟨[], .nil, fun _ h => (nomatch h)⟩
  | u :: us, h => by
    obtain ⟨st, i, l⟩ := h u List.mem_cons_self
    obtain ⟨sts, i2, l2⟩ := ag_sts (us := us) fun x hx => h x (List.mem_cons_of_mem _ hx)
    exact ⟨st :: sts, .cons i i2, fun x hx => (List.mem_cons.mp hx).elim (fun e => by rw [e]; exact l) (l2 x)⟩
theorem gp_of {H : Hp} {q : Addr} {us : List V} {ss : List Stp} {n : Nat} (h : H q = some (.tup us)) (i : IsDts H (ss.map stS) us) (l : ss.length <= n) : GP H q n := by
  refine ⟨us, h, fun u hu => ?_, by rw [i.length, List.length_map]; exact l⟩
  obtain ⟨k, hk⟩ := List.mem_iff_getElem?.mp hu
  have hl := (List.getElem?_eq_some_iff.mp hk).1
  have hl' : k < ss.length := by rw [i.length, List.length_map] at hl; exact hl
  obtain ⟨u', e, d⟩ := i.get (i := k) (d := stS ss[k]) (by rw [List.getElem?_map, List.getElem?_eq_getElem hl']; rfl)
  rw [hk] at e
  cases e
  exact ⟨ss[k].st, d, by cases ss[k] <;> simp [Stp.st]⟩
theorem cut_asg {te : TE} {g : TG} {u : TS} {D : Ends} {σ : St} {H : Hp} (I : St -> Hp -> Prop) (tail : ∀ σ H, I σ H -> u D σ H) (main : ∀ Kt : St -> Hp -> Prop, (∀ σ H, I σ H -> Kt σ H) -> tAsg te g { nx := Kt, rt := D.rt, bk := D.bk, ct := D.ct } σ H) : tSeq (tAsg te g) u D σ H := main _ tail
section
variable {K : PySem.W.Frag}
theorem sl_good {H : Hp} {a : Addr} {lo hi : Option Int} {n : Nat} {Q : VK} (h : GP H a n) (q : ∀ q H', Same H H' -> GP H' q n -> Q (.ref q) H') :
    rSlL K (.ref a) lo hi H Q \/ (rSlT K (.ref a) lo hi H Q \/ (rSlW K (.ref a) lo hi H Q \/ rSlS (.ref a) lo hi H Q)) := by
  obtain ⟨us, h1, h2, h3⟩ := h
  by_cases f : HT.sIx us.length 0 lo = 0 /\ HT.sIx us.length us.length hi = us.length
  · exact .inr (.inr (.inl ⟨a, us, rfl, SqT.of h1, f.1, f.2, q a H (.refl _) ⟨us, h1, h2, h3⟩⟩))
  · refine .inr (.inl ⟨a, us, rfl, SqT.of h1, f, fun p hp => q p _ (same_new hp _) ⟨_, upd_same, fun u hu => ?_, by have := cut_len us lo hi; lia⟩⟩)
    unfold cutV at hu
    exact (h2 u (List.mem_of_mem_drop (List.mem_of_mem_take hu))).mono (same_new hp _).tups
theorem cat_good {H : Hp} {a b : Addr} {n m : Nat} {Q : VK} (h : GP H a n) (k : GP H b m) (l : n + m <= 1000) (q : ∀ q H', Same H H' -> GP H' q (n + m) -> Q (.ref q) H') :
    rI0 (fun i j => .int (i + j)) (.ref a) (.ref b) H Q \/ ((∃ i j, V.ref a = .str i /\ V.ref b = .str j /\ i.length + j.length <= sizeLine /\ Q (.str (i ++ j)) H) \/ (rCat (.ref a) (.ref b) H Q \/ rCatT' K (.ref a) (.ref b) H Q)) := by
  obtain ⟨us, h1, h2, h3⟩ := h
  obtain ⟨ws, k1, k2, k3⟩ := k
  refine .inr (.inr (.inr ⟨a, b, us, ws, rfl, rfl, h1, k1, Nat.le_of_lt (line1 (by lia)), fun p H' s hp => q p H' s ⟨_, hp, fun u hu => ?_, by rw [List.length_append]; lia⟩⟩))
  rcases List.mem_append.mp hu with z | z
  · exact (h2 u z).mono (show Same H H' from s).tups
  · exact (k2 u z).mono (show Same H H' from s).tups
end
noncomputable def PG (H : Hp) (us : List V) : Prop := ∀ u ∈ us, ∃ q, u = .ref q /\ GP H q 40
theorem PG.mono {H H' : Hp} (s : Same H H') {us : List V} (h : PG H us) : PG H' us := fun u hu => by
  obtain ⟨q, e, g⟩ := h u hu
  exact ⟨q, e, g.mono s⟩
noncomputable def SP (H : Hp) (l : Addr) (n : Nat) : Prop := ∃ us, H l = some (.lst us) /\ PG H us /\ us.length = n
theorem SP.mono {H H' : Hp} (s : Same H H') {l : Addr} {n : Nat} (h : SP H l n) : SP H' l n := by
  obtain ⟨us, h1, h2, h3⟩ := h
  exact ⟨us, s _ _ h1, h2.mono s, h3⟩
theorem PG.nil {H : Hp} : PG H [] := fun u hu => (nomatch hu)
theorem PG.cons {H : Hp} {q : Addr} {us : List V} (g : GP H q 40) (h : PG H us) : PG H (.ref q :: us) := fun u hu => (List.mem_cons.mp hu).elim (fun e => ⟨q, e, g⟩) (h u)
section
variable {P : Program} {w : World} {K : PySem.W.Frag} {mg : Str -> Option Value} {base : Heap} {f f_next : Addr} {fd fd_next : FuncData}
theorem sc__law_spoilt : FnScope ["deck", "branch", "plan", "cell", "i", "j", "some", "fresh", "at", "ways", "moved"] ["deck", "branch", "plan"] (defScope (top 33)) := ⟨rfl, rfl, rfl, by decide +kernel, rfl, by decide +kernel, by decide +kernel⟩
noncomputable def spSpoilt : Sp := fun vs H Q _ => ∃ (p c b pl : Addr) (n : Int) (gs : List Gen) (cs : List Qt), vs = [.ref p, .ref b, .ref pl] /\ Dk H p c n /\ n < 900000 /\ Br H b gs cs /\ GP H pl 8 /\
  ∀ (q : Addr) (H' : Hp), Ex p H H' -> Dk H' p c (n + 1) -> GP H' q 40 -> Q (.ref q) H'
theorem ok_spoilt (T : Tx mg) (D : Df K mg "_law_spoilt" (top 33) f fd ["deck", "branch", "plan"])
    (D__law_next : Df K mg "_law_next" (top 20) f_next fd_next ["deck"]) (G__law_next : FnOk P w K mg base CX0 1 f_next fd_next ["deck"] spNext) : FnOk P w K mg base CX0 2 f fd ["deck", "branch", "plan"] spSpoilt := by
  refine D.fn.okH sc__law_spoilt (fun vs H Q E h => ?_) (fun cdv A outer s H vs Q E hr h => ?_)
  · obtain ⟨p, c, b, pl, n, gs, cs, rfl, _⟩ := h; rfl
  obtain ⟨p, c, b, pl, n, gs, cs, rfl, dk, hn, br, gp, fin⟩ := h
  have hu := u110 hr
  have hu0 := u0 hr
  have hu1 := hu_of hr
  refine ⟨_, (wss_cons (ws_set (i := 3) sc__law_spoilt.nd rfl (Or.inl rfl) (we_call G__law_next (hr.mono (by lia)) rfl D__law_next.mg D__law_next.kp D__law_next.b .nil pass0 (wa_cons (wv 0) wa_nil)))
      (wss_cons (ws_set (i := 4) sc__law_spoilt.nd rfl (Or.inl rfl) (we_op op_mod (we_op op_fdiv (wv 3) we_int) we_int))
      (wss_cons (ws_set (i := 5) sc__law_spoilt.nd rfl (Or.inl rfl) (we_op op_mod (we_op op_fdiv (wv 3) we_int) we_int))
      (wss_cons (ws_set (i := 6) sc__law_spoilt.nd rfl (Or.inl rfl) (we_lst (wa_cons (we_tup (wa_cons we_str wa_nil)) (wa_cons (we_tup (wa_cons we_str (wa_cons (wv 4) wa_nil))) (wa_cons (we_tup (wa_cons we_str (wa_cons (we_un un_neg we_int) wa_nil))) (wa_cons (we_tup (wa_cons we_str (wa_cons (wv 4) wa_nil))) (wa_cons (we_tup (wa_cons we_str (wa_cons (we_op op_pow we_int we_int) wa_nil))) (wa_cons (we_tup (wa_cons we_str (wa_cons (wv 4) (wa_cons (wv 5) (wa_cons we_int wa_nil))))) (wa_cons (we_tup (wa_consts rfl)) wa_nil)))))))))
      (wss_cons (ws_set (i := 6) sc__law_spoilt.nd rfl (Or.inl rfl) (we_op op_plus (wv 6) (we_lst (wa_cons (we_tup (wa_consts rfl)) (wa_cons (we_tup (wa_cons we_str (wa_cons (wv 4) wa_nil))) (wa_cons (we_tup (wa_cons we_str (wa_cons (wv 5) wa_nil))) (wa_cons (we_tup (wa_cons we_str (wa_cons (wv 4) (wa_cons (wv 5) wa_nil)))) (wa_cons (we_tup (wa_cons we_str (wa_cons (we_callB call_lenU rfl T.z_len bt_len (wa_cons (we_ix (ix_U hu1) (wv 1) we_int (fun _ _ => rfl)) wa_nil)) wa_nil))) (wa_cons (we_tup (wa_cons we_str (wa_cons (we_callB call_lenU rfl T.z_len bt_len (wa_cons (we_ix (ix_U hu1) (wv 1) we_int (fun _ _ => rfl)) wa_nil)) wa_nil))) wa_nil)))))))))
      (wss_cons (ws_set (i := 6) sc__law_spoilt.nd rfl (Or.inl rfl) (we_op op_plus (wv 6) (we_lst (wa_cons (we_tup (wa_cons we_str (wa_cons (wv 4) (wa_cons (wv 5) wa_nil)))) (wa_cons (we_tup (wa_cons we_str (wa_cons (wv 4) (wa_cons (wv 5) wa_nil)))) (wa_cons (we_tup (wa_cons we_str (wa_cons (wv 4) (wa_cons (we_un un_neg we_int) wa_nil)))) (wa_cons (we_tup (wa_cons we_str (wa_cons (we_un un_neg we_int) (wa_cons (wv 5) wa_nil)))) (wa_cons (we_tup (wa_cons we_str (wa_cons (wv 4) (wa_cons we_str wa_nil)))) (wa_cons (we_tup (wa_cons we_str (wa_cons we_str (wa_cons (wv 5) wa_nil)))) wa_nil)))))))))
      (wss_cons (ws_set (i := 6) sc__law_spoilt.nd rfl (Or.inl rfl) (we_op op_plus (wv 6) (we_lst (wa_cons (we_tup (wa_cons we_str (wa_cons (wv 4) (wa_cons (we_callB call_lenU rfl T.z_len bt_len (wa_cons (we_ix (ix_U hu1) (wv 1) we_int (fun _ _ => rfl)) wa_nil)) wa_nil)))) (wa_cons (we_tup (wa_cons we_str (wa_cons (we_un un_neg we_int) wa_nil))) (wa_cons (we_tup (wa_cons we_str (wa_cons (wv 4) (wa_cons we_int wa_nil)))) (wa_cons (we_tup (wa_cons we_str (wa_cons (wv 5) (wa_cons we_int wa_nil)))) (wa_cons (we_tup (wa_cons we_str (wa_cons (wv 4) (wa_cons (wv 5) wa_nil)))) (wa_cons (we_tup (wa_cons we_str (wa_cons (wv 4) (wa_cons (wv 5) wa_nil)))) wa_nil)))))))))
      (wss_cons (ws_set (i := 7) sc__law_spoilt.nd rfl (Or.inl rfl) (we_ix (ix_U hu1) (wv 6) (we_op op_mod (we_op op_fdiv (wv 3) we_int) we_int) (fun _ _ => rfl)))
      (wss_cons (ws_set (i := 8) sc__law_spoilt.nd rfl (Or.inl rfl) (we_op op_mod (we_op op_fdiv (wv 3) we_int) (we_op op_plus (we_callB call_lenU rfl T.z_len bt_len (wa_cons (wv 2) wa_nil)) we_int)))
      (wss_cons (ws_set (i := 9) sc__law_spoilt.nd rfl (Or.inl rfl) (we_lst (wa_cons (we_op op_plus (we_slice sl_U (wv 2) wo_none (wo_some (wv 8))) (we_slice sl_U (wv 2) (wo_some (we_op op_plus (wv 8) we_int)) wo_none)) (wa_cons (we_op op_plus (we_op op_plus (we_slice sl_U (wv 2) wo_none (wo_some (wv 8))) (we_slice sl_U (wv 2) (wo_some (wv 8)) (wo_some (we_op op_plus (wv 8) we_int)))) (we_slice sl_U (wv 2) (wo_some (wv 8)) wo_none)) (wa_cons (we_op op_plus (we_op op_plus (we_slice sl_U (wv 2) wo_none (wo_some (wv 8))) (we_tup (wa_cons (wv 7) wa_nil))) (we_slice sl_U (wv 2) (wo_some (wv 8)) wo_none)) wa_nil)))))
      (wss_cons (ws_set (i := 9) sc__law_spoilt.nd rfl (Or.inl rfl) (we_op op_plus (wv 9) (we_lst (wa_cons (we_op op_plus (we_op op_plus (we_slice sl_U (wv 2) wo_none (wo_some (wv 8))) (we_tup (wa_cons (wv 7) wa_nil))) (we_slice sl_U (wv 2) (wo_some (we_op op_plus (wv 8) we_int)) wo_none)) (wa_cons (we_op op_plus (we_op op_plus (we_slice sl_U (wv 2) wo_none (wo_some (wv 8))) (we_revT (we_slice sl_U (wv 2) (wo_some (wv 8)) (wo_some (we_op op_plus (wv 8) we_int))))) (we_slice sl_U (wv 2) (wo_some (we_op op_plus (wv 8) we_int)) wo_none)) wa_nil)))))
      (wss_cons (ws_set (i := 10) sc__law_spoilt.nd rfl (Or.inl rfl) (we_op op_plus (we_op op_plus (we_slice sl_U (wv 2) (wo_some (wv 8)) (wo_some (we_op op_plus (wv 8) we_int))) (we_slice sl_U (wv 2) wo_none (wo_some (wv 8)))) (we_slice sl_U (wv 2) (wo_some (we_op op_plus (wv 8) we_int)) wo_none)))
      (wss_one (ws_ret (we_ix (ix_U hu1) (we_op op_plus (wv 9) (we_lst (wa_cons (we_op op_plus (we_slice sl_U (wv 2) wo_none (wo_some (wv 8))) (we_tup (wa_cons (wv 7) wa_nil))) (wa_cons (wv 10) (wa_cons (we_revT (wv 2)) wa_nil))))) (we_op op_mod (wv 3) we_int) (fun _ _ => rfl)))))))))))))))), ?_⟩
  obtain ⟨X', gX'⟩ : ∃ X', X' = (cxOf CX0 P w K mg base ["deck", "branch", "plan", "cell", "i", "j", "some", "fresh", "at", "ways", "moved"] "_law_spoilt" (defScope (top 33)) f cdv A outer s H E).nox := ⟨_, rfl⟩
  try rw [<- gX']
  clear gX'
  refine ⟨_, rfl, p, c, n, rfl, dk, by lia, fun cell H0 ex0 dk0 => ?_⟩
  have br0 := br.mono (dk.tups ex0)
  have gp0 : GP H0 pl 8 := by
    obtain ⟨us, h1, h2, h3⟩ := gp
    exact ⟨us, dk.tups ex0 _ _ h1, h2.mono (dk.tups ex0), h3⟩
  obtain ⟨ff, ga, ca, row, gus, cus, hb, hg, ig, hc, ic, lg, lc, cok⟩ := br0
  clear ig ic cok gp br
  refine ⟨_, rfl, _, _, rfl, rfl, cdiv (by decide) (by decide), _, _, rfl, rfl, (by show (0 : Int) < 5; decide), ?_⟩
  refine ⟨_, rfl, _, _, rfl, rfl, cdiv (by decide) (by decide), _, _, rfl, rfl, (by show (0 : Int) < 5; decide), ?_⟩
  dsimp only [gName]
  generalize cell / 8 % 5 = i
  generalize cell / 40 % 5 = j
  refine cut_asg (fun σ H' => ∃ l, σ = [some (.ref p), some (.ref b), some (.ref pl), some (.int cell), some (.int i), some (.int j), some (.ref l), none, none, none, none] /\ Same H0 H' /\ SG H' l 7) ?tl1 fun Kt kt => ?mn1
  case mn1 =>
   have s0 : Same H0 H0 := .refl _
   have ag0 : AG H0 [] := fun u hu => (nomatch hu)
   refine ⟨(by show 1 <= sizeLine; decide), fun q1 hq1 => ?_⟩
   have ag1 : AG (upd H0 q1 (.tup [.str "go"])) ([.ref q1]) := AG.new ("go", []) ag0 hq1 (by simp)
   have s1 : Same H0 (upd H0 q1 (.tup [.str "go"])) := s0.trans (same_new hq1 _)
   generalize upd H0 q1 (.tup [.str "go"]) = H1 at ag1 s1 ⊢
   refine ⟨_, rfl, (by show 2 <= sizeLine; decide), fun q2 hq2 => ?_⟩
   have ag2 : AG (upd H1 q2 (.tup [.str "seek", .int i])) ([.ref q1, .ref q2]) := AG.new ("seek", [.int i]) ag1 hq2 (by simp)
   have s2 : Same H0 (upd H1 q2 (.tup [.str "seek", .int i])) := s1.trans (same_new hq2 _)
   generalize upd H1 q2 (.tup [.str "seek", .int i]) = H2 at ag2 s2 ⊢
   refine ⟨_, rfl, (by show 2 <= sizeLine; decide), fun q3 hq3 => ?_⟩
   have ag3 : AG (upd H2 q3 (.tup [.str "ask", .int (-1)])) ([.ref q1, .ref q2, .ref q3]) := AG.new ("ask", [.int (-1)]) ag2 hq3 (by simp)
   have s3 : Same H0 (upd H2 q3 (.tup [.str "ask", .int (-1)])) := s2.trans (same_new hq3 _)
   generalize upd H2 q3 (.tup [.str "ask", .int (-1)]) = H3 at ag3 s3 ⊢
   refine ⟨_, rfl, (by show 2 <= sizeLine; decide), fun q4 hq4 => ?_⟩
   have ag4 : AG (upd H3 q4 (.tup [.str "foo", .int i])) ([.ref q1, .ref q2, .ref q3, .ref q4]) := AG.new ("foo", [.int i]) ag3 hq4 (by simp)
   have s4 : Same H0 (upd H3 q4 (.tup [.str "foo", .int i])) := s3.trans (same_new hq4 _)
   generalize upd H3 q4 (.tup [.str "foo", .int i]) = H4 at ag4 s4 ⊢
   refine ⟨_, _, rfl, rfl, ⟨by decide, by decide, by decide⟩, (by show 2 <= sizeLine; decide), fun q5 hq5 => ?_⟩
   have ag5 : AG (upd H4 q5 (.tup [.str "go", .int (10 ^ (20 : Int).toNat)])) ([.ref q1, .ref q2, .ref q3, .ref q4, .ref q5]) := AG.new ("go", [.int (10 ^ (20 : Int).toNat)]) ag4 hq5 (by simp)
   have s5 : Same H0 (upd H4 q5 (.tup [.str "go", .int (10 ^ (20 : Int).toNat)])) := s4.trans (same_new hq5 _)
   generalize upd H4 q5 (.tup [.str "go", .int (10 ^ (20 : Int).toNat)]) = H5 at ag5 s5 ⊢
   refine ⟨_, rfl, _, rfl, (by show 4 <= sizeLine; decide), fun q6 hq6 => ?_⟩
   have ag6 : AG (upd H5 q6 (.tup [.str "seek", .int i, .int j, .int 0])) ([.ref q1, .ref q2, .ref q3, .ref q4, .ref q5, .ref q6]) := AG.new ("seek", [.int i, .int j, .int 0]) ag5 hq6 (by simp)
   have s6 : Same H0 (upd H5 q6 (.tup [.str "seek", .int i, .int j, .int 0])) := s5.trans (same_new hq6 _)
   generalize upd H5 q6 (.tup [.str "seek", .int i, .int j, .int 0]) = H6 at ag6 s6 ⊢
   refine ⟨(by show 2 <= sizeLine; decide), fun q7 hq7 => ?_⟩
   have ag7 : AG (upd H6 q7 (.tup [.str "go", .str "x"])) ([.ref q1, .ref q2, .ref q3, .ref q4, .ref q5, .ref q6, .ref q7]) := AG.new ("go", [.txt "x"]) ag6 hq7 (by simp)
   have s7 : Same H0 (upd H6 q7 (.tup [.str "go", .str "x"])) := s6.trans (same_new hq7 _)
   generalize upd H6 q7 (.tup [.str "go", .str "x"]) = H7 at ag7 s7 ⊢
   refine ⟨(by show 7 <= sizeLine; decide), fun l8 hl8 => ?_⟩
   have sg8 : SG (upd H7 l8 (.lst [.ref q1, .ref q2, .ref q3, .ref q4, .ref q5, .ref q6, .ref q7])) l8 7 := ⟨_, upd_same, ag7.mono (same_new hl8 _).tups, rfl⟩
   have s8 : Same H0 (upd H7 l8 (.lst [.ref q1, .ref q2, .ref q3, .ref q4, .ref q5, .ref q6, .ref q7])) := s7.trans (same_new hl8 _)
   generalize upd H7 l8 (.lst [.ref q1, .ref q2, .ref q3, .ref q4, .ref q5, .ref q6, .ref q7]) = H8 at sg8 s8 ⊢
   clear ag1 ag2 ag3 ag4 ag5 ag6 ag7
   exact kt _ _ ⟨_, rfl, s8, sg8⟩
  rintro σ HN8 ⟨l08, rfl, t8, u8⟩
  refine cut_asg (fun σ H' => ∃ l, σ = [some (.ref p), some (.ref b), some (.ref pl), some (.int cell), some (.int i), some (.int j), some (.ref l), none, none, none, none] /\ Same H0 H' /\ SG H' l 13) ?tl8 fun Kt kt => ?mn8
  case mn8 =>
   have s8 := t8
   have sg8 := u8
   have ag8 : AG HN8 [] := fun u hu => (nomatch hu)
   refine ⟨_, rfl, ?_⟩
   refine ⟨(by show 2 <= sizeLine; decide), fun q9 hq9 => ?_⟩
   have ag9 : AG (upd HN8 q9 (.tup [.str "ask", .str "x"])) ([.ref q9]) := AG.new ("ask", [.txt "x"]) ag8 hq9 (by simp)
   have s9 : Same H0 (upd HN8 q9 (.tup [.str "ask", .str "x"])) := s8.trans (same_new hq9 _)
   have sg9 : SG (upd HN8 q9 (.tup [.str "ask", .str "x"])) l08 7 := sg8.mono (same_new hq9 _)
   generalize upd HN8 q9 (.tup [.str "ask", .str "x"]) = H9 at ag9 s9 sg9 ⊢
   refine ⟨_, rfl, (by show 2 <= sizeLine; decide), fun q10 hq10 => ?_⟩
   have ag10 : AG (upd H9 q10 (.tup [.str "go", .int i])) ([.ref q9, .ref q10]) := AG.new ("go", [.int i]) ag9 hq10 (by simp)
   have s10 : Same H0 (upd H9 q10 (.tup [.str "go", .int i])) := s9.trans (same_new hq10 _)
   have sg10 : SG (upd H9 q10 (.tup [.str "go", .int i])) l08 7 := sg9.mono (same_new hq10 _)
   generalize upd H9 q10 (.tup [.str "go", .int i]) = H10 at ag10 s10 sg10 ⊢
   refine ⟨_, rfl, (by show 2 <= sizeLine; decide), fun q11 hq11 => ?_⟩
   have ag11 : AG (upd H10 q11 (.tup [.str "ask", .int j])) ([.ref q9, .ref q10, .ref q11]) := AG.new ("ask", [.int j]) ag10 hq11 (by simp)
   have s11 : Same H0 (upd H10 q11 (.tup [.str "ask", .int j])) := s10.trans (same_new hq11 _)
   have sg11 : SG (upd H10 q11 (.tup [.str "ask", .int j])) l08 7 := sg10.mono (same_new hq11 _)
   generalize upd H10 q11 (.tup [.str "ask", .int j]) = H11 at ag11 s11 sg11 ⊢
   refine ⟨_, rfl, _, rfl, (by show 3 <= sizeLine; decide), fun q12 hq12 => ?_⟩
   have ag12 : AG (upd H11 q12 (.tup [.str "seek", .int i, .int j])) ([.ref q9, .ref q10, .ref q11, .ref q12]) := AG.new ("seek", [.int i, .int j]) ag11 hq12 (by simp)
   have s12 : Same H0 (upd H11 q12 (.tup [.str "seek", .int i, .int j])) := s11.trans (same_new hq12 _)
   have sg12 : SG (upd H11 q12 (.tup [.str "seek", .int i, .int j])) l08 7 := sg11.mono (same_new hq12 _)
   generalize upd H11 q12 (.tup [.str "seek", .int i, .int j]) = H12 at ag12 s12 sg12 ⊢
   refine ⟨_, rfl, .inr (.inl ⟨b, _, 1, _, rfl, rfl, SqT.of (s12 _ _ hb), rfl, .inl ⟨ga, _, rfl, .inr (SqT.of (s12 _ _ hg)), (by show 2 <= sizeLine; decide), fun q13 hq13 => ?_⟩⟩)⟩
   have ag13 : AG (upd H12 q13 (.tup [.str "go", .int gus.length])) ([.ref q9, .ref q10, .ref q11, .ref q12, .ref q13]) := AG.new ("go", [.int gus.length]) ag12 hq13 (by simp)
   have s13 : Same H0 (upd H12 q13 (.tup [.str "go", .int gus.length])) := s12.trans (same_new hq13 _)
   have sg13 : SG (upd H12 q13 (.tup [.str "go", .int gus.length])) l08 7 := sg12.mono (same_new hq13 _)
   generalize upd H12 q13 (.tup [.str "go", .int gus.length]) = H13 at ag13 s13 sg13 ⊢
   refine ⟨_, rfl, .inr (.inl ⟨b, _, 2, _, rfl, rfl, SqT.of (s13 _ _ hb), rfl, .inl ⟨ca, _, rfl, .inr (SqT.of (s13 _ _ hc)), (by show 2 <= sizeLine; decide), fun q14 hq14 => ?_⟩⟩)⟩
   have ag14 : AG (upd H13 q14 (.tup [.str "ask", .int cus.length])) ([.ref q9, .ref q10, .ref q11, .ref q12, .ref q13, .ref q14]) := AG.new ("ask", [.int cus.length]) ag13 hq14 (by simp)
   have s14 : Same H0 (upd H13 q14 (.tup [.str "ask", .int cus.length])) := s13.trans (same_new hq14 _)
   have sg14 : SG (upd H13 q14 (.tup [.str "ask", .int cus.length])) l08 7 := sg13.mono (same_new hq14 _)
   generalize upd H13 q14 (.tup [.str "ask", .int cus.length]) = H14 at ag14 s14 sg14 ⊢
   obtain ⟨us15, hus15, aus15, lus15⟩ := sg14
   refine ⟨(by show 6 <= sizeLine; decide), fun l15 hl15 => .inr (.inr (.inl ⟨l08, l15, us15, _, rfl, rfl, same_new hl15 _ _ _ hus15, upd_same, Nat.le_of_lt (line1 (by rw [lus15]; simp)), fun m15 hm15 => ?_⟩))⟩
   have s15 : Same H0 (upd (upd H14 l15 (.lst [.ref q9, .ref q10, .ref q11, .ref q12, .ref q13, .ref q14])) m15 (.lst (us15 ++ [.ref q9, .ref q10, .ref q11, .ref q12, .ref q13, .ref q14]))) := s14.trans ((same_new hl15 _).trans (same_new hm15 _))
   have t15 : Tups H14 (upd (upd H14 l15 (.lst [.ref q9, .ref q10, .ref q11, .ref q12, .ref q13, .ref q14])) m15 (.lst (us15 ++ [.ref q9, .ref q10, .ref q11, .ref q12, .ref q13, .ref q14]))) := ((same_new hl15 _).trans (same_new hm15 _)).tups
   have sg15 : SG (upd (upd H14 l15 (.lst [.ref q9, .ref q10, .ref q11, .ref q12, .ref q13, .ref q14])) m15 (.lst (us15 ++ [.ref q9, .ref q10, .ref q11, .ref q12, .ref q13, .ref q14]))) m15 13 := ⟨_, upd_same, fun u hu => (List.mem_append.mp hu).elim (fun z => (aus15 u z).mono t15) (fun z => (ag14 u z).mono t15), by rw [List.length_append, lus15]; rfl⟩
   clear t15
   generalize upd (upd H14 l15 (.lst [.ref q9, .ref q10, .ref q11, .ref q12, .ref q13, .ref q14])) m15 (.lst (us15 ++ [.ref q9, .ref q10, .ref q11, .ref q12, .ref q13, .ref q14])) = H15 at sg15 s15 ⊢
   exact kt _ _ ⟨_, rfl, s15, sg15⟩
  rintro σ HN15 ⟨l015, rfl, t15, u15⟩
  refine cut_asg (fun σ H' => ∃ l, σ = [some (.ref p), some (.ref b), some (.ref pl), some (.int cell), some (.int i), some (.int j), some (.ref l), none, none, none, none] /\ Same H0 H' /\ SG H' l 19) ?tl15 fun Kt kt => ?mn15
  case mn15 =>
   have s15 := t15
   have sg15 := u15
   have ag15 : AG HN15 [] := fun u hu => (nomatch hu)
   refine ⟨_, rfl, ?_⟩
   refine ⟨_, rfl, _, rfl, (by show 3 <= sizeLine; decide), fun q16 hq16 => ?_⟩
   have ag16 : AG (upd HN15 q16 (.tup [.str "find", .int i, .int j])) ([.ref q16]) := AG.new ("find", [.int i, .int j]) ag15 hq16 (by simp)
   have s16 : Same H0 (upd HN15 q16 (.tup [.str "find", .int i, .int j])) := s15.trans (same_new hq16 _)
   have sg16 : SG (upd HN15 q16 (.tup [.str "find", .int i, .int j])) l015 13 := sg15.mono (same_new hq16 _)
   generalize upd HN15 q16 (.tup [.str "find", .int i, .int j]) = H16 at ag16 s16 sg16 ⊢
   refine ⟨_, rfl, _, rfl, (by show 3 <= sizeLine; decide), fun q17 hq17 => ?_⟩
   have ag17 : AG (upd H16 q17 (.tup [.str "", .int i, .int j])) ([.ref q16, .ref q17]) := AG.new ("", [.int i, .int j]) ag16 hq17 (by simp)
   have s17 : Same H0 (upd H16 q17 (.tup [.str "", .int i, .int j])) := s16.trans (same_new hq17 _)
   have sg17 : SG (upd H16 q17 (.tup [.str "", .int i, .int j])) l015 13 := sg16.mono (same_new hq17 _)
   generalize upd H16 q17 (.tup [.str "", .int i, .int j]) = H17 at ag17 s17 sg17 ⊢
   refine ⟨_, rfl, _, rfl, (by show 3 <= sizeLine; decide), fun q18 hq18 => ?_⟩
   have ag18 : AG (upd H17 q18 (.tup [.str "seek", .int i, .int (-1)])) ([.ref q16, .ref q17, .ref q18]) := AG.new ("seek", [.int i, .int (-1)]) ag17 hq18 (by simp)
   have s18 : Same H0 (upd H17 q18 (.tup [.str "seek", .int i, .int (-1)])) := s17.trans (same_new hq18 _)
   have sg18 : SG (upd H17 q18 (.tup [.str "seek", .int i, .int (-1)])) l015 13 := sg17.mono (same_new hq18 _)
   generalize upd H17 q18 (.tup [.str "seek", .int i, .int (-1)]) = H18 at ag18 s18 sg18 ⊢
   refine ⟨_, rfl, _, rfl, (by show 3 <= sizeLine; decide), fun q19 hq19 => ?_⟩
   have ag19 : AG (upd H18 q19 (.tup [.str "seek", .int (-1), .int j])) ([.ref q16, .ref q17, .ref q18, .ref q19]) := AG.new ("seek", [.int (-1), .int j]) ag18 hq19 (by simp)
   have s19 : Same H0 (upd H18 q19 (.tup [.str "seek", .int (-1), .int j])) := s18.trans (same_new hq19 _)
   have sg19 : SG (upd H18 q19 (.tup [.str "seek", .int (-1), .int j])) l015 13 := sg18.mono (same_new hq19 _)
   generalize upd H18 q19 (.tup [.str "seek", .int (-1), .int j]) = H19 at ag19 s19 sg19 ⊢
   refine ⟨_, rfl, (by show 3 <= sizeLine; decide), fun q20 hq20 => ?_⟩
   have ag20 : AG (upd H19 q20 (.tup [.str "seek", .int i, .str "x"])) ([.ref q16, .ref q17, .ref q18, .ref q19, .ref q20]) := AG.new ("seek", [.int i, .txt "x"]) ag19 hq20 (by simp)
   have s20 : Same H0 (upd H19 q20 (.tup [.str "seek", .int i, .str "x"])) := s19.trans (same_new hq20 _)
   have sg20 : SG (upd H19 q20 (.tup [.str "seek", .int i, .str "x"])) l015 13 := sg19.mono (same_new hq20 _)
   generalize upd H19 q20 (.tup [.str "seek", .int i, .str "x"]) = H20 at ag20 s20 sg20 ⊢
   refine ⟨_, rfl, (by show 3 <= sizeLine; decide), fun q21 hq21 => ?_⟩
   have ag21 : AG (upd H20 q21 (.tup [.str "seek", .str "x", .int j])) ([.ref q16, .ref q17, .ref q18, .ref q19, .ref q20, .ref q21]) := AG.new ("seek", [.txt "x", .int j]) ag20 hq21 (by simp)
   have s21 : Same H0 (upd H20 q21 (.tup [.str "seek", .str "x", .int j])) := s20.trans (same_new hq21 _)
   have sg21 : SG (upd H20 q21 (.tup [.str "seek", .str "x", .int j])) l015 13 := sg20.mono (same_new hq21 _)
   generalize upd H20 q21 (.tup [.str "seek", .str "x", .int j]) = H21 at ag21 s21 sg21 ⊢
   obtain ⟨us22, hus22, aus22, lus22⟩ := sg21
   refine ⟨(by show 6 <= sizeLine; decide), fun l22 hl22 => .inr (.inr (.inl ⟨l015, l22, us22, _, rfl, rfl, same_new hl22 _ _ _ hus22, upd_same, Nat.le_of_lt (line1 (by rw [lus22]; simp)), fun m22 hm22 => ?_⟩))⟩
   have s22 : Same H0 (upd (upd H21 l22 (.lst [.ref q16, .ref q17, .ref q18, .ref q19, .ref q20, .ref q21])) m22 (.lst (us22 ++ [.ref q16, .ref q17, .ref q18, .ref q19, .ref q20, .ref q21]))) := s21.trans ((same_new hl22 _).trans (same_new hm22 _))
   have t22 : Tups H21 (upd (upd H21 l22 (.lst [.ref q16, .ref q17, .ref q18, .ref q19, .ref q20, .ref q21])) m22 (.lst (us22 ++ [.ref q16, .ref q17, .ref q18, .ref q19, .ref q20, .ref q21]))) := ((same_new hl22 _).trans (same_new hm22 _)).tups
   have sg22 : SG (upd (upd H21 l22 (.lst [.ref q16, .ref q17, .ref q18, .ref q19, .ref q20, .ref q21])) m22 (.lst (us22 ++ [.ref q16, .ref q17, .ref q18, .ref q19, .ref q20, .ref q21]))) m22 19 := ⟨_, upd_same, fun u hu => (List.mem_append.mp hu).elim (fun z => (aus22 u z).mono t22) (fun z => (ag21 u z).mono t22), by rw [List.length_append, lus22]; rfl⟩
   clear t22
   generalize upd (upd H21 l22 (.lst [.ref q16, .ref q17, .ref q18, .ref q19, .ref q20, .ref q21])) m22 (.lst (us22 ++ [.ref q16, .ref q17, .ref q18, .ref q19, .ref q20, .ref q21])) = H22 at sg22 s22 ⊢
   exact kt _ _ ⟨_, rfl, s22, sg22⟩
  rintro σ HN22 ⟨l022, rfl, t22, u22⟩
  refine cut_asg (fun σ H' => ∃ l, σ = [some (.ref p), some (.ref b), some (.ref pl), some (.int cell), some (.int i), some (.int j), some (.ref l), none, none, none, none] /\ Same H0 H' /\ SG H' l 25) ?tl22 fun Kt kt => ?mn22
  case mn22 =>
   have s22 := t22
   have sg22 := u22
   have ag22 : AG HN22 [] := fun u hu => (nomatch hu)
   refine ⟨_, rfl, ?_⟩
   refine ⟨_, rfl, _, rfl, .inr (.inl ⟨b, _, 2, _, rfl, rfl, SqT.of (s22 _ _ hb), rfl, .inl ⟨ca, _, rfl, .inr (SqT.of (s22 _ _ hc)), (by show 3 <= sizeLine; decide), fun q23 hq23 => ?_⟩⟩)⟩
   have ag23 : AG (upd HN22 q23 (.tup [.str "seek", .int i, .int cus.length])) ([.ref q23]) := AG.new ("seek", [.int i, .int cus.length]) ag22 hq23 (by simp)
   have s23 : Same H0 (upd HN22 q23 (.tup [.str "seek", .int i, .int cus.length])) := s22.trans (same_new hq23 _)
   have sg23 : SG (upd HN22 q23 (.tup [.str "seek", .int i, .int cus.length])) l022 19 := sg22.mono (same_new hq23 _)
   generalize upd HN22 q23 (.tup [.str "seek", .int i, .int cus.length]) = H23 at ag23 s23 sg23 ⊢
   refine ⟨_, rfl, (by show 2 <= sizeLine; decide), fun q24 hq24 => ?_⟩
   have ag24 : AG (upd H23 q24 (.tup [.str "go", .int (-1)])) ([.ref q23, .ref q24]) := AG.new ("go", [.int (-1)]) ag23 hq24 (by simp)
   have s24 : Same H0 (upd H23 q24 (.tup [.str "go", .int (-1)])) := s23.trans (same_new hq24 _)
   have sg24 : SG (upd H23 q24 (.tup [.str "go", .int (-1)])) l022 19 := sg23.mono (same_new hq24 _)
   generalize upd H23 q24 (.tup [.str "go", .int (-1)]) = H24 at ag24 s24 sg24 ⊢
   refine ⟨_, rfl, (by show 3 <= sizeLine; decide), fun q25 hq25 => ?_⟩
   have ag25 : AG (upd H24 q25 (.tup [.str "go", .int i, .int 0])) ([.ref q23, .ref q24, .ref q25]) := AG.new ("go", [.int i, .int 0]) ag24 hq25 (by simp)
   have s25 : Same H0 (upd H24 q25 (.tup [.str "go", .int i, .int 0])) := s24.trans (same_new hq25 _)
   have sg25 : SG (upd H24 q25 (.tup [.str "go", .int i, .int 0])) l022 19 := sg24.mono (same_new hq25 _)
   generalize upd H24 q25 (.tup [.str "go", .int i, .int 0]) = H25 at ag25 s25 sg25 ⊢
   refine ⟨_, rfl, (by show 3 <= sizeLine; decide), fun q26 hq26 => ?_⟩
   have ag26 : AG (upd H25 q26 (.tup [.str "ask", .int j, .int 0])) ([.ref q23, .ref q24, .ref q25, .ref q26]) := AG.new ("ask", [.int j, .int 0]) ag25 hq26 (by simp)
   have s26 : Same H0 (upd H25 q26 (.tup [.str "ask", .int j, .int 0])) := s25.trans (same_new hq26 _)
   have sg26 : SG (upd H25 q26 (.tup [.str "ask", .int j, .int 0])) l022 19 := sg25.mono (same_new hq26 _)
   generalize upd H25 q26 (.tup [.str "ask", .int j, .int 0]) = H26 at ag26 s26 sg26 ⊢
   refine ⟨_, rfl, _, rfl, (by show 3 <= sizeLine; decide), fun q27 hq27 => ?_⟩
   have ag27 : AG (upd H26 q27 (.tup [.str "seek", .int i, .int j])) ([.ref q23, .ref q24, .ref q25, .ref q26, .ref q27]) := AG.new ("seek", [.int i, .int j]) ag26 hq27 (by simp)
   have s27 : Same H0 (upd H26 q27 (.tup [.str "seek", .int i, .int j])) := s26.trans (same_new hq27 _)
   have sg27 : SG (upd H26 q27 (.tup [.str "seek", .int i, .int j])) l022 19 := sg26.mono (same_new hq27 _)
   generalize upd H26 q27 (.tup [.str "seek", .int i, .int j]) = H27 at ag27 s27 sg27 ⊢
   refine ⟨_, rfl, _, rfl, (by show 3 <= sizeLine; decide), fun q28 hq28 => ?_⟩
   have ag28 : AG (upd H27 q28 (.tup [.str "go", .int i, .int j])) ([.ref q23, .ref q24, .ref q25, .ref q26, .ref q27, .ref q28]) := AG.new ("go", [.int i, .int j]) ag27 hq28 (by simp)
   have s28 : Same H0 (upd H27 q28 (.tup [.str "go", .int i, .int j])) := s27.trans (same_new hq28 _)
   have sg28 : SG (upd H27 q28 (.tup [.str "go", .int i, .int j])) l022 19 := sg27.mono (same_new hq28 _)
   generalize upd H27 q28 (.tup [.str "go", .int i, .int j]) = H28 at ag28 s28 sg28 ⊢
   obtain ⟨us29, hus29, aus29, lus29⟩ := sg28
   refine ⟨(by show 6 <= sizeLine; decide), fun l29 hl29 => .inr (.inr (.inl ⟨l022, l29, us29, _, rfl, rfl, same_new hl29 _ _ _ hus29, upd_same, Nat.le_of_lt (line1 (by rw [lus29]; simp)), fun m29 hm29 => ?_⟩))⟩
   have s29 : Same H0 (upd (upd H28 l29 (.lst [.ref q23, .ref q24, .ref q25, .ref q26, .ref q27, .ref q28])) m29 (.lst (us29 ++ [.ref q23, .ref q24, .ref q25, .ref q26, .ref q27, .ref q28]))) := s28.trans ((same_new hl29 _).trans (same_new hm29 _))
   have t29 : Tups H28 (upd (upd H28 l29 (.lst [.ref q23, .ref q24, .ref q25, .ref q26, .ref q27, .ref q28])) m29 (.lst (us29 ++ [.ref q23, .ref q24, .ref q25, .ref q26, .ref q27, .ref q28]))) := ((same_new hl29 _).trans (same_new hm29 _)).tups
   have sg29 : SG (upd (upd H28 l29 (.lst [.ref q23, .ref q24, .ref q25, .ref q26, .ref q27, .ref q28])) m29 (.lst (us29 ++ [.ref q23, .ref q24, .ref q25, .ref q26, .ref q27, .ref q28]))) m29 25 := ⟨_, upd_same, fun u hu => (List.mem_append.mp hu).elim (fun z => (aus29 u z).mono t29) (fun z => (ag28 u z).mono t29), by rw [List.length_append, lus29]; rfl⟩
   clear t29
   generalize upd (upd H28 l29 (.lst [.ref q23, .ref q24, .ref q25, .ref q26, .ref q27, .ref q28])) m29 (.lst (us29 ++ [.ref q23, .ref q24, .ref q25, .ref q26, .ref q27, .ref q28])) = H29 at sg29 s29 ⊢
   exact kt _ _ ⟨_, rfl, s29, sg29⟩
  rintro σ HN29 ⟨l029, rfl, t29, u29⟩
  refine cut_asg (fun σ H' => ∃ fr, σ = [some (.ref p), some (.ref b), some (.ref pl), some (.int cell), some (.int i), some (.int j), some (.ref l029), some fr, none, none, none] /\ Same H0 H' /\ GS H' fr) ?tlF fun Kt kt => ?mnF
  case mnF =>
    obtain ⟨usF, husF, ausF, lusF⟩ := u29
    obtain ⟨fr, hfr, hfm⟩ := atI_mem (xs := usF) (r := cell / 200 % 25) (mod_lt _ 25 (by decide)).1 (by rw [lusF]; exact (mod_lt _ 25 (by decide)).2)
    refine ⟨_, rfl, _, rfl, _, _, rfl, rfl, cdiv (by decide) (by decide), _, _, rfl, rfl, (by show (0 : Int) < 25; decide), .inl ⟨l029, _, _, fr, rfl, rfl, SqL.of husF, hfr, ?_⟩⟩
    exact kt _ _ ⟨fr, rfl, t29, ausF fr hfm⟩
  rintro σ HF ⟨fr, rfl, tF, hF⟩
  refine cut_asg (fun σ H' => ∃ at' : Int, σ = [some (.ref p), some (.ref b), some (.ref pl), some (.int cell), some (.int i), some (.int j), some (.ref l029), some fr, some (.int at'), none, none] /\ Same H0 H' /\ GS H' fr) ?tlA fun Kt kt => ?mnA
  case mnA =>
    obtain ⟨usP, husP, ausP, lusP⟩ := gp0.mono tF
    refine ⟨_, rfl, _, _, rfl, rfl, cdiv (by decide) (by decide), _, rfl, .inl ⟨pl, _, rfl, .inr (SqT.of husP), .inl ⟨_, _, rfl, rfl, _, _, rfl, rfl, (by lia), ?_⟩⟩⟩
    exact kt _ _ ⟨_, rfl, tF, hF⟩
  rintro σ HY ⟨at', rfl, tY, hY⟩
  have gp := gp0.mono tY
  have cs0 : Same HY HY := .refl _
  refine cut_asg (fun σ H' => ∃ w, σ = [some (.ref p), some (.ref b), some (.ref pl), some (.int cell), some (.int i), some (.int j), some (.ref l029), some fr, some (.int at'), some (.ref w), none] /\ Same H0 H' /\ GS H' fr /\ SP H' w 3) ?tlW fun Kt kt => ?mnW
  case mnW =>
    refine ⟨_, rfl, _, rfl, _, rfl, sl_good (gp.mono (.refl _)) fun a1 G1 d1 g1 => ?_⟩
    refine ⟨_, rfl, _, rfl, .inl ⟨_, _, rfl, rfl, _, rfl, sl_good (gp.mono d1) fun a2 G2 d2 g2 => ?_⟩⟩
    refine cat_good (g1.mono d2) g2 (by decide) fun a3 G3 d3 g3 => ?_
    refine ⟨_, rfl, _, rfl, _, rfl, sl_good (gp.mono (d1.trans (d2.trans d3))) fun a4 G4 d4 g4 => ?_⟩
    refine ⟨_, rfl, _, rfl, _, rfl, _, rfl, .inl ⟨_, _, rfl, rfl, _, rfl, sl_good (gp.mono (d1.trans (d2.trans (d3.trans d4)))) fun a5 G5 d5 g5 => ?_⟩⟩
    refine cat_good (g4.mono d5) g5 (by decide) fun a6 G6 d6 g6 => ?_
    refine ⟨_, rfl, _, rfl, _, rfl, sl_good (gp.mono (d1.trans (d2.trans (d3.trans (d4.trans (d5.trans d6)))))) fun a7 G7 d7 g7 => ?_⟩
    refine cat_good (g6.mono d7) g7 (by decide) fun a8 G8 d8 g8 => ?_
    refine ⟨_, rfl, _, rfl, _, rfl, sl_good (gp.mono (d1.trans (d2.trans (d3.trans (d4.trans (d5.trans (d6.trans (d7.trans d8)))))))) fun a9 G9 d9 g9 => ?_⟩
    refine ⟨_, rfl, (by show 1 <= sizeLine; decide), fun a10 ha10 => ?_⟩
    have d10 : Same G9 (upd G9 a10 (.tup [fr])) := same_new ha10 _
    have g10 : GP (upd G9 a10 (.tup [fr])) a10 1 := ⟨[fr], upd_same, fun u hu => by rw [List.mem_singleton.mp hu]; exact hY.mono ((d1.trans (d2.trans (d3.trans (d4.trans (d5.trans (d6.trans (d7.trans (d8.trans (d9.trans d10)))))))))).tups, Nat.le_refl _⟩
    generalize upd G9 a10 (.tup [fr]) = G10 at d10 g10 ⊢
    refine cat_good (g9.mono d10) g10 (by decide) fun a11 G11 d11 g11 => ?_
    refine ⟨_, rfl, _, rfl, _, rfl, sl_good (gp.mono (d1.trans (d2.trans (d3.trans (d4.trans (d5.trans (d6.trans (d7.trans (d8.trans (d9.trans (d10.trans d11))))))))))) fun a12 G12 d12 g12 => ?_⟩
    refine cat_good (g11.mono d12) g12 (by decide) fun a13 G13 d13 g13 => ?_
    have pg13 : PG G13 [.ref a3, .ref a8, .ref a13] := PG.cons ((g3.mono (d4.trans (d5.trans (d6.trans (d7.trans (d8.trans (d9.trans (d10.trans (d11.trans (d12.trans d13)))))))))).le (by decide)) (PG.cons ((g8.mono (d9.trans (d10.trans (d11.trans (d12.trans d13))))).le (by decide)) (PG.cons (g13.le (by decide)) (PG.nil)))
    refine ⟨(by show 3 <= sizeLine; decide), fun w14 hw14 => ?_⟩
    have d14 : Same G13 (upd G13 w14 (.lst [.ref a3, .ref a8, .ref a13])) := same_new hw14 _
    have sp14 : SP (upd G13 w14 (.lst [.ref a3, .ref a8, .ref a13])) w14 3 := ⟨_, upd_same, pg13.mono d14, rfl⟩
    generalize upd G13 w14 (.lst [.ref a3, .ref a8, .ref a13]) = G14 at d14 sp14 ⊢
    exact kt _ _ ⟨_, rfl, tY.trans (d1.trans (d2.trans (d3.trans (d4.trans (d5.trans (d6.trans (d7.trans (d8.trans (d9.trans (d10.trans (d11.trans (d12.trans (d13.trans d14))))))))))))), hY.mono ((d1.trans (d2.trans (d3.trans (d4.trans (d5.trans (d6.trans (d7.trans (d8.trans (d9.trans (d10.trans (d11.trans (d12.trans (d13.trans d14)))))))))))))).tups, sp14⟩
  rintro σ HW ⟨w1, rfl, tcW, frW, spW⟩
  have gpW := gp0.mono tcW
  refine cut_asg (fun σ H' => ∃ w, σ = [some (.ref p), some (.ref b), some (.ref pl), some (.int cell), some (.int i), some (.int j), some (.ref l029), some fr, some (.int at'), some (.ref w), none] /\ Same H0 H' /\ GS H' fr /\ SP H' w 5) ?tlV fun Kt kt => ?mnV
  case mnV =>
    refine ⟨_, rfl, ?_⟩
    refine ⟨_, rfl, _, rfl, _, rfl, sl_good (gpW.mono (.refl _)) fun a16 G16 d16 g16 => ?_⟩
    refine ⟨_, rfl, (by show 1 <= sizeLine; decide), fun a17 ha17 => ?_⟩
    have d17 : Same G16 (upd G16 a17 (.tup [fr])) := same_new ha17 _
    have g17 : GP (upd G16 a17 (.tup [fr])) a17 1 := ⟨[fr], upd_same, fun u hu => by rw [List.mem_singleton.mp hu]; exact frW.mono ((d16.trans d17)).tups, Nat.le_refl _⟩
    generalize upd G16 a17 (.tup [fr]) = G17 at d17 g17 ⊢
    refine cat_good (g16.mono d17) g17 (by decide) fun a18 G18 d18 g18 => ?_
    refine ⟨_, rfl, _, rfl, .inl ⟨_, _, rfl, rfl, _, rfl, sl_good (gpW.mono (d16.trans (d17.trans d18))) fun a19 G19 d19 g19 => ?_⟩⟩
    refine cat_good (g18.mono d19) g19 (by decide) fun a20 G20 d20 g20 => ?_
    refine ⟨_, rfl, _, rfl, _, rfl, sl_good (gpW.mono (d16.trans (d17.trans (d18.trans (d19.trans d20))))) fun a21 G21 d21 g21 => ?_⟩
    refine ⟨_, rfl, _, rfl, _, rfl, _, rfl, .inl ⟨_, _, rfl, rfl, _, rfl, sl_good (gpW.mono (d16.trans (d17.trans (d18.trans (d19.trans (d20.trans d21)))))) fun a22 G22 d22 g22 => ?_⟩⟩
    obtain ⟨rv23, hrv23, arv23, lrv23⟩ := id g22
    refine ⟨a22, rv23, rfl, SqT.of hrv23, fun a23 ha23 => ?_⟩
    have d23 : Same G22 (upd G22 a23 (.tup rv23.reverse)) := same_new ha23 _
    have g23 : GP (upd G22 a23 (.tup rv23.reverse)) a23 8 := ⟨_, upd_same, fun u hu => (arv23 u (List.mem_reverse.mp hu)).mono d23.tups, by rw [List.length_reverse]; exact lrv23⟩
    generalize upd G22 a23 (.tup rv23.reverse) = G23 at d23 g23 ⊢
    refine cat_good (g21.mono (d22.trans d23)) g23 (by decide) fun a24 G24 d24 g24 => ?_
    refine ⟨_, rfl, _, rfl, .inl ⟨_, _, rfl, rfl, _, rfl, sl_good (gpW.mono (d16.trans (d17.trans (d18.trans (d19.trans (d20.trans (d21.trans (d22.trans (d23.trans d24))))))))) fun a25 G25 d25 g25 => ?_⟩⟩
    refine cat_good (g24.mono d25) g25 (by decide) fun a26 G26 d26 g26 => ?_
    have pg26 : PG G26 [.ref a20, .ref a26] := PG.cons ((g20.mono (d21.trans (d22.trans (d23.trans (d24.trans (d25.trans d26)))))).le (by decide)) (PG.cons (g26.le (by decide)) (PG.nil))
    obtain ⟨vs27, hvs27, pvs27, lvs27⟩ := spW.mono (d16.trans (d17.trans (d18.trans (d19.trans (d20.trans (d21.trans (d22.trans (d23.trans (d24.trans (d25.trans d26))))))))))
    refine ⟨(by show 2 <= sizeLine; decide), fun l27x hl27x => .inr (.inr (.inl ⟨w1, l27x, vs27, _, rfl, rfl, same_new hl27x _ _ _ hvs27, upd_same, Nat.le_of_lt (line1 (by rw [lvs27]; simp)), fun w27 hw27 => ?_⟩))⟩
    have d27 : Same G26 (upd (upd G26 l27x (.lst [.ref a20, .ref a26])) w27 (.lst (vs27 ++ [.ref a20, .ref a26]))) := (same_new hl27x _).trans (same_new hw27 _)
    have sp27 : SP (upd (upd G26 l27x (.lst [.ref a20, .ref a26])) w27 (.lst (vs27 ++ [.ref a20, .ref a26]))) w27 5 := ⟨_, upd_same, fun u hu => (List.mem_append.mp hu).elim (fun z => (pvs27.mono d27) u z) (fun z => (pg26.mono d27) u z), by rw [List.length_append, lvs27]; rfl⟩
    generalize upd (upd G26 l27x (.lst [.ref a20, .ref a26])) w27 (.lst (vs27 ++ [.ref a20, .ref a26])) = G27 at d27 sp27 ⊢
    exact kt _ _ ⟨_, rfl, tcW.trans (d16.trans (d17.trans (d18.trans (d19.trans (d20.trans (d21.trans (d22.trans (d23.trans (d24.trans (d25.trans (d26.trans d27))))))))))), frW.mono ((d16.trans (d17.trans (d18.trans (d19.trans (d20.trans (d21.trans (d22.trans (d23.trans (d24.trans (d25.trans (d26.trans d27)))))))))))).tups, sp27⟩
  rintro σ HV ⟨w2, rfl, tcV, frV, spV⟩
  have gpV := gp0.mono tcV
  refine cut_asg (fun σ H' => ∃ mv, σ = [some (.ref p), some (.ref b), some (.ref pl), some (.int cell), some (.int i), some (.int j), some (.ref l029), some fr, some (.int at'), some (.ref w2), some (.ref mv)] /\ Same H0 H' /\ GS H' fr /\ SP H' w2 5 /\ GP H' mv 40) ?tlM fun Kt kt => ?mnM
  case mnM =>
    refine ⟨_, rfl, _, rfl, _, rfl, _, rfl, .inl ⟨_, _, rfl, rfl, _, rfl, sl_good (gpV.mono (.refl _)) fun a29 G29 d29 g29 => ?_⟩⟩
    refine ⟨_, rfl, _, rfl, _, rfl, sl_good (gpV.mono d29) fun a30 G30 d30 g30 => ?_⟩
    refine cat_good (g29.mono d30) g30 (by decide) fun a31 G31 d31 g31 => ?_
    refine ⟨_, rfl, _, rfl, .inl ⟨_, _, rfl, rfl, _, rfl, sl_good (gpV.mono (d29.trans (d30.trans d31))) fun a32 G32 d32 g32 => ?_⟩⟩
    refine cat_good (g31.mono d32) g32 (by decide) fun a33 G33 d33 g33 => ?_
    exact kt _ _ ⟨_, rfl, tcV.trans (d29.trans (d30.trans (d31.trans (d32.trans d33)))), frV.mono ((d29.trans (d30.trans (d31.trans (d32.trans d33))))).tups, spV.mono (d29.trans (d30.trans (d31.trans (d32.trans d33)))), g33.le (by decide)⟩
  rintro σ HM2 ⟨mv, rfl, tcM, frM, spM, gM⟩
  have gpM := gp0.mono tcM
  refine ⟨_, rfl, ?_⟩
  refine ⟨_, rfl, _, rfl, _, rfl, sl_good (gpM.mono (.refl _)) fun a35 G35 d35 g35 => ?_⟩
  refine ⟨_, rfl, (by show 1 <= sizeLine; decide), fun a36 ha36 => ?_⟩
  have d36 : Same G35 (upd G35 a36 (.tup [fr])) := same_new ha36 _
  have g36 : GP (upd G35 a36 (.tup [fr])) a36 1 := ⟨[fr], upd_same, fun u hu => by rw [List.mem_singleton.mp hu]; exact frM.mono ((d35.trans d36)).tups, Nat.le_refl _⟩
  generalize upd G35 a36 (.tup [fr]) = G36 at d36 g36 ⊢
  refine cat_good (g35.mono d36) g36 (by decide) fun a37 G37 d37 g37 => ?_
  refine ⟨_, rfl, ?_⟩
  obtain ⟨rv38, hrv38, arv38, lrv38⟩ := id (gpM.mono (d35.trans (d36.trans d37)))
  refine ⟨_, rfl, pl, rv38, rfl, SqT.of hrv38, fun a38 ha38 => ?_⟩
  have d38 : Same G37 (upd G37 a38 (.tup rv38.reverse)) := same_new ha38 _
  have g38 : GP (upd G37 a38 (.tup rv38.reverse)) a38 8 := ⟨_, upd_same, fun u hu => (arv38 u (List.mem_reverse.mp hu)).mono d38.tups, by rw [List.length_reverse]; exact lrv38⟩
  generalize upd G37 a38 (.tup rv38.reverse) = G38 at d38 g38 ⊢
  have pg38 : PG G38 [.ref a37, .ref mv, .ref a38] := PG.cons ((g37.mono d38).le (by decide)) (PG.cons ((gM.mono (d35.trans (d36.trans (d37.trans d38)))).le (by decide)) (PG.cons (g38.le (by decide)) (PG.nil)))
  obtain ⟨vs39, hvs39, pvs39, lvs39⟩ := spM.mono (d35.trans (d36.trans (d37.trans d38)))
  refine ⟨(by show 3 <= sizeLine; decide), fun l39x hl39x => .inr (.inr (.inl ⟨w2, l39x, vs39, _, rfl, rfl, same_new hl39x _ _ _ hvs39, upd_same, Nat.le_of_lt (line1 (by rw [lvs39]; simp)), fun w39 hw39 => ?_⟩))⟩
  have d39 : Same G38 (upd (upd G38 l39x (.lst [.ref a37, .ref mv, .ref a38])) w39 (.lst (vs39 ++ [.ref a37, .ref mv, .ref a38]))) := (same_new hl39x _).trans (same_new hw39 _)
  have sp39 : SP (upd (upd G38 l39x (.lst [.ref a37, .ref mv, .ref a38])) w39 (.lst (vs39 ++ [.ref a37, .ref mv, .ref a38]))) w39 8 := ⟨_, upd_same, fun u hu => (List.mem_append.mp hu).elim (fun z => (pvs39.mono d39) u z) (fun z => (pg38.mono d39) u z), by rw [List.length_append, lvs39]; rfl⟩
  generalize upd (upd G38 l39x (.lst [.ref a37, .ref mv, .ref a38])) w39 (.lst (vs39 ++ [.ref a37, .ref mv, .ref a38])) = G39 at d39 sp39 ⊢
  obtain ⟨vsZ, hvsZ, pvsZ, lvsZ⟩ := sp39
  obtain ⟨v, hv, hvm⟩ := atI_mem (xs := vsZ) (r := cell % 8) (mod_lt _ 8 (by decide)).1 (by rw [lvsZ]; exact (mod_lt _ 8 (by decide)).2)
  obtain ⟨q, rfl, gq⟩ := pvsZ v hvm
  refine ⟨_, rfl, _, _, rfl, rfl, (by show (0 : Int) < 8; decide), .inl ⟨w39, _, _, _, rfl, rfl, SqL.of hvsZ, hv, ?_⟩⟩
  have sZ : Same H0 G39 := tcM.trans (d35.trans (d36.trans (d37.trans (d38.trans d39))))
  exact fin q _ (ex0.trans sZ.ex) (dk0.keep sZ) gq
end
end K66
end
section
namespace K66
open PySem L2 Kn
section
variable {P : Program} {w : World} {K : PySem.W.Frag} {mg : Str -> Option Value} {base : Heap} {f f_branch f_plan f_fits f_lf f_spoilt : Addr} {fd fd_branch fd_plan fd_fits fd_lf fd_spoilt : FuncData}
noncomputable def spLaw (K : PySem.W.Frag) : Sp := fun vs H Q _ => ∃ (a : Addr) (ns : List Int), vs = [.ref a] /\ SqL K H a (ns.map V.int) /\ ns.length <= 63 /\ ∀ H', Q (.bl true) H'
theorem sc_law : FnScope ["script", "deck", "k", "branch", "plan", "turn", "other", "found"] ["script"] (defScope (top 34)) := ⟨rfl, rfl, rfl, by decide +kernel, rfl, by decide +kernel, by decide +kernel⟩
theorem ok_law (T : Tx mg) (D : Df K mg "law" (top 34) f fd ["script"])
    (D__law_branch : Df K mg "_law_branch" (top 25) f_branch fd_branch ["deck", "many", "claims", "bags"]) (G__law_branch : FnOk P w K mg base CX0 8 f_branch fd_branch ["deck", "many", "claims", "bags"] spBranch)
    (D__law_plan : Df K mg "_law_plan" (top 31) f_plan fd_plan ["deck", "branch"]) (G__law_plan : FnOk P w K mg base CX0 10 f_plan fd_plan ["deck", "branch"] spPlan)
    (D_fits : Df K mg "fits" (top 18) f_fits fd_fits ["branch", "plan"]) (G_fits : FnOk P w K mg base CX0 5 f_fits fd_fits ["branch", "plan"] spFits)
    (D__law_fits : Df K mg "_law_fits" (top 32) f_lf fd_lf ["branch", "plan"]) (G__law_fits : FnOk P w K mg base CX0 10 f_lf fd_lf ["branch", "plan"] spLF)
    (D__law_spoilt : Df K mg "_law_spoilt" (top 33) f_spoilt fd_spoilt ["deck", "branch", "plan"]) (G__law_spoilt : FnOk P w K mg base CX0 2 f_spoilt fd_spoilt ["deck", "branch", "plan"] spSpoilt) :
    FnOk P w K mg base CX0 20 f fd ["script"] (spLaw K) := by
  refine D.fn.okH (k := 19) sc_law (fun vs H Q E h => ?_) (fun cdv A outer s H vs Q E hr h => ?_)
  · obtain ⟨a, ns, rfl, _⟩ := h; rfl
  obtain ⟨a, ns, rfl, hS, h63, fin⟩ := h
  have hu := u110 hr
  have hu0 := u0 hr
  have hu1 := hu_of hr
  refine ⟨_, (wss_cons (ws_set (i := 1) sc_law.nd rfl (Or.inl rfl) (we_lst (wa_cons (we_slice sl_U (wv 0) wo_none (wo_some we_int)) (wa_cons we_int wa_nil))))
      (wss_cons (ws_for PassesOwn.never rfl (wi_range1 rfl T.z_range (wa_cons we_int wa_nil)) (wg_name (i := 2) sc_law.nd rfl (Or.inl rfl)) (wss_cons (ws_set (i := 3) sc_law.nd rfl (Or.inl rfl) (we_call G__law_branch (hr.mono (by lia)) rfl D__law_branch.mg D__law_branch.kp D__law_branch.b .nil pass0 (wa_cons (wv 1) (wa_cons we_int (wa_cons we_int (wa_cons we_bl wa_nil))))))
      (wss_cons (ws_set (i := 4) sc_law.nd rfl (Or.inl rfl) (we_call G__law_plan (hr.mono (by lia)) rfl D__law_plan.mg D__law_plan.kp D__law_plan.b .nil pass0 (wa_cons (wv 1) (wa_cons (wv 3) wa_nil))))
      (wss_cons (ws_if (wt_cmpR op_notT (we_call G_fits (hr.mono (by lia)) rfl D_fits.mg D_fits.kp D_fits.b .nil pass0 (wa_cons (wv 3) (wa_cons (wv 4) wa_nil))) we_bl (nomark _)) (wss_one (ws_ret we_bl)) wss_nil)
      (wss_one (ws_for PassesOwn.never rfl (wi_range1 rfl T.z_range (wa_cons we_int wa_nil)) (wg_name (i := 5) sc_law.nd rfl (Or.inl rfl)) (wss_cons (ws_set (i := 6) sc_law.nd rfl (Or.inl rfl) (we_call G__law_spoilt (hr.mono (by lia)) rfl D__law_spoilt.mg D__law_spoilt.kp D__law_spoilt.b .nil pass0 (wa_cons (wv 1) (wa_cons (wv 3) (wa_cons (wv 4) wa_nil)))))
      (wss_cons (ws_set (i := 7) sc_law.nd rfl (Or.inl rfl) (we_call G_fits (hr.mono (by lia)) rfl D_fits.mg D_fits.kp D_fits.b .nil pass0 (wa_cons (wv 3) (wa_cons (wv 6) wa_nil))))
      (wss_one (ws_if (wt_pw (ww_or (wt_not (wt_val (we_callB call_isi rfl T.z_isinstance bt_isinstance (wa_cons (wv 7) (wa_cons (we_bltn rfl T.z_bool bt_bool (relv_ty _)) wa_nil))))) (ww_or1 (wt_cmpR (op_neU hu) (wv 7) (we_call G__law_fits (hr.mono (by lia)) rfl D__law_fits.mg D__law_fits.kp D__law_fits.b .nil pass0 (wa_cons (wv 3) (wa_cons (wv 6) wa_nil))) (nomark _))))) (wss_one (ws_ret we_bl)) wss_nil))))))))))
      (wss_one (ws_ret we_bl)))), ?_⟩
  refine ⟨_, rfl, _, rfl, .inl ⟨a, _, rfl, hS, fun c hc => ⟨(by show 2 <= sizeLine; decide), fun p hp => ?_⟩⟩⟩
  have cut : ∃ cs : List Int, cutV (ns.map V.int) none (some 63) = cs.map V.int := by
    unfold cutV
    exact ⟨_, by rw [<- List.map_drop, <- List.map_take]⟩
  obtain ⟨cs0, ecs⟩ := cut
  have hcp : c ≠ p := fun z => by rw [<- z, upd_same] at hp; cases hp
  have dk : Dk (upd (upd H c (.lst (cutV (ns.map V.int) none (some 63)))) p (.lst [.ref c, .int 0])) p c 0 := ⟨0, cs0, upd_same, by rw [upd_ne hcp, upd_same, ecs], hcp, by decide, by decide⟩
  generalize upd (upd H c (.lst (cutV (ns.map V.int) none (some 63)))) p (.lst [.ref c, .int 0]) = H0 at dk ⊢
  refine ⟨4, rfl, by decide, by decide, ?_⟩
  refine for_range (n := 4) (fun j σ H' => ∃ (o2 o3 o4 o5 o6 o7 : Option V), σ = [some (.ref a), some (.ref p), o2, o3, o4, o5, o6, o7] /\ Dk H' p c (j * 100)) ⟨none, none, none, none, none, none, rfl, by simpa using dk⟩ ?_ ?_
  · rintro j σ H1 hj ⟨o2, o3, o4, o5, o6, o7, rfl, dk1⟩
    refine ⟨_, rfl, p, c, _, rfl, dk1, by lia, fun b gs cs H2 ex2 dk2 br2 => ?_⟩
    refine ⟨_, rfl, _, rfl, p, c, b, _, gs, cs, rfl, dk2, by lia, br2, fun pl us ss H3 ex3 dk3 hpl ius fitL lss => ?_⟩
    have br3 := br2.mono (dk2.tups ex3)
    have ius' : IsDts H3 ((ss.map Stp.st).map stD) us := by rw [List.map_map]; exact ius
    have gp3 : GP H3 pl 8 := gp_of hpl ius lss
    refine ⟨_, rfl, _, rfl, b, pl, gs, cs, us, ss.map Stp.st, rfl, br3, hpl, ius', fun st hst => ?_, by rw [List.length_map]; lia, fun r H4 hr4 s4 => ?_⟩
    · obtain ⟨s, _, rfl⟩ := List.mem_map.mp hst
      cases s <;> simp [Stp.st]
    obtain rfl : r = true := hr4.mpr ((fit_iff (wi_nil _) (wi_nil _)).mpr fitL)
    refine ⟨true, rfl, rfl, _, rfl, ?_⟩
    refine iteN (by decide) ?_
    refine ⟨8, rfl, by decide, by decide, ?_⟩
    refine for_range (n := 8) (fun t σ H' => ∃ (o5 o6 o7 : Option V), σ = [some (.ref a), some (.ref p), some (.int (0 + j)), some (.ref b), some (.ref pl), o5, o6, o7] /\ Br H' b gs cs /\ GP H' pl 8 /\ Dk H' p c (j * 100 + 60 + 8 + t)) ⟨o5, o6, o7, rfl, br3.mono s4.tups, gp3.mono s4, (dk3.keep s4).mono (by lia)⟩ ?_ ?_
    · rintro t σ H5 ht ⟨o5, o6, o7, rfl, br5, gp5, dk5⟩
      refine ⟨_, rfl, _, rfl, _, rfl, p, c, b, pl, _, gs, cs, rfl, dk5, by lia, br5, gp5, fun q H6 ex6 dk6 gq => ?_⟩
      have t56 := dk5.tups ex6
      have br6 := br5.mono t56
      have gp6 : GP H6 pl 8 := by
        obtain ⟨us, h1, h2, h3⟩ := gp5
        exact ⟨us, t56 _ _ h1, h2.mono t56, h3⟩
      obtain ⟨vs, hq, aq, lq⟩ := gq
      obtain ⟨sts, ists, lsts⟩ := ag_sts aq
      have ll : sts.length = vs.length := by rw [ists.length, List.length_map]
      refine ⟨_, rfl, _, rfl, b, q, gs, cs, vs, sts, rfl, br6, hq, ists, lsts, by lia, fun r H7 hr7 s7 => ?_⟩
      refine ⟨_, rfl, _, _, true, rfl, .inr ⟨rfl, ⟨_, rfl⟩, rfl⟩, _, rfl, ?_⟩
      refine iteN (by decide) ?_
      refine ⟨_, rfl, _, rfl, _, rfl, b, q, gs, cs, vs, sts, rfl, br6.mono s7.tups, s7 _ _ hq, IsDts.mono s7.tups ists, by lia, fun r2 H8 hr8 s8 => .inl ⟨rfl, _, rfl, ?_⟩⟩
      have er : r = r2 := by
        rw [Bool.eq_iff_iff, hr7, hr8]
        exact fit_iff (wi_nil _) (wi_nil _)
      rw [er]
      refine iteN (by rw [decide_eq_true rfl]; decide) ?_
      have s9 := s7.trans s8
      exact ⟨_, _, _, rfl, br6.mono s9.tups, gp6.mono s9, (dk6.keep s9).mono (by lia)⟩
    · rintro σ H5 ⟨o5, o6, o7, rfl, br5, gp5, dk5⟩
      exact ⟨_, _, _, _, _, _, rfl, dk5.mono (by lia)⟩
  · rintro σ H1 ⟨o2, o3, o4, o5, o6, o7, rfl, dk1⟩
    exact fin _
end
end K66
end
section
namespace K66
open PySem L2 Kn
/-- a def that stands at the program's top -/
noncomputable def DefAt (K : PySem.W.Frag) (x : Str) (st : Stmt) : Prop := ∃ (f : Addr) (fd : FuncData), PySem.W.nsIn K mainGlobals x = some (some (.ref f)) /\ Fun K x x st f fd
theorem len_0 {us : List Value} (h : us.length = 0) : us = [] := List.length_eq_zero_iff.mp h
theorem len_1 {us : List Value} (h : us.length = 1) : ∃ a, us = [a] := List.length_eq_one_iff.mp h
theorem len_2 {us : List Value} (h : us.length = 2) : ∃ a b, us = [a, b] := by
  cases us with
  | nil => cases h
  | cons a t =>
    obtain ⟨b, rfl⟩ := len_1 (us := t) (by simpa using h)
    exact ⟨a, b, rfl⟩
theorem len_3 {us : List Value} (h : us.length = 3) : ∃ a b c, us = [a, b, c] := by
  cases us with
  | nil => cases h
  | cons a t =>
    obtain ⟨b, c, rfl⟩ := len_2 (us := t) (by simpa using h)
    exact ⟨a, b, c, rfl⟩
theorem len_4 {us : List Value} (h : us.length = 4) : ∃ a b c d, us = [a, b, c, d] := by
  cases us with
  | nil => cases h
  | cons a t =>
    obtain ⟨b, c, d, rfl⟩ := len_3 (us := t) (by simpa using h)
    exact ⟨a, b, c, d, rfl⟩
theorem defAt_mk {K : PySem.W.Frag} {x : Str} {st : Stmt} {f : Addr} {oc : Value} {od an : Option Addr} {osl : Array (Option Value)} {kV doc pm cdv ct : Value} (a : PySem.W.nsIn K mainGlobals x = some (some (.ref f)))
    (l : K.lookup f = some ⟨oc, od, .func (PySem.W.fnOf x x (defArgs st) (defBody st) (defScope st) .none kV doc pm an cdv ct), osl⟩) (c : PySem.W.codeIn K cdv x = true) (k : PySem.W.keepIn K (.ref f) = true) : DefAt K x st := ⟨f, _, a, fun_mk l c k⟩
noncomputable def HaveAt (K : PySem.W.Frag) : Prop := ∃ a : Addr, PySem.W.nsIn K mainGlobals "HAVE_MORE" = some (some (.ref a)) /\ ∀ H, SqT K H a (HM.map V.str)
theorem have_mk {K : PySem.W.Frag} {a : Addr} {od : Option Addr} {its : Array Value} {n : Nat} {osl : Array (Option Value)} (h : PySem.W.nsIn K mainGlobals "HAVE_MORE" = some (some (.ref a))) (l : K.lookup a = some ⟨.type "tuple", od, .seq its n, osl⟩) (z : its.size <= sizeLine) (v : Vals (HM.map V.str) its.toList) : HaveAt K :=
  ⟨a, h, fun H => .inr ⟨_, its, n, l, rfl, rfl, z, v⟩⟩
theorem all_mk {l : PySem.W.OpenLaw} {w : World} {K : PySem.W.Frag} {h : Heap} {mg : Str -> Option Value} {fa : Addr} (X : K.In h) (G : h.Ns mainGlobals mg) (hfa : mg "law" = some (.ref fa))
    (h_is_whole : DefAt K "is_whole" (top 1)) (h_under : DefAt K "under" (top 4)) (h_free : DefAt K "free" (top 5)) (h_bound_in : DefAt K "bound_in" (top 6)) (h_last_gens : DefAt K "last_gens" (top 8)) (h_gens_named : DefAt K "gens_named" (top 9)) (h_is_step : DefAt K "is_step" (top 10)) (h_numbers_fit : DefAt K "numbers_fit" (top 11)) (h_sought : DefAt K "sought" (top 12)) (h_needed : DefAt K "needed" (top 13)) (h_claims_settled : DefAt K "claims_settled" (top 14)) (h_gens_gone : DefAt K "gens_gone" (top 15)) (h_all_in : DefAt K "all_in" (top 16)) (h_fits : DefAt K "fits" (top 18)) (h__law_next : DefAt K "_law_next" (top 20)) (h__law_term : DefAt K "_law_term" (top 21)) (h__law_word : DefAt K "_law_word" (top 22)) (h__law_claim : DefAt K "_law_claim" (top 23)) (h__law_row : DefAt K "_law_row" (top 24)) (h__law_branch : DefAt K "_law_branch" (top 25)) (h__law_names : DefAt K "_law_names" (top 26)) (h__law_last : DefAt K "_law_last" (top 27)) (h__law_ready : DefAt K "_law_ready" (top 28)) (h__law_sought : DefAt K "_law_sought" (top 29)) (h__law_steps : DefAt K "_law_steps" (top 30)) (h__law_plan : DefAt K "_law_plan" (top 31)) (h__law_fits : DefAt K "_law_fits" (top 32)) (h__law_spoilt : DefAt K "_law_spoilt" (top 33)) (h_law : DefAt K "law" (top 34))
    (hH : HaveAt K)
    (z1 : PySem.W.nsIn K mainGlobals "len" = some none) (z2 : PySem.W.nsIn K mainGlobals "int" = some none) (z3 : PySem.W.nsIn K mainGlobals "tuple" = some none) (z4 : PySem.W.nsIn K mainGlobals "range" = some none) (z5 : PySem.W.nsIn K mainGlobals "isinstance" = some none) (z6 : PySem.W.nsIn K mainGlobals "sorted" = some none) (z7 : PySem.W.nsIn K mainGlobals "bool" = some none) (z8 : PySem.W.nsIn K mainGlobals "dict" = some none) (z9 : PySem.W.nsIn K mainGlobals "list" = some none) (z10 : PySem.W.nsIn K mainGlobals "all" = some none) (z11 : PySem.W.nsIn K mainGlobals "zip" = some none) (z12 : PySem.W.nsIn K mainGlobals "enumerate" = some none) (z13 : PySem.W.nsIn K mainGlobals "set" = some none) :
    ∃ fd : FuncData, (∀ (s : Shared) (v : Value), BindsTo s fd ⟨[v], []⟩ [("script", v)]) /\ ∀ base : Heap, K.In base -> base.Ns mainGlobals mg -> FnOk l.prog w K mg base CX0 20 fa fd ["script"] (spLaw K) := by
  have T : Tx mg := ⟨PySem.W.mg_none_of X G z1, PySem.W.mg_none_of X G z2, PySem.W.mg_none_of X G z3, PySem.W.mg_none_of X G z4, PySem.W.mg_none_of X G z5, PySem.W.mg_none_of X G z6, PySem.W.mg_none_of X G z7, PySem.W.mg_none_of X G z8, PySem.W.mg_none_of X G z9, PySem.W.mg_none_of X G z10, PySem.W.mg_none_of X G z11, PySem.W.mg_none_of X G z12, PySem.W.mg_none_of X G z13⟩
  obtain ⟨f_is_whole, fd_is_whole, a_is_whole, F_is_whole⟩ := h_is_whole
  have D_is_whole : Df K mg "is_whole" (top 1) f_is_whole fd_is_whole ["thing"] := ⟨F_is_whole, F_is_whole.binds (ps := ["thing"]) fun _ _ _ _ _ _ us hl => by obtain ⟨u0, rfl⟩ := len_1 hl; rfl, PySem.W.mg_of X G a_is_whole⟩
  obtain ⟨f_under, fd_under, a_under, F_under⟩ := h_under
  have D_under : Df K mg "under" (top 4) f_under fd_under ["question"] := ⟨F_under, F_under.binds (ps := ["question"]) fun _ _ _ _ _ _ us hl => by obtain ⟨u0, rfl⟩ := len_1 hl; rfl, PySem.W.mg_of X G a_under⟩
  obtain ⟨f_free, fd_free, a_free, F_free⟩ := h_free
  have D_free : Df K mg "free" (top 5) f_free fd_free ["question"] := ⟨F_free, F_free.binds (ps := ["question"]) fun _ _ _ _ _ _ us hl => by obtain ⟨u0, rfl⟩ := len_1 hl; rfl, PySem.W.mg_of X G a_free⟩
  obtain ⟨f_bound_in, fd_bound_in, a_bound_in, F_bound_in⟩ := h_bound_in
  have D_bound_in : Df K mg "bound_in" (top 6) f_bound_in fd_bound_in ["question", "place"] := ⟨F_bound_in, F_bound_in.binds (ps := ["question", "place"]) fun _ _ _ _ _ _ us hl => by obtain ⟨u0, u1, rfl⟩ := len_2 hl; rfl, PySem.W.mg_of X G a_bound_in⟩
  obtain ⟨f_last_gens, fd_last_gens, a_last_gens, F_last_gens⟩ := h_last_gens
  have D_last_gens : Df K mg "last_gens" (top 8) f_last_gens fd_last_gens ["branch"] := ⟨F_last_gens, F_last_gens.binds (ps := ["branch"]) fun _ _ _ _ _ _ us hl => by obtain ⟨u0, rfl⟩ := len_1 hl; rfl, PySem.W.mg_of X G a_last_gens⟩
  obtain ⟨f_gens_named, fd_gens_named, a_gens_named, F_gens_named⟩ := h_gens_named
  have D_gens_named : Df K mg "gens_named" (top 9) f_gens_named fd_gens_named ["branch", "question"] := ⟨F_gens_named, F_gens_named.binds (ps := ["branch", "question"]) fun _ _ _ _ _ _ us hl => by obtain ⟨u0, u1, rfl⟩ := len_2 hl; rfl, PySem.W.mg_of X G a_gens_named⟩
  obtain ⟨f_is_step, fd_is_step, a_is_step, F_is_step⟩ := h_is_step
  have D_is_step : Df K mg "is_step" (top 10) f_is_step fd_is_step ["branch", "step"] := ⟨F_is_step, F_is_step.binds (ps := ["branch", "step"]) fun _ _ _ _ _ _ us hl => by obtain ⟨u0, u1, rfl⟩ := len_2 hl; rfl, PySem.W.mg_of X G a_is_step⟩
  obtain ⟨f_numbers_fit, fd_numbers_fit, a_numbers_fit, F_numbers_fit⟩ := h_numbers_fit
  have D_numbers_fit : Df K mg "numbers_fit" (top 11) f_numbers_fit fd_numbers_fit ["numbers", "bounds"] := ⟨F_numbers_fit, F_numbers_fit.binds (ps := ["numbers", "bounds"]) fun _ _ _ _ _ _ us hl => by obtain ⟨u0, u1, rfl⟩ := len_2 hl; rfl, PySem.W.mg_of X G a_numbers_fit⟩
  obtain ⟨f_sought, fd_sought, a_sought, F_sought⟩ := h_sought
  have D_sought : Df K mg "sought" (top 12) f_sought fd_sought ["branch", "step"] := ⟨F_sought, F_sought.binds (ps := ["branch", "step"]) fun _ _ _ _ _ _ us hl => by obtain ⟨u0, u1, rfl⟩ := len_2 hl; rfl, PySem.W.mg_of X G a_sought⟩
  obtain ⟨f_needed, fd_needed, a_needed, F_needed⟩ := h_needed
  have D_needed : Df K mg "needed" (top 13) f_needed fd_needed ["branch", "step"] := ⟨F_needed, F_needed.binds (ps := ["branch", "step"]) fun _ _ _ _ _ _ us hl => by obtain ⟨u0, u1, rfl⟩ := len_2 hl; rfl, PySem.W.mg_of X G a_needed⟩
  obtain ⟨f_claims_settled, fd_claims_settled, a_claims_settled, F_claims_settled⟩ := h_claims_settled
  have D_claims_settled : Df K mg "claims_settled" (top 14) f_claims_settled fd_claims_settled ["step"] := ⟨F_claims_settled, F_claims_settled.binds (ps := ["step"]) fun _ _ _ _ _ _ us hl => by obtain ⟨u0, rfl⟩ := len_1 hl; rfl, PySem.W.mg_of X G a_claims_settled⟩
  obtain ⟨f_gens_gone, fd_gens_gone, a_gens_gone, F_gens_gone⟩ := h_gens_gone
  have D_gens_gone : Df K mg "gens_gone" (top 15) f_gens_gone fd_gens_gone ["step"] := ⟨F_gens_gone, F_gens_gone.binds (ps := ["step"]) fun _ _ _ _ _ _ us hl => by obtain ⟨u0, rfl⟩ := len_1 hl; rfl, PySem.W.mg_of X G a_gens_gone⟩
  obtain ⟨f_all_in, fd_all_in, a_all_in, F_all_in⟩ := h_all_in
  have D_all_in : Df K mg "all_in" (top 16) f_all_in fd_all_in ["numbers", "others"] := ⟨F_all_in, F_all_in.binds (ps := ["numbers", "others"]) fun _ _ _ _ _ _ us hl => by obtain ⟨u0, u1, rfl⟩ := len_2 hl; rfl, PySem.W.mg_of X G a_all_in⟩
  obtain ⟨f_fits, fd_fits, a_fits, F_fits⟩ := h_fits
  have D_fits : Df K mg "fits" (top 18) f_fits fd_fits ["branch", "plan"] := ⟨F_fits, F_fits.binds (ps := ["branch", "plan"]) fun _ _ _ _ _ _ us hl => by obtain ⟨u0, u1, rfl⟩ := len_2 hl; rfl, PySem.W.mg_of X G a_fits⟩
  obtain ⟨f__law_next, fd__law_next, a__law_next, F__law_next⟩ := h__law_next
  have D__law_next : Df K mg "_law_next" (top 20) f__law_next fd__law_next ["deck"] := ⟨F__law_next, F__law_next.binds (ps := ["deck"]) fun _ _ _ _ _ _ us hl => by obtain ⟨u0, rfl⟩ := len_1 hl; rfl, PySem.W.mg_of X G a__law_next⟩
  obtain ⟨f__law_term, fd__law_term, a__law_term, F__law_term⟩ := h__law_term
  have D__law_term : Df K mg "_law_term" (top 21) f__law_term fd__law_term ["deck", "gens", "deep"] := ⟨F__law_term, F__law_term.binds (ps := ["deck", "gens", "deep"]) fun _ _ _ _ _ _ us hl => by obtain ⟨u0, u1, u2, rfl⟩ := len_3 hl; rfl, PySem.W.mg_of X G a__law_term⟩
  obtain ⟨f__law_word, fd__law_word, a__law_word, F__law_word⟩ := h__law_word
  have D__law_word : Df K mg "_law_word" (top 22) f__law_word fd__law_word ["deck", "gens"] := ⟨F__law_word, F__law_word.binds (ps := ["deck", "gens"]) fun _ _ _ _ _ _ us hl => by obtain ⟨u0, u1, rfl⟩ := len_2 hl; rfl, PySem.W.mg_of X G a__law_word⟩
  obtain ⟨f__law_claim, fd__law_claim, a__law_claim, F__law_claim⟩ := h__law_claim
  have D__law_claim : Df K mg "_law_claim" (top 23) f__law_claim fd__law_claim ["deck", "gens", "deep"] := ⟨F__law_claim, F__law_claim.binds (ps := ["deck", "gens", "deep"]) fun _ _ _ _ _ _ us hl => by obtain ⟨u0, u1, u2, rfl⟩ := len_3 hl; rfl, PySem.W.mg_of X G a__law_claim⟩
  obtain ⟨f__law_row, fd__law_row, a__law_row, F__law_row⟩ := h__law_row
  have D__law_row : Df K mg "_law_row" (top 24) f__law_row fd__law_row ["deck", "gens", "bags"] := ⟨F__law_row, F__law_row.binds (ps := ["deck", "gens", "bags"]) fun _ _ _ _ _ _ us hl => by obtain ⟨u0, u1, u2, rfl⟩ := len_3 hl; rfl, PySem.W.mg_of X G a__law_row⟩
  obtain ⟨f__law_branch, fd__law_branch, a__law_branch, F__law_branch⟩ := h__law_branch
  have D__law_branch : Df K mg "_law_branch" (top 25) f__law_branch fd__law_branch ["deck", "many", "claims", "bags"] := ⟨F__law_branch, F__law_branch.binds (ps := ["deck", "many", "claims", "bags"]) fun _ _ _ _ _ _ us hl => by obtain ⟨u0, u1, u2, u3, rfl⟩ := len_4 hl; rfl, PySem.W.mg_of X G a__law_branch⟩
  obtain ⟨f__law_names, fd__law_names, a__law_names, F__law_names⟩ := h__law_names
  have D__law_names : Df K mg "_law_names" (top 26) f__law_names fd__law_names ["question"] := ⟨F__law_names, F__law_names.binds (ps := ["question"]) fun _ _ _ _ _ _ us hl => by obtain ⟨u0, rfl⟩ := len_1 hl; rfl, PySem.W.mg_of X G a__law_names⟩
  obtain ⟨f__law_last, fd__law_last, a__law_last, F__law_last⟩ := h__law_last
  have D__law_last : Df K mg "_law_last" (top 27) f__law_last fd__law_last ["gens", "name"] := ⟨F__law_last, F__law_last.binds (ps := ["gens", "name"]) fun _ _ _ _ _ _ us hl => by obtain ⟨u0, u1, rfl⟩ := len_2 hl; rfl, PySem.W.mg_of X G a__law_last⟩
  obtain ⟨f__law_ready, fd__law_ready, a__law_ready, F__law_ready⟩ := h__law_ready
  have D__law_ready : Df K mg "_law_ready" (top 28) f__law_ready fd__law_ready ["gens", "question", "gone"] := ⟨F__law_ready, F__law_ready.binds (ps := ["gens", "question", "gone"]) fun _ _ _ _ _ _ us hl => by obtain ⟨u0, u1, u2, rfl⟩ := len_3 hl; rfl, PySem.W.mg_of X G a__law_ready⟩
  obtain ⟨f__law_sought, fd__law_sought, a__law_sought, F__law_sought⟩ := h__law_sought
  have D__law_sought : Df K mg "_law_sought" (top 29) f__law_sought fd__law_sought ["gens", "claim", "i", "gone"] := ⟨F__law_sought, F__law_sought.binds (ps := ["gens", "claim", "i", "gone"]) fun _ _ _ _ _ _ us hl => by obtain ⟨u0, u1, u2, u3, rfl⟩ := len_4 hl; rfl, PySem.W.mg_of X G a__law_sought⟩
  obtain ⟨f__law_steps, fd__law_steps, a__law_steps, F__law_steps⟩ := h__law_steps
  have D__law_steps : Df K mg "_law_steps" (top 30) f__law_steps fd__law_steps ["branch", "gone", "done"] := ⟨F__law_steps, F__law_steps.binds (ps := ["branch", "gone", "done"]) fun _ _ _ _ _ _ us hl => by obtain ⟨u0, u1, u2, rfl⟩ := len_3 hl; rfl, PySem.W.mg_of X G a__law_steps⟩
  obtain ⟨f__law_plan, fd__law_plan, a__law_plan, F__law_plan⟩ := h__law_plan
  have D__law_plan : Df K mg "_law_plan" (top 31) f__law_plan fd__law_plan ["deck", "branch"] := ⟨F__law_plan, F__law_plan.binds (ps := ["deck", "branch"]) fun _ _ _ _ _ _ us hl => by obtain ⟨u0, u1, rfl⟩ := len_2 hl; rfl, PySem.W.mg_of X G a__law_plan⟩
  obtain ⟨f__law_fits, fd__law_fits, a__law_fits, F__law_fits⟩ := h__law_fits
  have D__law_fits : Df K mg "_law_fits" (top 32) f__law_fits fd__law_fits ["branch", "plan"] := ⟨F__law_fits, F__law_fits.binds (ps := ["branch", "plan"]) fun _ _ _ _ _ _ us hl => by obtain ⟨u0, u1, rfl⟩ := len_2 hl; rfl, PySem.W.mg_of X G a__law_fits⟩
  obtain ⟨f__law_spoilt, fd__law_spoilt, a__law_spoilt, F__law_spoilt⟩ := h__law_spoilt
  have D__law_spoilt : Df K mg "_law_spoilt" (top 33) f__law_spoilt fd__law_spoilt ["deck", "branch", "plan"] := ⟨F__law_spoilt, F__law_spoilt.binds (ps := ["deck", "branch", "plan"]) fun _ _ _ _ _ _ us hl => by obtain ⟨u0, u1, u2, rfl⟩ := len_3 hl; rfl, PySem.W.mg_of X G a__law_spoilt⟩
  obtain ⟨aH, a_HM, hHM⟩ := hH
  obtain ⟨f_law, fd_law, a_law, F_law⟩ := h_law
  have e := hfa.symm.trans (PySem.W.mg_of X G a_law)
  cases e
  have D_law : Df K mg "law" (top 34) fa fd_law ["script"] := ⟨F_law, F_law.binds (ps := ["script"]) fun _ _ _ _ _ _ us hl => match us, hl with | [_], _ => rfl, hfa⟩
  refine ⟨fd_law, ?_, fun base _ _ => ?_⟩
  · obtain ⟨oc, od, kV, doc, pm, an, cdv, ct, osl, rfl, lk, hcd⟩ := F_law.ex
    exact fun s v => .of_eq rfl
  have g_next := ok_next (P := l.prog) (w := w) (base := base) T D__law_next
  have g_whole := ok_whole (P := l.prog) (w := w) (base := base) T D_is_whole
  have g_under := ok_under (P := l.prog) (w := w) (base := base) T (PySem.W.mg_of X G a_HM) hHM D_under
  have g_bound := ok_bound (P := l.prog) (w := w) (base := base) T D_bound_in
  have g_free := ok_free T D_free D_under g_under D_bound_in g_bound
  have g_lastG := ok_lastG (P := l.prog) (w := w) (base := base) T D_last_gens
  have g_named := ok_named T D_gens_named D_last_gens g_lastG D_free g_free
  have g_nfit := ok_nfit T D_numbers_fit D_is_whole g_whole
  have g_sought := ok_sought T D_sought D_last_gens g_lastG
  have g_is := ok_isStep T D_is_step D_numbers_fit g_nfit D_sought g_sought
  have g_need := ok_needed T D_needed D_gens_named g_named D_sought g_sought
  have g_cl := ok_cl (P := l.prog) (w := w) (base := base) T D_claims_settled
  have g_gn := ok_gn (P := l.prog) (w := w) (base := base) T D_gens_gone
  have g_allIn := ok_allIn (P := l.prog) (w := w) (base := base) T D_all_in
  have g_fits := ok_fits T D_fits D_is_step g_is D_needed g_need D_all_in g_allIn D_gens_gone g_gn D_claims_settled g_cl
  have g_term := ok_termA T D__law_term D__law_next g_next
  have g_word := ok_word T D__law_word D__law_next g_next
  have g_claim := ok_claimA T D__law_claim D__law_next g_next D__law_term g_term D__law_word g_word
  have g_row := ok_row T D__law_row D__law_claim g_claim D__law_next g_next D__law_term g_term D__law_word g_word
  have g_branch := ok_branch T D__law_branch D__law_claim g_claim D__law_next g_next D__law_row g_row
  have g_names := names_all (P := l.prog) (w := w) (base := base) T D__law_names 5 (Nat.le_refl _)
  have g_last := ok_last (P := l.prog) (w := w) (base := base) T D__law_last
  have g_ready := ok_ready T D__law_ready D__law_names g_names D__law_last g_last
  have g_ls := ok_ls T D__law_sought D__law_ready g_ready D__law_last g_last
  have g_steps := ok_steps T D__law_steps D__law_ready g_ready D__law_sought g_ls
  have g_lf := ok_lf T D__law_fits D__law_steps g_steps
  have g_plan := ok_plan T D__law_plan D__law_steps g_steps D__law_next g_next
  have g_spoilt := ok_spoilt T D__law_spoilt D__law_next g_next
  exact ok_law T D_law D__law_branch g_branch D__law_plan g_plan D_fits g_fits D__law_fits g_lf D__law_spoilt g_spoilt
theorem walk {l : PySem.W.OpenLaw} {q : Program} {loose : List Str} {XP : (Str -> Option Value) -> Heap -> Prop} {YP : World -> Heap -> Prop} {d : DefRec} {K : Params -> PySem.W.Frag} (hn : l.most = some 63) (hdf : d.params.defaults = [])
    (hY : ∀ (w : World) (h : Heap), YP w h -> (K w.params).In h)
    (F : ∀ (w : World) (mg : Str -> Option Value) (fa : Addr) (h : Heap), (K w.params).In h -> h.Ns mainGlobals mg -> mg d.name = some (.ref fa) ->
      ∃ fd : FuncData, (∀ (s : Shared) (u : Value), BindsTo s fd ⟨[u], []⟩ [("script", u)]) /\ ∀ base : Heap, (K w.params).In base -> base.Ns mainGlobals mg -> FnOk l.prog w (K w.params) mg base CX0 20 fa fd ["script"] (spLaw (K w.params))) :
    PySem.W.WalkO q loose XP YP l.row.toRowW d [] (fun f vs => PySem.call f vs) :=
  L2.walk_of (n := 63) (k := 20) (x := "script") (CX := fun _ => CX0) (sp := fun w => spLaw (K w.params)) hn (by decide) hdf ⟨rfl, by decide, by decide⟩ hY F (fun _ _ a ns hl _ hS => ⟨a, ns, rfl, hS, hl, fun _ => rfl⟩) fun _ _ _ _ _ z => z
end K66
open PySem PySem.W PyProof.Rows
set_option maxRecDepth 100000 in
set_option maxHeartbeats 0 in
theorem PySem.Challenge.cw_keptnest_k66_fits_holds : PySem.Challenge.rw_keptnest_k66_fits.Holds := by
  w_on; o_law; k_head; (case hw => w_witness2)
  k_fill
  refine K66.walk (l := PySem.Challenge.rw_keptnest_k66_fits) rfl rfl (fun w h Y => PySem.W.kIn_of Y) ?F
  case F =>
    intro w mg fa h KX G hmg
    refine' K66.all_mk KX G hmg ?h_is_whole ?h_under ?h_free ?h_bound_in ?h_last_gens ?h_gens_named ?h_is_step ?h_numbers_fit ?h_sought ?h_needed ?h_claims_settled ?h_gens_gone ?h_all_in ?h_fits ?h__law_next ?h__law_term ?h__law_word ?h__law_claim ?h__law_row ?h__law_branch ?h__law_names ?h__law_last ?h__law_ready ?h__law_sought ?h__law_steps ?h__law_plan ?h__law_fits ?h__law_spoilt ?h_law ?hH ?z1 ?z2 ?z3 ?z4 ?z5 ?z6 ?z7 ?z8 ?z9 ?z10 ?z11 ?z12 ?z13
    case h_is_whole => refine' K66.defAt_mk ?a ?l ?c ?k; (case a => k_is); (case l => k_is); (case c => k_is); (case k => k_is)
    case h_under => refine' K66.defAt_mk ?a ?l ?c ?k; (case a => k_is); (case l => k_is); (case c => k_is); (case k => k_is)
    case h_free => refine' K66.defAt_mk ?a ?l ?c ?k; (case a => k_is); (case l => k_is); (case c => k_is); (case k => k_is)
    case h_bound_in => refine' K66.defAt_mk ?a ?l ?c ?k; (case a => k_is); (case l => k_is); (case c => k_is); (case k => k_is)
    case h_last_gens => refine' K66.defAt_mk ?a ?l ?c ?k; (case a => k_is); (case l => k_is); (case c => k_is); (case k => k_is)
    case h_gens_named => refine' K66.defAt_mk ?a ?l ?c ?k; (case a => k_is); (case l => k_is); (case c => k_is); (case k => k_is)
    case h_is_step => refine' K66.defAt_mk ?a ?l ?c ?k; (case a => k_is); (case l => k_is); (case c => k_is); (case k => k_is)
    case h_numbers_fit => refine' K66.defAt_mk ?a ?l ?c ?k; (case a => k_is); (case l => k_is); (case c => k_is); (case k => k_is)
    case h_sought => refine' K66.defAt_mk ?a ?l ?c ?k; (case a => k_is); (case l => k_is); (case c => k_is); (case k => k_is)
    case h_needed => refine' K66.defAt_mk ?a ?l ?c ?k; (case a => k_is); (case l => k_is); (case c => k_is); (case k => k_is)
    case h_claims_settled => refine' K66.defAt_mk ?a ?l ?c ?k; (case a => k_is); (case l => k_is); (case c => k_is); (case k => k_is)
    case h_gens_gone => refine' K66.defAt_mk ?a ?l ?c ?k; (case a => k_is); (case l => k_is); (case c => k_is); (case k => k_is)
    case h_all_in => refine' K66.defAt_mk ?a ?l ?c ?k; (case a => k_is); (case l => k_is); (case c => k_is); (case k => k_is)
    case h_fits => refine' K66.defAt_mk ?a ?l ?c ?k; (case a => k_is); (case l => k_is); (case c => k_is); (case k => k_is)
    case h__law_next => refine' K66.defAt_mk ?a ?l ?c ?k; (case a => k_is); (case l => k_is); (case c => k_is); (case k => k_is)
    case h__law_term => refine' K66.defAt_mk ?a ?l ?c ?k; (case a => k_is); (case l => k_is); (case c => k_is); (case k => k_is)
    case h__law_word => refine' K66.defAt_mk ?a ?l ?c ?k; (case a => k_is); (case l => k_is); (case c => k_is); (case k => k_is)
    case h__law_claim => refine' K66.defAt_mk ?a ?l ?c ?k; (case a => k_is); (case l => k_is); (case c => k_is); (case k => k_is)
    case h__law_row => refine' K66.defAt_mk ?a ?l ?c ?k; (case a => k_is); (case l => k_is); (case c => k_is); (case k => k_is)
    case h__law_branch => refine' K66.defAt_mk ?a ?l ?c ?k; (case a => k_is); (case l => k_is); (case c => k_is); (case k => k_is)
    case h__law_names => refine' K66.defAt_mk ?a ?l ?c ?k; (case a => k_is); (case l => k_is); (case c => k_is); (case k => k_is)
    case h__law_last => refine' K66.defAt_mk ?a ?l ?c ?k; (case a => k_is); (case l => k_is); (case c => k_is); (case k => k_is)
    case h__law_ready => refine' K66.defAt_mk ?a ?l ?c ?k; (case a => k_is); (case l => k_is); (case c => k_is); (case k => k_is)
    case h__law_sought => refine' K66.defAt_mk ?a ?l ?c ?k; (case a => k_is); (case l => k_is); (case c => k_is); (case k => k_is)
    case h__law_steps => refine' K66.defAt_mk ?a ?l ?c ?k; (case a => k_is); (case l => k_is); (case c => k_is); (case k => k_is)
    case h__law_plan => refine' K66.defAt_mk ?a ?l ?c ?k; (case a => k_is); (case l => k_is); (case c => k_is); (case k => k_is)
    case h__law_fits => refine' K66.defAt_mk ?a ?l ?c ?k; (case a => k_is); (case l => k_is); (case c => k_is); (case k => k_is)
    case h__law_spoilt => refine' K66.defAt_mk ?a ?l ?c ?k; (case a => k_is); (case l => k_is); (case c => k_is); (case k => k_is)
    case h_law => refine' K66.defAt_mk ?a ?l ?c ?k; (case a => k_is); (case l => k_is); (case c => k_is); (case k => k_is)
    case hH =>
      refine' K66.have_mk ?a ?l ?z ?v
      (case a => k_is); (case l => k_is)
      case z => show 9 <= sizeLine; decide
      case v => exact .cons ⟨_, rfl⟩ (.cons ⟨_, rfl⟩ (.cons ⟨_, rfl⟩ (.cons ⟨_, rfl⟩ (.cons ⟨_, rfl⟩ (.cons ⟨_, rfl⟩ (.cons ⟨_, rfl⟩ (.cons ⟨_, rfl⟩ (.cons ⟨_, rfl⟩ .nil))))))))
    (case z1 => k_is); (case z2 => k_is); (case z3 => k_is); (case z4 => k_is); (case z5 => k_is); (case z6 => k_is); (case z7 => k_is); (case z8 => k_is); (case z9 => k_is); (case z10 => k_is); (case z11 => k_is); (case z12 => k_is); (case z13 => k_is)
#print axioms PySem.Challenge.cw_keptnest_k66_fits_holds
end
