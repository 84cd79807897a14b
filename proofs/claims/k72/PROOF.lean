import PyProof.Rows.All
import Wide.All
import OpenK.AllK
import Wide.FinOn
import PyProof.EqAt
import PyProof.EqKinds
import PyProof.TupleCall
import Lean
import PySem.Challenge.RW_bitrail_k72_a_joiner_by_deeds
set_option Elab.async false
set_option linter.all false
set_option maxRecDepth 100000
/-! THE HAND LAYER, for ints, bools, texts, own classes, LISTS and tuples (index, slices, in, append, pop ..), calls, loops. Paste it whole ahead of your own text; what your proof does not reach may be deleted. -/
namespace L2
open PySem PySem.Spec PyProof.Rows

/-- a key: an int or a str -/
abbrev Key := Sum Int Str
def keyIs : Key → Value → Bool
  | .inl k, v => Value.isInt k v
  | .inr x, v => Value.isStrOf x v
def keyH (w : World) : Key → Int
  | .inl k => hashInt k
  | .inr x => hashStr w x
theorem keyIs_shape : ∀ {k : Key} {v : Value}, keyIs k v = true → (∃ i t, k = Sum.inl i ∧ v = Value.int i t) ∨ (∃ x t, k = Sum.inr x ∧ v = Value.str x t)
  | .inl i, v, h => by
    obtain ⟨t, e⟩ := Value.isInt_shape (k := i) (v := v) h
    exact .inl ⟨i, t, rfl, e⟩
  | .inr x, v, h => by
    obtain ⟨t, e⟩ := Value.isStrOf_shape (x := x) (v := v) h
    exact .inr ⟨x, t, rfl, e⟩
theorem key_ll (a b : Int) : decide ((Sum.inl a : Key) = Sum.inl b) = (a == b) := by
  by_cases e : a = b
  · subst e; simp
  · have h : ¬ (Sum.inl a : Key) = Sum.inl b := fun q => e (Sum.inl.inj q)
    rw [decide_eq_false h]
    exact (beq_eq_false_iff_ne.mpr e).symm
theorem key_rr (a b : Str) : decide ((Sum.inr a : Key) = Sum.inr b) = decide (a = b) := by
  by_cases e : a = b
  · subst e; simp
  · have h : ¬ (Sum.inr a : Key) = Sum.inr b := fun q => e (Sum.inr.inj q)
    rw [decide_eq_false h, decide_eq_false e]
theorem key_lr (a : Int) (b : Str) : decide ((Sum.inl a : Key) = Sum.inr b) = false := decide_eq_false (fun q => nomatch q)
theorem key_rl (a : Str) (b : Int) : decide ((Sum.inr a : Key) = Sum.inl b) = false := decide_eq_false (fun q => nomatch q)

def mixKind (prog : Program) (w : World) : PySem.KeyKind prog w Key where
  is := keyIs
  hash := keyH w
  inj := fun v a b ha hb => by
    rcases keyIs_shape ha with ⟨i, t, rfl, rfl⟩ | ⟨x, t, rfl, rfl⟩
    · rcases keyIs_shape hb with ⟨j, u, rfl, e⟩ | ⟨y, u, rfl, e⟩
      · injection e with e1 _; rw [e1]
      · exact nomatch e
    · rcases keyIs_shape hb with ⟨j, u, rfl, e⟩ | ⟨y, u, rfl, e⟩
      · exact nomatch e
      · injection e with e1 _; rw [e1]
  byValue := fun k v h => by
    rcases keyIs_shape h with ⟨i, t, rfl, rfl⟩ | ⟨x, t, rfl, rfl⟩ <;> rfl
  pyHash := fun hv h => by
    rcases keyIs_shape hv with ⟨i, t, rfl, rfl⟩ | ⟨x, t, rfl, rfl⟩
    · exact wpAny_pyHash_int h
    · exact wpAny_pyHash_str h
  eqBool := fun hu hv h => by
    rcases keyIs_shape hu with ⟨i, t, rfl, rfl⟩ | ⟨x, t, rfl, rfl⟩
    · rcases keyIs_shape hv with ⟨j, u, rfl, rfl⟩ | ⟨y, u, rfl, rfl⟩
      · rw [key_ll] at h; exact wpAny_eqBool_int h
      · rw [key_lr] at h; exact SeqAt.EqAt.int_str i t y u _ _ _ _ h
    · rcases keyIs_shape hv with ⟨j, u, rfl, rfl⟩ | ⟨y, u, rfl, rfl⟩
      · rw [key_rl] at h; exact SeqAt.EqAt.str_int x t j u _ _ _ _ h
      · rw [key_rr] at h; exact wpAny_eqBool_str h
  «strs» := fun k x t v h => by
    rcases keyIs_shape h with ⟨i, u, rfl, e⟩ | ⟨y, u, rfl, e⟩
    · exact nomatch e
    · injection e with e1 _
      subst e1
      cases v <;> rfl

end L2

namespace L2
open PySem PySem.Spec PyProof.Rows

/-- a value, without the heap -/
inductive V where
  | non | bl (b : Bool) | int (i : Int) | str (x : Str) | byt (b : Array UInt8) | flt (b : UInt64) | ref (a : Addr) | ty (n : String)
  deriving DecidableEq

def RelV : V → Value → Prop
  | .non, u => u = Value.none
  | .bl b, u => u = Value.bool b
  | .int i, u => ∃ t, u = Value.int i t
  | .str x, u => ∃ t, u = Value.str x t
  | .byt b, u => ∃ t, u = Value.bytes b t
  | .flt b, u => ∃ t, u = Value.float b t
  | .ref a, u => u = Value.ref a
  | .ty n, u => u = Value.type n

abbrev Vals : List V → List Value → Prop := Paired RelV
theorem Vals.length {xs : List V} {us : List Value} (r : Vals xs us) : xs.length = us.length := Paired.length r
theorem Vals.get : ∀ {xs : List V} {us : List Value} {i : Nat} {x : V}, Vals xs us → xs[i]? = some x → ∃ u, us[i]? = some u ∧ RelV x u
  | _, _, _, _, .nil, e => by simp at e
  | _, _, 0, _, .cons r _, e => by simp at e; subst e; exact ⟨_, rfl, r⟩
  | _, _, i + 1, x, .cons _ t, e => by
    obtain ⟨u, h1, h2⟩ := Vals.get (i := i) (x := x) t (by simpa using e)
    exact ⟨u, by simpa using h1, h2⟩
theorem Vals.append : ∀ {xs ys : List V} {us ws : List Value}, Vals xs us → Vals ys ws → Vals (xs ++ ys) (us ++ ws)
  | _, _, _, _, .nil, s => s
  | _, _, _, _, .cons r t, s => .cons r (Vals.append t s)
theorem Vals.take : ∀ {xs : List V} {us : List Value} (n : Nat), Vals xs us → Vals (xs.take n) (us.take n)
  | _, _, 0, _ => .nil
  | _, _, _ + 1, .nil => .nil
  | _, _, n + 1, .cons r t => .cons r (Vals.take n t)
theorem Vals.drop : ∀ {xs : List V} {us : List Value} (n : Nat), Vals xs us → Vals (xs.drop n) (us.drop n)
  | _, _, 0, r => r
  | _, _, _ + 1, .nil => .nil
  | _, _, n + 1, .cons _ t => Vals.drop n t
def RelO : Option V → Option Value → Prop
  | some v, some u => RelV v u
  | none, none => True
  | _, _ => False
def KV {κ : Type} : List (κ × V) → List (κ × Value) → Prop := Paired fun (p : κ × V) (q : κ × Value) => p.1 = q.1 ∧ RelV p.2 q.2

/-- a key of a dict (00_mix): an int or a text -/
def kV : Key → V
  | .inl i => .int i
  | .inr x => .str x

/-- what stands at a tracked address -/
inductive HO where
  /-- a list -/
  | lst (xs : List V)
  /-- a tuple (never changes) -/
  | tup (xs : List V)
  /-- a dict whose keys are ints and texts; one whose keys are tuples of ints and texts (the empty one is both) -/
  | dK (kvs : List (Key × V)) | dT (kvs : List (List Key × V))
  /-- a set of ints: its members, its size -/
  | set (S : Int → Bool) (n : Nat)
  /-- an instance of the class at C, its dict at dx, its attributes -/
  | ins (C dx : Addr) (fs : List (Str × V))
  /-- the dict of the instance at x -/
  | own (x : Addr)
  /-- the dict of an exception -/
  | xd (fs : List (Str × V))
  /-- a bound method, f of x -/
  | met (f x : Addr)
  /-- a range object lo, lo + 1, .. below hi -/
  | rng (lo hi : Int)
  /-- a thing that is known to the object (the script; a dict while a loop walks it): read, never written while it is so -/
  | frz (o : Obj) (u : HO)
  /-- a code object's table -/
  | tbl (ps : Array Value)
  /-- any other thing, by what is true of its one object (a def of one's own: SetO a S n := HO.ext fun h => ..) -/
  | ext (φ : Heap → Prop)

abbrev Hp := Addr → Option HO
def upd (H : Hp) (a : Addr) (o : HO) : Hp := fun b => if b = a then some o else H b
theorem upd_same {H : Hp} {a : Addr} {o : HO} : upd H a o a = some o := by unfold upd; rw [if_pos rfl]
theorem upd_ne {H : Hp} {a b : Addr} {o : HO} (h : b ≠ a) : upd H a o b = H b := by unfold upd; rw [if_neg h]
theorem ne_of_none {H : Hp} {a b : Addr} {o : HO} (h : H a = some o) (h' : H b = none) : a ≠ b := by
  intro e; subst e; rw [h] at h'; cases h'

section
variable (P : Program) (w : World)
def ObjOk (H : Hp) (h : Heap) (a : Addr) : HO → Prop
  | .lst xs => xs.length ≤ sizeLine ∧ ∃ (its : List Value) (n : Nat), Vals xs its ∧ h.get? a = some { cls := .type "list", data := .seq its.toArray n }
  | .tup xs => xs.length ≤ sizeLine ∧ ∃ its : List Value, Vals xs its ∧ IsTup h a its.toArray
  | .dK kvs => kvs.length ≤ sizeLine ∧ (a == sysModules) = false ∧ ∃ vs, KV kvs vs ∧ h.DictOf (mixKind P w) a vs
  | .dT kvs => kvs.length ≤ sizeLine ∧ (a == sysModules) = false ∧ ∃ xs : List (List Key × Addr × Value),
      Paired (fun (p : List Key × V) (q : List Key × Addr × Value) => p.1 = q.1 ∧ H q.2.1 = some (.tup (p.1.map kV)) ∧ RelV p.2 q.2.2) kvs xs ∧
      ∃ o es ep, h.get? a = some o ∧ o.ExactDict ∧ o.data = .dict es ep ∧ es.toList = xs.map (entryOfKey (tupleKind (mixKind P w))) ∧ (xs.map (·.1)).Nodup
  | .set S n => h.SetOf (intKind P w) a S n
  | .ins C dx fs => H dx = some (.own a) ∧ fs.length ≤ 1000 ∧ dx ≠ a ∧ h.get? a = some (PySem.W.instObj C dx) ∧
      ∃ mA, h.Ns1 dx mA ∧ (∀ f, RelO (fs.lookup f) (mA f)) ∧ PySem.Within mA (fs.map (·.1))
  | .own _ => ∃ o, h.get? a = some o
  | .xd fs => ∃ mA, h.Ns1 a mA ∧ ∀ f, RelO (fs.lookup f) (mA f)
  | .rng lo hi => ∃ t u v, h.get? a = some { cls := .type "range", data := .fields #[.int lo t, .int hi u, .int 1 v] }
  | .frz o u => h.get? a = some o ∧ ObjOk H h a u
  | .tbl ps => h.get? a = some { cls := .none, data := .fields ps }
  | .met f x => h.get? a = some (PySem.W.methodObj (.ref f) (.ref x))
  | .ext φ => φ h ∧ (∃ o, h.get? a = some o) ∧ ∀ h1 h2 : Heap, φ h1 → (∀ o, h1.get? a = some o → h2.get? a = some o) → φ h2
/-- the abstract heap is held -/
def HOk (H : Hp) (h : Heap) : Prop := ∀ a o, H a = some o → ObjOk P w H h a o
end

section
variable {P : Program} {w : World} {H H' : Hp} {h h' : Heap} {a : Addr} {o : HO}
theorem ObjOk.lt (x : ObjOk P w H h a o) : a < h.objs.size := by
  cases o with
  | lst xs => obtain ⟨_, _, _, _, e⟩ := x; exact Heap.lt_size e
  | tup xs => obtain ⟨_, _, _, p⟩ := x; exact p.lt
  | dK kvs => obtain ⟨_, _, _, _, o, _, _, e, _⟩ := x; exact Heap.lt_size e
  | dT kvs => obtain ⟨_, _, _, _, o, _, _, e, _⟩ := x; exact Heap.lt_size e
  | set S n => obtain ⟨o, _, _, _, e, _⟩ := x; exact Heap.lt_size e
  | ins C dx fs => obtain ⟨_, _, _, e, _⟩ := x; exact Heap.lt_size e
  | own y => obtain ⟨_, e⟩ := x; exact Heap.lt_size e
  | xd fs => obtain ⟨_, ⟨_, _, _, e, _⟩, _⟩ := x; exact Heap.lt_size e
  | rng lo hi => obtain ⟨_, _, _, e⟩ := x; exact Heap.lt_size e
  | frz ob u => obtain ⟨e, _⟩ := x; exact Heap.lt_size e
  | tbl ps => exact Heap.lt_size (show h.get? a = some _ from x)
  | met f y => exact Heap.lt_size (show h.get? a = some _ from x)
  | ext φ => obtain ⟨_, ⟨_, e⟩, _⟩ := x; exact Heap.lt_size e
theorem Paired.mapP {α β : Type} {F G : α → β → Prop} : ∀ {l₁ : List α} {l₂ : List β}, Paired F l₁ l₂ → (∀ a b, F a b → G a b) → Paired G l₁ l₂
  | _, _, .nil, _ => .nil
  | _, _, .cons r t, f => .cons (f _ _ r) (Paired.mapP t f)
/-- what an object's description leans on: its own object, its own dict, the tuples -/
theorem ObjOk.stay (x : ObjOk P w H h a o) (k : ∀ b u, (b = a ∨ H b = some (.own a)) → h.get? b = some u → h'.get? b = some u)
    (ho : ∀ b, H b = some (.own a) → H' b = some (.own a)) (ht : ∀ b xs, H b = some (.tup xs) → H' b = some (.tup xs)) : ObjOk P w H' h' a o := by
  induction o with
  | lst xs => obtain ⟨z, its, n, r, e⟩ := x; exact ⟨z, its, n, r, k _ _ (.inl rfl) e⟩
  | tup xs => obtain ⟨z, its, r, ob, e, c⟩ := x; exact ⟨z, its, r, ob, k _ _ (.inl rfl) e, c⟩
  | dK kvs => obtain ⟨z, y, vs, r, ob, es, ep, e, c⟩ := x; exact ⟨z, y, vs, r, ob, es, ep, k _ _ (.inl rfl) e, c⟩
  | dT kvs =>
    obtain ⟨z, y, xs, r, ob, es, ep, e, c⟩ := x
    exact ⟨z, y, xs, Paired.mapP r fun p q z => ⟨z.1, ht _ _ z.2.1, z.2.2⟩, ob, es, ep, k _ _ (.inl rfl) e, c⟩
  | set S n => obtain ⟨ob, es, ep, t, e, c⟩ := x; exact ⟨ob, es, ep, t, k _ _ (.inl rfl) e, c⟩
  | ins C dx fs =>
    obtain ⟨d, z, ne, e, mA, ⟨od, es, ep, e2, c⟩, r⟩ := x
    exact ⟨ho _ d, z, ne, k _ _ (.inl rfl) e, mA, ⟨od, es, ep, k _ _ (.inr d) e2, c⟩, r⟩
  | own y => obtain ⟨ob, e⟩ := x; exact ⟨ob, k _ _ (.inl rfl) e⟩
  | xd fs => obtain ⟨mA, ⟨od, es, ep, e, c⟩, r⟩ := x; exact ⟨mA, ⟨od, es, ep, k _ _ (.inl rfl) e, c⟩, r⟩
  | rng lo hi => obtain ⟨t, u, v, e⟩ := x; exact ⟨t, u, v, k _ _ (.inl rfl) e⟩
  | frz ob u ih => obtain ⟨e, q⟩ := x; exact ⟨k _ _ (.inl rfl) e, ih q⟩
  | tbl ps =>
    have e : h.get? a = some { cls := .none, data := .fields ps } := x
    show h'.get? a = some { cls := .none, data := .fields ps }
    exact k a _ (.inl rfl) e
  | met f y =>
    have e : h.get? a = some (PySem.W.methodObj (.ref f) (.ref y)) := x
    show h'.get? a = some (PySem.W.methodObj (.ref f) (.ref y))
    exact k a _ (.inl rfl) e
  | ext φ => obtain ⟨p, ⟨o, e⟩, st⟩ := x; exact ⟨st _ _ p fun o q => k _ _ (.inl rfl) q, ⟨o, k _ _ (.inl rfl) e⟩, st⟩
theorem HOk.lt (x : HOk P w H h) (e : H a = some o) : a < h.objs.size := (x a o e).lt
theorem HOk.fresh (x : HOk P w H h) (e : h.objs.size ≤ a) : H a = none := by
  cases q : H a with
  | none => rfl
  | some u => exact absurd (Nat.lt_of_lt_of_le (x.lt q) e) (Nat.lt_irrefl _)
/-- every object of the heap is kept -/
theorem HOk.kept (x : HOk P w H h) (k : ∀ b u, h.get? b = some u → h'.get? b = some u) : HOk P w H h' := fun a o e =>
  (x a o e).stay (fun b u _ q => k b u q) (fun _ q => q) fun _ _ q => q
/-- a new object is laid and tracked -/
theorem HOk.laid (x : HOk P w H h) (k : ∀ b u, h.get? b = some u → h'.get? b = some u) (hp : h.objs.size ≤ a) (new : ObjOk P w (upd H a o) h' a o) : HOk P w (upd H a o) h' := fun b u e => by
  have hn := x.fresh hp
  by_cases hb : b = a
  · subst hb; rw [upd_same] at e; cases e; exact new
  · rw [upd_ne hb] at e
    exact (x b u e).stay (fun c v _ q => k c v q) (fun c q => by rw [upd_ne (ne_of_none q hn)]; exact q) fun c xs q => by rw [upd_ne (ne_of_none q hn)]; exact q
end

/-- what may be read as u: it is u, or a known u -/
def Rd (H : Hp) (a : Addr) (u : HO) : Prop := H a = some u ∨ ∃ o, H a = some (.frz o u)
theorem Rd.ok {P : Program} {w : World} {H : Hp} {h : Heap} {a : Addr} {u : HO} (r : Rd H a u) (x : HOk P w H h) : ObjOk P w H h a u := by
  rcases r with r | ⟨o, r⟩
  · exact x a u r
  · obtain ⟨_, q⟩ := x a _ r
    exact q
/-- what may be written -/
def Mut : Option HO → Prop
  | some (.lst _) => True
  | some (.dK _) => True
  | some (.dT _) => True
  | some (.set _ _) => True
  | some (.ins _ _ _) => True
  | some (.ext _) => True
  | _ => False
section
variable {P : Program} {w : World} {H : Hp} {h h' : Heap} {x e : Addr} {o' : HO}
/-- the object at e is changed: x itself, or the dict of the instance x -/
theorem HOk.write (ok : HOk P w H h) (mu : Mut (H x)) (he : e = x ∨ H e = some (.own x)) (k : ∀ b u, b ≠ e → h.get? b = some u → h'.get? b = some u) (heo : ∃ u, h'.get? e = some u)
    (new : ObjOk P w (upd H x o') h' x o') : HOk P w (upd H x o') h' := fun b u q => by
  have nown : ∀ c y, H c = some (.own y) → c ≠ x := fun c y r z => by subst z; rw [r] at mu; exact mu
  have ntup : ∀ c xs, H c = some (.tup xs) → c ≠ x := fun c xs r z => by subst z; rw [r] at mu; exact mu
  by_cases hb : b = x
  · subst hb; rw [upd_same] at q; cases q; exact new
  · rw [upd_ne hb] at q
    by_cases hbe : b = e
    · have q' : H b = some (.own x) := by
        rcases he with z | z
        · exact absurd (hbe.trans z) hb
        · rw [hbe]; exact z
      rw [q] at q'; cases q'
      obtain ⟨v, hv⟩ := heo
      exact ⟨v, by rw [hbe]; exact hv⟩
    · refine (ok b u q).stay (fun c v hc r => k c v ?_ r) (fun c r => by rw [upd_ne (nown c b r)]; exact r) fun c xs r => by rw [upd_ne (ntup c xs r)]; exact r
      rcases hc with rfl | hc
      · exact hbe
      · rintro rfl
        rcases he with z | z
        · exact nown c b hc z
        · rw [hc] at z; cases z; exact hb rfl
end

/-! ### kept unless tracked; of the frames at fs (the callers') the slots may change (an exception that passes writes there); of the records at ex (iterators) nothing is said -/
structure Un (fs ex : List Addr) (H H' : Hp) (h h' : Heap) : Prop where
  keep : ∀ b o, h.get? b = some o → H b = none → b ∉ fs → b ∉ ex → h'.get? b = some o
  slot : ∀ b o, h.get? b = some o → H b = none → b ∈ fs → b ∉ ex → ∃ sl, h'.get? b = some { o with slots := sl }
  free : ∀ b o, h.get? b = some o → H b = none → b ∉ ex → H' b = none
  there : ∀ b o, h.get? b = some o → b ∉ ex → ∃ o', h'.get? b = some o'
  tups : ∀ b xs, H b = some (.tup xs) → H' b = some (.tup xs)
  frzs : ∀ b o u, H b = some (.frz o u) → H' b = some (.frz o u)
  tbls : ∀ b ps, H b = some (.tbl ps) → ∃ more, H' b = some (.tbl (ps ++ more))
section
variable {fs fs' ex ex' : List Addr} {H H1 H2 : Hp} {h h1 h2 h' : Heap} {a x e : Addr} {o : HO}
theorem Un.any (u : Un fs ex H H1 h h1) {b : Addr} {ob : Obj} (q : h.get? b = some ob) (n : H b = none) (hx : b ∉ ex) : ∃ sl, h1.get? b = some { ob with slots := sl } := by
  by_cases hb : b ∈ fs
  · exact u.slot b ob q n hb hx
  · exact ⟨ob.slots, u.keep b ob q n hb hx⟩
theorem Un.kept (k : ∀ b u, h.get? b = some u → h'.get? b = some u) : Un fs ex H H h h' :=
  ⟨fun b ob q _ _ _ => k b ob q, fun b ob q _ _ _ => ⟨ob.slots, k b ob q⟩, fun _ _ _ n _ => n, fun b ob q _ => ⟨ob, k b ob q⟩, fun _ _ q => q, fun _ _ _ q => q, fun _ ps q => ⟨#[], by rw [q]; simp⟩⟩
theorem Un.refl : Un fs ex H H h h := Un.kept fun _ _ q => q
theorem Un.laid (k : ∀ b u, h.get? b = some u → h'.get? b = some u) (hp : h.objs.size ≤ a) (hn : H a = none) : Un fs ex H (upd H a o) h h' where
  keep := fun b u q _ _ _ => k b u q
  slot := fun b u q _ _ _ => ⟨u.slots, k b u q⟩
  free := fun b u q n _ => by rw [upd_ne (Nat.ne_of_lt (Nat.lt_of_lt_of_le (Heap.lt_size q) hp))]; exact n
  there := fun b u q _ => ⟨u, k b u q⟩
  tups := fun b xs q => by rw [upd_ne (ne_of_none q hn)]; exact q
  frzs := fun b u xs q => by rw [upd_ne (ne_of_none q hn)]; exact q
  tbls := fun b ps q => ⟨#[], by rw [upd_ne (ne_of_none q hn), q]; simp⟩
theorem Un.write (mu : Mut (H x)) (he : e = x ∨ H e = some (.own x)) (k : ∀ b u, b ≠ e → h.get? b = some u → h'.get? b = some u) (heo : ∃ u, h'.get? e = some u) : Un fs ex H (upd H x o) h h' := by
  have hx : ∀ b, H b = none → b ≠ x := fun b n z => by subst z; rw [n] at mu; exact mu
  have hb : ∀ b, H b = none → b ≠ e := fun b n z => by
    subst z
    rcases he with r | r
    · exact hx b n r
    · rw [n] at r; cases r
  have hm : ∀ b u, H b = some u → ¬ Mut (some u) → b ≠ x := fun b u q nm z => by subst z; rw [q] at mu; exact nm mu
  refine ⟨fun b u q n _ _ => k b u (hb b n) q, fun b u q n _ _ => ⟨u.slots, k b u (hb b n) q⟩, fun b u q n _ => by rw [upd_ne (hx b n)]; exact n, fun b u q _ => ?_,
    fun b xs q => by rw [upd_ne (hm b _ q fun z => z)]; exact q, fun b u xs q => by rw [upd_ne (hm b _ q fun z => z)]; exact q, fun b ps q => ⟨#[], by rw [upd_ne (hm b _ q fun z => z), q]; simp⟩⟩
  by_cases hbe : b = e
  · subst hbe; exact heo
  · exact ⟨u, k b u hbe q⟩
end

/-! ### the heap without what is tracked -/
def trk (h : Heap) (H : Hp) : List Addr := (List.range h.objs.size).filter fun a => (H a).isSome
def hidT (h : Heap) (H : Hp) : Heap := PySem.W.hideAll h (trk h H)
theorem hidT_size (h : Heap) (H : Hp) : (hidT h H).objs.size = h.objs.size := PySem.W.hideAll_size _ _
theorem hidT_get {h : Heap} {H : Hp} {b : Addr} {o : Obj} (e : h.get? b = some o) (n : H b = none) : (hidT h H).get? b = some o :=
  PySem.W.hideAll_get _ e fun hm => by
    have q : (H b).isSome = true := (List.mem_filter.mp hm).2
    rw [n] at q; simp at q
theorem of_hidT {h : Heap} {H : Hp} {b : Addr} {o : Obj} (e : (hidT h H).get? b = some o) : h.get? b = some o ∧ H b = none := by
  have e' : h.get? b = some o := PySem.W.of_hideAll (trk h H) e
  refine ⟨e', ?_⟩
  cases q : H b with
  | none => rfl
  | some x =>
    have hm : b ∈ trk h H := List.mem_filter.mpr ⟨List.mem_range.mpr (Heap.lt_size e'), by simp [q]⟩
    have z : (hidT h H).get? b = none := PySem.W.hideAll_none (trk h H) hm
    rw [z] at e; cases e

/-! ### OpenK's ledger, filled with every new object but one -/
def allNews (g h : Heap) (L : Addr) : List (Addr × Obj) := (List.range h.objs.size).filterMap fun a => if a = L ∨ (g.get? a).isSome = true then none else (h.get? a).map fun o => (a, o)
def rest (g h : Heap) (L d : Addr) : List (Addr × Obj) := (allNews g h L).filter fun p => decide (p.1 ≠ d)
end L2

namespace L2
open PySem PySem.Spec PyProof.Rows

/-- the module's facts, over the base: the heap at the law's entry without what is tracked there -/
structure Mod (K : PySem.W.Frag) (mg : Str → Option Value) (base : Heap) : Prop where
  kin : K.In base
  glob : base.Ns mainGlobals mg
  blt : ∃ mb, base.Ns builtinsNs mb ∧ ∀ x : Str, x ≠ "__name__" → mb x = bootBuiltins x
  nolimit : base.NoLimit

/-- the context: a def's body (or a comprehension's block) running. base: fixed through the whole law; s₀, H₀: the entry; outer: the frames whose slots others may change (a def's callers); stack: all frames that run;
   ex: iterators that were made ahead of the entry and are walked here (a comprehension's); fn: the names whose cells were made at the entry (a def: all; a comprehension's block: its own); calm: not within an except suite; pn: pins that every state bears; xe: what is wanted of an exception that leaves the code -/
structure Cx where
  prog : Program
  w : World
  K : PySem.W.Frag
  mg : Str → Option Value
  base : Heap
  A : Around
  N : List Str
  s₀ : Shared
  H₀ : Hp
  env : Env
  outer : List Env
  stack : List Env
  ex : List Addr
  fn : Str → Bool
  calm : Bool
  pn : List (Addr × Obj)
  xe : Value → Shared → Prop
/-- the callers' frames -/
def frs (l : List Env) : List Addr := l.filterMap (·.frame)
abbrev Cx.fs (X : Cx) : List Addr := frs X.outer

def Vis (sc : Scope) (x : Str) : Prop := sc.names.lookup x = some .local ∨ sc.names.lookup x = some .cell ∨ sc.names.lookup x = some .free
def Loc (sc : Scope) (x : Str) : Prop := sc.names.lookup x = some .local ∨ sc.names.lookup x = some .cell
def Look (env : Env) (h : Heap) (m : Str → Option Value) (x : Str) (u : Value) : Prop :=
  (env.kindOf x = some .local ∧ m x = some u) ∨ ((env.kindOf x = some .cell ∨ env.kindOf x = some .free) ∧ ∃ c, env.cells.lookup x = some c ∧ h.IsCell c (some u))

structure Cx.Ok (X : Cx) : Prop where
  mod : Mod X.K X.mg X.base
  kind : X.env.scope.kind = .function
  glob : X.env.globals = mainGlobals
  blt : X.env.builtins = builtinsNs
  above : X.s₀.heap.objs.size ≤ X.env.locals
  inj : ∀ x y c, X.env.cells.lookup x = some c → X.env.cells.lookup y = some c → x = y
  has : ∀ x, (X.env.kindOf x = some .cell ∨ X.env.kindOf x = some .free) → ∃ c, X.env.cells.lookup x = some c
  cab : ∀ x c, X.fn x = true → X.env.cells.lookup x = some c → X.s₀.heap.objs.size ≤ c
  hd : X.calm = true → X.A.handled = none
  frames : X.A.frames = some X.stack
  stk : X.stack = X.outer ∨ (X.stack = X.env :: X.outer ∧ X.env.frame = some X.env.locals)
  exf : ∀ b ∈ X.ex, b ≠ X.env.locals ∧ ∀ x c, X.env.cells.lookup x = some c → c ≠ b
  bs : ∀ b o, X.base.get? b = some o → X.s₀.heap.get? b = some o ∧ X.H₀ b = none
  bsz : X.base.objs.size ≤ X.s₀.heap.objs.size
  noex : ∀ b o, X.base.get? b = some o → b ∉ X.ex
  exfs : ∀ b ∈ X.ex, b ∉ X.fs
  funs : X.s₀.heap.FunFrames X.base X.outer
  frf : ∀ b ∈ X.fs, X.H₀ b = none

structure Inv (X : Cx) (pins : List (Addr × Obj)) (σ : List (Option V)) (H : Hp) (s : Shared) : Prop where
  ok : X.Ok
  os : s.os = X.s₀.os
  bare : AllBare s.gens
  base : Un X.fs X.ex X.H₀ H X.s₀.heap s.heap
  loc : ∃ m, s.heap.Ns X.env.locals m ∧ ∀ (i : Nat) (x : Str) (v : V), X.N[i]? = some x → σ[i]? = some (some v) → Vis X.env.scope x → ∃ u, RelV v u ∧ Look X.env s.heap m x u
  cell : ∀ x c, X.env.cells.lookup x = some c → ∃ v, s.heap.IsCell c v
  free : H X.env.locals = none
  freeC : ∀ x c, X.env.cells.lookup x = some c → H c = none
  pin : ∀ p ∈ X.pn ++ pins, s.heap.get? p.1 = some p.2 ∧ H p.1 = none ∧ p.1 ≠ X.env.locals ∧ p.1 ∉ X.fs ∧ ∀ v, p.2.data ≠ .cell v
  hok : HOk X.prog X.w H s.heap
  len : σ.length = X.N.length

section
variable {X : Cx} {pins : List (Addr × Obj)} {σ : List (Option V)} {H H' : Hp} {s : Shared} {h' : Heap}

theorem Cx.Ok.nofr (ok : X.Ok) {b : Addr} {o : Obj} (e : X.base.get? b = some o) : b ∉ X.fs := fun hb => by
  have := (ok.funs.mem hb).1
  rw [e] at this; cases this
theorem Inv.bs (I : Inv X pins σ H s) : ∀ b o, X.base.get? b = some o → s.heap.get? b = some o ∧ H b = none := fun b o e =>
  ⟨I.base.keep b o (I.ok.bs b o e).1 (I.ok.bs b o e).2 (I.ok.nofr e) (I.ok.noex b o e), I.base.free b o (I.ok.bs b o e).1 (I.ok.bs b o e).2 (I.ok.noex b o e)⟩
theorem Inv.bk (I : Inv X pins σ H s) : ∀ b o, X.base.get? b = some o → s.heap.get? b = some o := fun b o e => (I.bs b o e).1
theorem Inv.mod (I : Inv X pins σ H s) : Mod X.K X.mg X.base := I.ok.mod
theorem Inv.kIn (I : Inv X pins σ H s) : X.K.In s.heap := I.ok.mod.kin.keeps I.bk
/-- the frame over the base: for OpenK's rules (K.In X.base is I.mod.kin) -/
theorem Inv.fr (I : Inv X pins σ H s) : ∃ m, Fr X.base X.env.locals s.heap m :=
  let ⟨m, hn, _⟩ := I.loc
  ⟨m, hn, I.bk, Nat.le_trans I.ok.bsz I.ok.above⟩
theorem Inv.lt (I : Inv X pins σ H s) : X.env.locals < s.heap.objs.size := let ⟨_, hn, _⟩ := I.loc; hn.lt
theorem Inv.sz (I : Inv X pins σ H s) : X.s₀.heap.objs.size ≤ s.heap.objs.size := Nat.le_trans I.ok.above (Nat.le_of_lt I.lt)
theorem Inv.nofs (I : Inv X pins σ H s) {a : Addr} (h : s.heap.objs.size ≤ a) : a ∉ X.fs := fun hb => by
  obtain ⟨_, o, ho, _⟩ := I.ok.funs.mem hb
  exact absurd (Nat.lt_of_lt_of_le (Heap.lt_size ho) (Nat.le_trans I.sz h)) (Nat.lt_irrefl _)
theorem Inv.cne (I : Inv X pins σ H s) : ∀ x c, X.env.cells.lookup x = some c → c ≠ X.env.locals := fun x c e z => by
  obtain ⟨v, o, ho, hd⟩ := I.cell x c e
  obtain ⟨m, ⟨o', es, ep, ho', hd', _⟩, _⟩ := I.loc
  rw [z, ho'] at ho; cases ho; rw [hd'] at hd; cases hd
theorem Inv.funs (I : Inv X pins σ H s) : s.heap.FunFrames X.base X.outer := by
  have all : ∀ (l : List Env), (∀ b ∈ frs l, b ∈ X.fs) → X.s₀.heap.FunFrames X.base l → s.heap.FunFrames X.base l := by
    intro l
    induction l with
    | nil => intro _ _; trivial
    | cons env r ih =>
      intro hs hl
      obtain ⟨hk, ⟨L, o, hf, hn, ho, hd⟩, hr⟩ := hl
      have hL : L ∈ X.fs := hs L (by unfold frs; rw [List.filterMap_cons, hf]; exact List.mem_cons_self)
      obtain ⟨sl, e⟩ := I.base.slot L o ho (I.ok.frf L hL) hL fun z => I.ok.exfs L z hL
      exact ⟨hk, ⟨L, _, hf, hn, e, hd⟩, ih (fun b hb => hs b (by unfold frs; rw [List.filterMap_cons, hf]; exact List.mem_cons_of_mem _ hb)) hr⟩
  exact all X.outer (fun _ hb => hb) I.ok.funs

/-- the frames that run, for a call -/
theorem Inv.stack (I : Inv X pins σ H s) : s.heap.FunFrames X.base X.stack := by
  rcases I.ok.stk with e | ⟨e, hf⟩
  · rw [e]; exact I.funs
  · rw [e]
    obtain ⟨m, hn, _⟩ := I.loc
    refine .cons (by rw [I.ok.kind]; decide) hf hn ?_ I.funs
    exact Heap.get?_none_of_le (Nat.le_trans I.ok.bsz I.ok.above)
theorem Inv.stkSub (I : Inv X pins σ H s) : ∀ b ∈ frs X.stack, b ∈ X.env.locals :: X.fs := fun b hb => by
  rcases I.ok.stk with e | ⟨e, hf⟩
  · rw [e] at hb; exact List.mem_cons_of_mem _ hb
  · rw [e] at hb
    unfold frs at hb
    rw [List.filterMap_cons, hf] at hb
    exact hb
theorem Inv.stkFree (I : Inv X pins σ H s) : ∀ b ∈ frs X.stack, H b = none := fun b hb => by
  rcases List.mem_cons.mp (I.stkSub b hb) with e | hb
  · rw [e]; exact I.free
  · obtain ⟨_, o, ho, _⟩ := I.ok.funs.mem hb
    exact I.base.free b o ho (I.ok.frf b hb) fun z => I.ok.exfs b z hb

/-- THE STEP: the untracked objects but the frame and the records at ch are kept (the callers' frames up to slots), the frame's map is kept, the new abstract heap is held -/
theorem Inv.step {g' : Array GenState} {t' : Nat} {d' : Drawn} {ch : List Addr} (I : Inv X pins σ H s)
    (hch : ∀ b ∈ ch, (b ∈ X.ex ∨ X.s₀.heap.objs.size ≤ b) ∧ b ≠ X.env.locals ∧ (∀ x c, X.env.cells.lookup x = some c → c ≠ b) ∧ ∀ p ∈ X.pn ++ pins, p.1 ≠ b)
    (keep : ∀ b o, b ≠ X.env.locals → b ∉ X.fs → b ∉ ch → s.heap.get? b = some o → H b = none → h'.get? b = some o)
    (slot : ∀ b o, b ≠ X.env.locals → b ∈ X.fs → b ∉ ch → s.heap.get? b = some o → H b = none → ∃ sl, h'.get? b = some { o with slots := sl }) (free : ∀ b o, b ∉ ch → s.heap.get? b = some o → H b = none → H' b = none)
    (there : ∀ b o, b ∉ ch → s.heap.get? b = some o → ∃ o', h'.get? b = some o')
    (tups : ∀ b xs, H b = some (.tup xs) → H' b = some (.tup xs)) (frzs : ∀ b o u, H b = some (.frz o u) → H' b = some (.frz o u)) (tbls : ∀ b ps, H b = some (.tbl ps) → ∃ more, H' b = some (.tbl (ps ++ more)))
    (ns : ∀ m, s.heap.Ns X.env.locals m → h'.Ns X.env.locals m) (hok : HOk X.prog X.w H' h') (hg : AllBare g') :
    Inv X pins σ H' { s with heap := h', gens := g', drawn := d', toks := t' } := by
  have neL : ∀ b o, X.s₀.heap.get? b = some o → b ≠ X.env.locals := fun b o e => Nat.ne_of_lt (Nat.lt_of_lt_of_le (Heap.lt_size e) I.ok.above)
  have neC : ∀ b o, X.s₀.heap.get? b = some o → b ∉ X.ex → b ∉ ch := fun b o e hx hb => by
    rcases (hch b hb).1 with z | z
    · exact hx z
    · exact absurd (Nat.lt_of_lt_of_le (Heap.lt_size e) z) (Nat.lt_irrefl _)
  have cellK : ∀ x c, X.env.cells.lookup x = some c → ∀ v, s.heap.IsCell c v → h'.IsCell c v := fun x c e v ⟨o, ho, hd⟩ => by
    have nch : c ∉ ch := fun z => (hch c z).2.2.1 x c e rfl
    by_cases hc : c ∈ X.fs
    · obtain ⟨sl, q⟩ := slot c o (I.cne x c e) hc nch ho (I.freeC x c e)
      exact ⟨_, q, hd⟩
    · exact ⟨o, keep c o (I.cne x c e) hc nch ho (I.freeC x c e), hd⟩
  refine ⟨I.ok, I.os, hg, ⟨fun b o e n hb hx => ?_, fun b o e n hb hx => ?_, fun b o e n hx => ?_, fun b o e hx => ?_, fun b xs e => tups b xs (I.base.tups b xs e), fun b o xs e => frzs b o xs (I.base.frzs b o xs e), fun b ps e => ?_⟩, ?_, fun x c e => ?_, ?_, fun x c e => ?_, fun p hp => ?_, hok, I.len⟩
  · exact keep b o (neL b o e) hb (neC b o e hx) (I.base.keep b o e n hb hx) (I.base.free b o e n hx)
  · obtain ⟨sl, e1⟩ := I.base.slot b o e n hb hx
    obtain ⟨sl', e2⟩ := slot b _ (neL b o e) hb (neC b o e hx) e1 (I.base.free b o e n hx)
    exact ⟨sl', e2⟩
  · obtain ⟨o', e1⟩ := I.base.there b o e hx
    exact free b o' (neC b o e hx) e1 (I.base.free b o e n hx)
  · obtain ⟨o', e1⟩ := I.base.there b o e hx
    exact there b o' (neC b o e hx) e1
  · obtain ⟨m1, e1⟩ := I.base.tbls b ps e
    obtain ⟨m2, e2⟩ := tbls b _ e1
    exact ⟨m1 ++ m2, by rw [e2, Array.append_assoc]⟩
  · obtain ⟨m, hn, hl⟩ := I.loc
    refine ⟨m, ns m hn, fun i x v e1 e2 e3 => ?_⟩
    obtain ⟨u, r, l⟩ := hl i x v e1 e2 e3
    refine ⟨u, r, ?_⟩
    rcases l with l | ⟨k, c, e, z⟩
    · exact .inl l
    · exact .inr ⟨k, c, e, cellK x c e _ z⟩
  · obtain ⟨v, z⟩ := I.cell x c e
    exact ⟨v, cellK x c e v z⟩
  · obtain ⟨m, ⟨o, _, _, ho, _⟩, _⟩ := I.loc
    exact free _ o (fun z => (hch _ z).2.1 rfl) ho I.free
  · obtain ⟨v, o, ho, hd⟩ := I.cell x c e
    exact free c o (fun z => (hch c z).2.2.1 x c e rfl) ho (I.freeC x c e)
  · obtain ⟨e, n, ne, nf, d⟩ := I.pin p hp
    have nch : p.1 ∉ ch := fun z => (hch p.1 z).2.2.2 p hp rfl
    exact ⟨keep p.1 p.2 ne nf nch e n, free p.1 p.2 nch e n, ne, nf, d⟩
/-- .. where the frame's own object is kept too -/
theorem Inv.un {t' : Nat} (I : Inv X pins σ H s) (u : Un X.fs [] H H' s.heap h') (hok : HOk X.prog X.w H' h') : Inv X pins σ H' { s with heap := h', toks := t' } := by
  obtain ⟨m, ⟨o, es, ep, ho, r⟩, _⟩ := id I.loc
  obtain ⟨sl, hL⟩ := u.any ho I.free (by simp)
  exact I.step (g' := s.gens) (d' := s.drawn) (ch := []) (fun _ z => nomatch z) (fun b o _ hb _ e n => u.keep b o e n hb (by simp)) (fun b o _ hb _ e n => u.slot b o e n hb (by simp)) (fun b o _ e n => u.free b o e n (by simp)) (fun b o _ e => u.there b o e (by simp)) u.tups u.frzs u.tbls (fun m' hm => by
    obtain ⟨o', es', ep', ho', r'⟩ := hm
    rw [ho] at ho'; cases ho'
    exact ⟨_, es', ep', hL, r'⟩) hok I.bare
/-- behind a call (or a comprehension's block): the slots of this frame may have changed too, the records at ch may have turned -/
theorem Inv.call {g' : Array GenState} {t' : Nat} {d' : Drawn} {ch : List Addr} (I : Inv X pins σ H s) (u : Un (frs X.stack) ch H H' s.heap h') (hok : HOk X.prog X.w H' h') (hg : AllBare g')
    (hch : ∀ b ∈ ch, (b ∈ X.ex ∨ X.s₀.heap.objs.size ≤ b) ∧ b ≠ X.env.locals ∧ (∀ x c, X.env.cells.lookup x = some c → c ≠ b) ∧ ∀ p ∈ X.pn ++ pins, p.1 ≠ b) :
    Inv X pins σ H' { s with heap := h', gens := g', drawn := d', toks := t' } := by
  obtain ⟨m, ⟨o, es, ep, ho, r⟩, _⟩ := id I.loc
  obtain ⟨sl, hL⟩ := u.any ho I.free fun z => (hch _ z).2.1 rfl
  exact I.step (ch := ch) hch (fun b o hL hb hc e n => u.keep b o e n (fun z => (List.mem_cons.mp (I.stkSub b z)).elim hL hb) hc) (fun b o _ _ hc e n => u.any e n hc) (fun b o hc e n => u.free b o e n hc) (fun b o hc e => u.there b o e hc) u.tups u.frzs u.tbls (fun m' hm => by
    obtain ⟨o', es', ep', ho', r'⟩ := hm
    rw [ho] at ho'; cases ho'
    exact ⟨_, es', ep', hL, r'⟩) hok hg
/-- an untracked record of ours (an iterator) has turned -/
theorem Inv.turned {t' : Nat} {it : Addr} (I : Inv X pins σ H s) (k : ∀ b o, b ≠ it → s.heap.get? b = some o → h'.get? b = some o) (hn : H it = none) (hL : it ≠ X.env.locals)
    (h1 : it ∈ X.ex ∨ X.s₀.heap.objs.size ≤ it) (h2 : ∀ x c, X.env.cells.lookup x = some c → c ≠ it) (h3 : ∀ p ∈ X.pn ++ pins, p.1 ≠ it) : Inv X pins σ H { s with heap := h', toks := t' } := by
  have nit : ∀ b u, H b = some u → b ≠ it := fun b u e z => by rw [z, hn] at e; cases e
  refine I.step (g' := s.gens) (d' := s.drawn) (ch := [it]) (fun b hb => ?_) (fun b o _ _ hc e _ => k b o (fun z => hc (by simp [z])) e) (fun b o _ _ hc e _ => ⟨o.slots, k b o (fun z => hc (by simp [z])) e⟩) (fun _ _ _ _ n => n)
    (fun b o hc e => ⟨o, k b o (fun z => hc (by simp [z])) e⟩) (fun _ _ e => e) (fun _ _ _ e => e) (fun b ps e => ⟨#[], by rw [e]; simp⟩) (fun m hm => ?_) (fun b u e => ?_) I.bare
  · have e : b = it := by simpa using hb
    subst e
    exact ⟨h1, hL, h2, h3⟩
  · obtain ⟨o, es, ep, ho, r⟩ := hm
    exact ⟨o, es, ep, k _ o (Ne.symm hL) ho, r⟩
  · refine (I.hok b u e).stay (fun c v hc q => k c v ?_ q) (fun _ q => q) fun _ _ q => q
    rcases hc with z | z
    · rw [z]; exact nit b u e
    · exact nit c _ z
theorem Inv.tok (I : Inv X pins σ H s) (t : Nat) : Inv X pins σ H { s with toks := t } := I.un (h' := s.heap) (t' := t) Un.refl I.hok
/-- all objects kept -/
theorem Inv.kept {t' : Nat} (I : Inv X pins σ H s) (k : ∀ b u, s.heap.get? b = some u → h'.get? b = some u) : Inv X pins σ H { s with heap := h', toks := t' } := I.un (Un.kept k) (I.hok.kept k)
/-- a new object laid and tracked -/
theorem Inv.laid {a : Addr} {o : HO} {t' : Nat} (I : Inv X pins σ H s) (k : ∀ b u, s.heap.get? b = some u → h'.get? b = some u) (hp : s.heap.objs.size ≤ a) (new : ObjOk X.prog X.w (upd H a o) h' a o) :
    Inv X pins σ (upd H a o) { s with heap := h', toks := t' } := I.un (Un.laid k hp (I.hok.fresh hp)) (I.hok.laid k hp new)
/-- an object written -/
theorem Inv.write {x e : Addr} {o : HO} {t' : Nat} (I : Inv X pins σ H s) (mu : Mut (H x)) (he : e = x ∨ H e = some (.own x)) (k : ∀ b u, b ≠ e → s.heap.get? b = some u → h'.get? b = some u) (heo : ∃ u, h'.get? e = some u)
    (new : ObjOk X.prog X.w (upd H x o) h' x o) : Inv X pins σ (upd H x o) { s with heap := h', toks := t' } := I.un (Un.write mu he k heo) (I.hok.write mu he k heo new)
/-- forgetting slots, pins -/
theorem Inv.weak {σ' : List (Option V)} (I : Inv X pins σ H s) (hl : σ'.length = σ.length) (w : ∀ (i : Nat) v, σ'[i]? = some (some v) → σ[i]? = some (some v)) : Inv X pins σ' H s :=
  ⟨I.ok, I.os, I.bare, I.base, let ⟨m, hn, hl'⟩ := I.loc; ⟨m, hn, fun i x v e1 e2 e3 => hl' i x v e1 (w i v e2) e3⟩, I.cell, I.free, I.freeC, I.pin, I.hok, hl.trans I.len⟩
theorem Inv.pins_of {pins' : List (Addr × Obj)} (I : Inv X pins σ H s) (h : ∀ p ∈ pins', s.heap.get? p.1 = some p.2 ∧ H p.1 = none ∧ p.1 ≠ X.env.locals ∧ p.1 ∉ X.fs ∧ ∀ v, p.2.data ≠ .cell v) : Inv X pins' σ H s :=
  ⟨I.ok, I.os, I.bare, I.base, I.loc, I.cell, I.free, I.freeC, fun p hp => (List.mem_append.mp hp).elim (fun z => I.pin p (List.mem_append_left _ z)) (h p), I.hok, I.len⟩

theorem nodup_ix {N : List Str} (hN : N.Nodup) {i j : Nat} {x : Str} (a : N[i]? = some x) (b : N[j]? = some x) : i = j := by
  obtain ⟨h1, e1⟩ := List.getElem?_eq_some_iff.mp a
  obtain ⟨h2, e2⟩ := List.getElem?_eq_some_iff.mp b
  exact (List.getElem_inj hN).mp (e1.trans e2.symm)

/-- a name is stored; what changed -/
theorem store_ok2 {M : Model} {A : Around} {E : Value → Shared → Prop} {i : Nat} {x : Str} {v : V} {u : Value} {Q : Unit → Shared → Prop} (I : Inv X pins σ H s) (hN : X.N.Nodup) (hi : X.N[i]? = some x) (hx : Loc X.env.scope x) (r : RelV v u)
    (h : ∀ s', Inv X pins (σ.set i (some v)) H s' → (∃ a, Heap.SameBut a s.heap s'.heap ∧ (a = X.env.locals ∨ X.env.cells.lookup x = some a)) → Q () s') (hf : X.fn x = true ∨ X.env.scope.names.lookup x = some .local := by first | exact .inl rfl | exact .inr rfl | assumption) : wpAny M A (storeName X.env x u) Q E s := by
  obtain ⟨m, hn, hl⟩ := id I.loc
  have hcls : (X.env.scope.kind == .class || (X.env.scope.kind == .module && X.env.locals != X.env.globals)) = false := by rw [I.ok.kind]; rfl
  have hiσ : i < σ.length := by rw [I.len]; exact (List.getElem?_eq_some_iff.mp hi).1
  have cne := I.cne
  have tracked : ∀ {a : Addr} {h' : Heap}, (∃ o, s.heap.get? a = some o ∧ H a = none) → Heap.SameBut a s.heap h' → HOk X.prog X.w H h' := fun {a h'} ha hs b ob e => by
    obtain ⟨_, _, hfree⟩ := ha
    refine (I.hok b ob e).stay (fun c w' hc q => (hs.2 c ?_).trans q) (fun _ q => q) fun _ _ q => q
    rintro rfl
    rcases hc with rfl | hc
    · rw [hfree] at e; cases e
    · rw [hfree] at hc; cases hc
  rcases hx with hk | hk
  · refine wpAny_storeName_local hk hn (fun h' hn' hs => ?_) hcls
    obtain ⟨oL, _, _, hoL, _⟩ := id hn
    refine h _ ⟨I.ok, I.os, I.bare, ⟨fun b o e n hb hx => ?_, fun b o e n hb hx => ?_, I.base.free, fun b o e hx => ?_, I.base.tups, I.base.frzs, I.base.tbls⟩, ⟨_, hn', fun j y v' e1 e2 e3 => ?_⟩, fun y c e => ?_, I.free, I.freeC, fun p hp => ?_, tracked ⟨oL, hoL, I.free⟩ hs, by simpa using I.len⟩ ⟨_, hs, .inl rfl⟩
    · exact (hs.2 b (Nat.ne_of_lt (Nat.lt_of_lt_of_le (Heap.lt_size e) I.ok.above))).trans (I.base.keep b o e n hb hx)
    · obtain ⟨sl, e1⟩ := I.base.slot b o e n hb hx
      exact ⟨sl, (hs.2 b (Nat.ne_of_lt (Nat.lt_of_lt_of_le (Heap.lt_size e) I.ok.above))).trans e1⟩
    · obtain ⟨o', e1⟩ := I.base.there b o e hx
      exact ⟨o', (hs.2 b (Nat.ne_of_lt (Nat.lt_of_lt_of_le (Heap.lt_size e) I.ok.above))).trans e1⟩
    · by_cases hj : j = i
      · subst hj
        rw [hi] at e1; cases e1
        rw [List.getElem?_set_self hiσ] at e2
        cases e2
        exact ⟨u, r, .inl ⟨hk, by simp⟩⟩
      · rw [List.getElem?_set_ne (Ne.symm hj)] at e2
        obtain ⟨u', r', q⟩ := hl j y v' e1 e2 e3
        refine ⟨u', r', ?_⟩
        rcases q with ⟨k, e⟩ | ⟨k, c, e, z⟩
        · refine .inl ⟨k, ?_⟩
          have : y ≠ x := fun e => hj (nodup_ix hN e1 (e ▸ hi))
          simp [this, e]
        · exact .inr ⟨k, c, e, z.sameBut hs (cne y c e)⟩
    · obtain ⟨w', z⟩ := I.cell y c e
      exact ⟨w', z.sameBut hs (cne y c e)⟩
    · obtain ⟨e, n, ne, nf, d⟩ := I.pin p hp
      exact ⟨(hs.2 p.1 ne).trans e, n, ne, nf, d⟩
  · have hfn : X.fn x = true := by
      rcases hf with z | z
      · exact z
      · rw [z] at hk; cases hk
    obtain ⟨c, hc⟩ := I.ok.has x (.inl hk)
    obtain ⟨w', z⟩ := I.cell x c hc
    refine wpAny_storeName_cell I.ok.kind hk hc z (fun h' hc' hs => ?_)
    obtain ⟨oc, hoc, hocd⟩ := id z
    refine h { s with heap := h' } ⟨I.ok, I.os, I.bare, ⟨fun b o e n hb hx => ?_, fun b o e n hb hx => ?_, I.base.free, fun b o e hx => ?_, I.base.tups, I.base.frzs, I.base.tbls⟩, ⟨m, hn.sameBut hs (Ne.symm (cne x c hc)), fun j y v' e1 e2 e3 => ?_⟩, fun y c' e => ?_, I.free, I.freeC, fun p hp => ?_, tracked ⟨oc, hoc, I.freeC x c hc⟩ hs, by simpa using I.len⟩ ⟨c, hs, .inr hc⟩
    · exact (hs.2 b (Nat.ne_of_lt (Nat.lt_of_lt_of_le (Heap.lt_size e) (I.ok.cab x c hfn hc)))).trans (I.base.keep b o e n hb hx)
    · obtain ⟨sl, e1⟩ := I.base.slot b o e n hb hx
      exact ⟨sl, (hs.2 b (Nat.ne_of_lt (Nat.lt_of_lt_of_le (Heap.lt_size e) (I.ok.cab x c hfn hc)))).trans e1⟩
    · obtain ⟨o', e1⟩ := I.base.there b o e hx
      exact ⟨o', (hs.2 b (Nat.ne_of_lt (Nat.lt_of_lt_of_le (Heap.lt_size e) (I.ok.cab x c hfn hc)))).trans e1⟩
    · by_cases hj : j = i
      · subst hj
        rw [hi] at e1; cases e1
        rw [List.getElem?_set_self hiσ] at e2
        cases e2
        exact ⟨u, r, .inr ⟨.inl hk, c, hc, hc'⟩⟩
      · rw [List.getElem?_set_ne (Ne.symm hj)] at e2
        obtain ⟨u', r', q⟩ := hl j y v' e1 e2 e3
        refine ⟨u', r', ?_⟩
        rcases q with q | ⟨k, c', e, z'⟩
        · exact .inl q
        · refine .inr ⟨k, c', e, z'.sameBut hs ?_⟩
          rintro rfl
          exact hj (nodup_ix hN e1 (I.ok.inj _ _ _ e hc ▸ hi))
    · by_cases hcc : c' = c
      · subst hcc; exact ⟨_, hc'⟩
      · obtain ⟨w2, z2⟩ := I.cell y c' e
        exact ⟨w2, z2.sameBut hs hcc⟩
    · obtain ⟨e, n, ne, nf, d⟩ := I.pin p hp
      refine ⟨(hs.2 p.1 ?_).trans e, n, ne, nf, d⟩
      intro q
      rw [q, hoc] at e
      have q' : oc = p.2 := Option.some.inj e
      exact d w' (by rw [← q']; exact hocd)
theorem store_ok {M : Model} {A : Around} {E : Value → Shared → Prop} {i : Nat} {x : Str} {v : V} {u : Value} {Q : Unit → Shared → Prop} (I : Inv X pins σ H s) (hN : X.N.Nodup) (hi : X.N[i]? = some x) (hx : Loc X.env.scope x) (r : RelV v u)
    (h : ∀ s', Inv X pins (σ.set i (some v)) H s' → Q () s') (hf : X.fn x = true ∨ X.env.scope.names.lookup x = some .local := by first | exact .inl rfl | exact .inr rfl | assumption) : wpAny M A (storeName X.env x u) Q E s :=
  store_ok2 I hN hi hx r (fun s' I' _ => h s' I') hf
/-- behind a call or a block, the state as it is -/
theorem Inv.call' {s' : Shared} {ch : List Addr} (I : Inv X pins σ H s) (ho : s'.os = s.os) (u : Un (frs X.stack) ch H H' s.heap s'.heap) (hok : HOk X.prog X.w H' s'.heap) (hg : AllBare s'.gens)
    (hch : ∀ b ∈ ch, (b ∈ X.ex ∨ X.s₀.heap.objs.size ≤ b) ∧ b ≠ X.env.locals ∧ (∀ x c, X.env.cells.lookup x = some c → c ≠ b) ∧ ∀ p ∈ X.pn ++ pins, p.1 ≠ b) : Inv X pins σ H' s' := by
  obtain ⟨h', g', d', t', o'⟩ := s'
  have e : o' = s.os := ho
  subst e
  exact I.call (g' := g') (t' := t') (d' := d') u hok hg hch
end

/-! ### the judgements -/
/-- an exception: its class, its own dict's address (where it has one), the abstract heap behind it -/
abbrev XK := Value → Option Addr → Hp → Prop
abbrev St := List (Option V)
abbrev VK := V → Hp → Prop
/-- an expression's reading; a test's; an argument list's -/
abbrev TE := St → Hp → VK → Prop
abbrev TT := St → Hp → (Bool → Hp → Prop) → Prop
abbrev TA := St → Hp → (List V → Hp → Prop) → Prop
/-- what is wanted behind a statement -/
structure Ends where
  nx : St → Hp → Prop
  rt : VK
  bk : St → Hp → Prop := fun _ _ => False
  ct : St → Hp → Prop := fun _ _ => False
abbrev TS := Ends → St → Hp → Prop

def EP (X : Cx) (pins : List (Addr × Obj)) (σ : St) (Q : VK) (u : Value) (s' : Shared) : Prop := ∃ v H', Inv X pins σ H' s' ∧ RelV v u ∧ Q v H'
def TP (X : Cx) (pins : List (Addr × Obj)) (σ : St) (Q : Bool → Hp → Prop) (b : Bool) (s' : Shared) : Prop := ∃ H', Inv X pins σ H' s' ∧ Q b H'
def AP (X : Cx) (pins : List (Addr × Obj)) (σ : St) (Q : List V → Hp → Prop) (us : List Value) (s' : Shared) : Prop := ∃ vs H', Inv X pins σ H' s' ∧ Vals vs us ∧ Q vs H'
def SP (X : Cx) (pins : List (Addr × Obj)) (D : Ends) (f : Flow) (s' : Shared) : Prop :=
  match f with
  | .next => ∃ σ' H', Inv X pins σ' H' s' ∧ D.nx σ' H'
  | .brk => ∃ σ' H', Inv X pins σ' H' s' ∧ D.bk σ' H'
  | .cont => ∃ σ' H', Inv X pins σ' H' s' ∧ D.ct σ' H'
  | .ret u => ∃ v σ' H', Inv X pins σ' H' s' ∧ RelV v u ∧ D.rt v H'

def PE (X : Cx) (e : Expr) (t : TE) : Prop :=
  ∀ (pins : List (Addr × Obj)) (s : Shared) (σ : St) (H : Hp) (Q : VK), Inv X pins σ H s → t σ H Q → wpAny (model X.prog X.w) X.A (eval e X.env) (EP X pins σ Q) X.xe s
def PT (X : Cx) (e : Expr) (t : TT) : Prop :=
  ∀ (pins : List (Addr × Obj)) (s : Shared) (σ : St) (H : Hp) (Q : Bool → Hp → Prop), Inv X pins σ H s → t σ H Q → wpAny (model X.prog X.w) X.A (isTrue e X.env (eval e X.env)) (TP X pins σ Q) X.xe s
/-- a test whatever its 'whole' is (and, or) -/
def PW (X : Cx) (e : Expr) (t : TT) : Prop :=
  ∀ (whole : Sem Value) (pins : List (Addr × Obj)) (s : Shared) (σ : St) (H : Hp) (Q : Bool → Hp → Prop), Inv X pins σ H s → t σ H Q → wpAny (model X.prog X.w) X.A (isTrue e X.env whole) (TP X pins σ Q) X.xe s
theorem PW.pt {X : Cx} {e : Expr} {t : TT} (h : PW X e t) : PT X e t := h _
/-- an argument list (no star), from the left -/
def PA (X : Cx) (es : List Expr) (t : TA) : Prop :=
  ∀ (pos : Pos) (pins : List (Addr × Obj)) (s : Shared) (σ : St) (H : Hp) (Q : List V → Hp → Prop), Inv X pins σ H s → t σ H Q → wpAny (model X.prog X.w) X.A (spliced (backTo pos (starEach es X.env))) (AP X pins σ Q) X.xe s
def PS (X : Cx) (st : Stmt) (t : TS) : Prop :=
  ∀ (pins : List (Addr × Obj)) (s : Shared) (σ : St) (H : Hp) (D : Ends), Inv X pins σ H s → t D σ H → wpAny (model X.prog X.w) X.A (exec st X.env) (SP X pins D) X.xe s
def PSs (X : Cx) (st : List Stmt) (t : TS) : Prop :=
  ∀ (pins : List (Addr × Obj)) (s : Shared) (σ : St) (H : Hp) (D : Ends), Inv X pins σ H s → t D σ H → wpAny (model X.prog X.w) X.A (execs st X.env) (SP X pins D) X.xe s
/-- weaken the end -/
theorem thn {α : Type} {t : Sem α} {Q Q' : α → Shared → Prop} {M : Model} {A : Around} {E : Value → Shared → Prop} {s : Shared} (h : wpAny M A t Q E s) (hQ : ∀ a s, Q a s → Q' a s) : wpAny M A t Q' E s := wpAny_mono h hQ fun _ _ x => x
end L2

namespace L2
open PySem PySem.Spec PyProof.Rows
section
variable {X : Cx}

/-- two expressions in a row -/
theorem bin {a b : Expr} {ta tb : TE} (ha : PE X a ta) (hb : PE X b tb) {pins : List (Addr × Obj)} {s : Shared} {σ : St} {H : Hp} {R : V → V → Hp → Prop} (I : Inv X pins σ H s) (h : ta σ H fun x H1 => tb σ H1 fun y H2 => R x y H2)
    {α : Type} {Q : α → Shared → Prop} {f : Value → Value → Sem α}
    (hf : ∀ v u s2 x y H2, Inv X pins σ H2 s2 → RelV x v → RelV y u → R x y H2 → wpAny (model X.prog X.w) X.A (f v u) Q X.xe s2) :
    wpAny (model X.prog X.w) X.A (eval a X.env) (fun v s₁ => wpAny (model X.prog X.w) X.A (eval b X.env) (fun u s₂ => wpAny (model X.prog X.w) X.A (f v u) Q X.xe s₂) X.xe s₁) X.xe s := by
  refine thn (ha pins s σ H _ I h) fun v s1 ⟨x, H1, I1, r1, q1⟩ => ?_
  refine thn (hb pins s1 σ H1 _ I1 q1) fun u s2 ⟨y, H2, I2, r2, q2⟩ => ?_
  exact hf v u s2 x y H2 I2 r1 r2 q2

/-! ### names and constants -/
def tVar (i : Nat) : TE := fun σ H Q => ∃ v, σ[i]? = some (some v) ∧ Q v H
def tC (v : V) : TE := fun _ H Q => Q v H
theorem pe_var {i : Nat} {x : Str} {pos : Pos} (hN : X.N[i]? = some x) (hv : Vis X.env.scope x) (hd : (x == ("__debug__" : Str)) = false := by decide) (hcd : (x == ("__classdict__" : Str)) = false := by decide) : PE X (.Name x pos) (tVar i) := by
  intro pins s σ H Q I h
  obtain ⟨v, e, h⟩ := h
  obtain ⟨m, hn, hl⟩ := I.loc
  obtain ⟨u, r, l⟩ := hl i x v hN e hv
  have fin : EP X pins σ Q u s := ⟨v, H, I, r, h⟩
  rcases l with ⟨hk, hm⟩ | ⟨hk, c, hc, hcell⟩
  · exact wpAny_Name (wpAny_loadName_local I.ok.kind hk hn hm fin) hd
  · rcases hk with hk | hk
    · exact wpAny_Name (wpAny_loadName_cell I.ok.kind hk hc hcell fin) hd
    · exact wpAny_Name (wpAny_loadName_free I.ok.kind hk hc hcell fin hcd) hd
theorem pe_int {i j pos} : PE X (.Constant (.int i) j pos) (tC (.int i)) := fun _ _ _ H _ I h => wpAny_Constant_int ⟨.int i, H, I.tok _, ⟨_, rfl⟩, h⟩
theorem pe_bl {b j pos} : PE X (.Constant (.bool b) j pos) (tC (.bl b)) := fun _ _ _ H _ I h => Constant_bool ⟨.bl b, H, I, rfl, h⟩
theorem pe_non {j pos} : PE X (.Constant .none j pos) (tC .non) := fun _ _ _ H _ I h => Constant_none ⟨.non, H, I, rfl, h⟩
theorem pe_str {x j pos} : PE X (.Constant (.str x) j pos) (tC (.str x)) := fun _ _ _ H _ I h => Calls.Constant_str ⟨.str x, H, I.tok _, ⟨_, rfl⟩, h⟩

/-- a global name of the def -/
def Gl (X : Cx) (x : Str) : Prop := X.env.kindOf x = some .globalImplicit
theorem ld_glob {E : Value → Shared → Prop} {pins : List (Addr × Obj)} {s : Shared} {σ : St} {H : Hp} {x : Str} {u : Value} {pos : Pos} {Q : Value → Shared → Prop} (I : Inv X pins σ H s) (hg : Gl X x) (hm : X.mg x = some u) (h : Q u s)
    (hd : (x == ("__debug__" : Str)) = false := by decide) : wpAny (model X.prog X.w) X.A (eval (.Name x pos) X.env) Q E s :=
  Calls.Name_function_global I.ok.kind hg (Calls.loadGlobal_global (by rw [I.ok.glob]; exact I.mod.glob.keeps I.bk) hm h) hd
theorem ld_blt {E : Value → Shared → Prop} {pins : List (Addr × Obj)} {s : Shared} {σ : St} {H : Hp} {x : Str} {u : Value} {pos : Pos} {Q : Value → Shared → Prop} (I : Inv X pins σ H s) (hg : Gl X x) (hm : X.mg x = none) (hv : bootBuiltins x = some u) (h : Q u s)
    (hn : x ≠ "__name__" := by decide) (hd : (x == ("__debug__" : Str)) = false := by decide) : wpAny (model X.prog X.w) X.A (eval (.Name x pos) X.env) Q E s := by
  obtain ⟨mb, h1, h2⟩ := I.mod.blt
  exact Calls.Name_function_global I.ok.kind hg (Calls.loadGlobal_builtin (by rw [I.ok.glob]; exact I.mod.glob.keeps I.bk) hm (by rw [I.ok.blt]; exact h1.keeps I.bk) ((h2 x hn).trans hv) h) hd
/-- a module's constant, a class, a function, as a value -/
theorem pe_glob {x : Str} {v : V} {u : Value} {pos : Pos} (hg : Gl X x) (hm : X.mg x = some u) (r : RelV v u) (hd : (x == ("__debug__" : Str)) = false := by decide) : PE X (.Name x pos) (tC v) :=
  fun _ _ _ H _ I h => ld_glob I hg hm ⟨v, H, I, r, h⟩ hd
theorem pe_bltn {x : Str} {v : V} {u : Value} {pos : Pos} (hg : Gl X x) (hm : X.mg x = none) (hv : bootBuiltins x = some u) (r : RelV v u) (hn : x ≠ "__name__" := by decide) (hd : (x == ("__debug__" : Str)) = false := by decide) : PE X (.Name x pos) (tC v) :=
  fun _ _ _ H _ I h => ld_blt I hg hm hv ⟨v, H, I, r, h⟩ hn hd

/-! ### arithmetic -/
/-- two ints -/
def t2I (ta tb : TE) (k : Int → Int → Hp → Prop) : St → Hp → Prop := fun σ H => ta σ H fun x H1 => tb σ H1 fun y H2 => ∃ i j, x = .int i ∧ y = .int j ∧ k i j H2
def tAdd (ta tb : TE) : TE := fun σ H Q => t2I ta tb (fun i j H2 => Q (.int (i + j)) H2) σ H
def tSub (ta tb : TE) : TE := fun σ H Q => t2I ta tb (fun i j H2 => Q (.int (i - j)) H2) σ H
/-- the left factor below 2^64 -/
def tMul (ta tb : TE) : TE := fun σ H Q => t2I ta tb (fun i j H2 => (-(2 ^ 64) < i ∧ i < 2 ^ 64) ∧ Q (.int (i * j)) H2) σ H
variable {a b : Expr} {ta tb : TE} {pos : Pos}
/-! ### comparisons -/
def PC (X : Cx) (op : CmpOp) (a b : Expr) (t : TE) : Prop :=
  ∀ (pins : List (Addr × Obj)) (s : Shared) (σ : St) (H : Hp) (Q : VK), Inv X pins σ H s → t σ H Q →
    wpAny (model X.prog X.w) X.A (eval a X.env) (fun v s₁ => wpAny (model X.prog X.w) X.A (eval b X.env) (fun u s₂ => wpAny (model X.prog X.w) X.A (compareOp op v u) (EP X pins σ Q) X.xe s₂) X.xe s₁) X.xe s
def tCmp (p : Int → Int → Bool) (ta tb : TE) : TE := fun σ H Q => t2I ta tb (fun i j H2 => Q (.bl (p i j)) H2) σ H
abbrev tLt : TE → TE → TE := tCmp fun i j => decide (i < j)
abbrev tLe : TE → TE → TE := tCmp fun i j => decide (i ≤ j)
abbrev tGt : TE → TE → TE := tCmp fun i j => decide (j < i)
abbrev tGe : TE → TE → TE := tCmp fun i j => decide (j ≤ i)
abbrev tEqI : TE → TE → TE := tCmp fun i j => decide (i = j)
abbrev tNeI : TE → TE → TE := tCmp fun i j => !decide (i = j)
/-- is None -/
def tIsN (ta : TE) : TE := fun σ H Q => ta σ H fun x H1 => Q (.bl (decide (x = .non))) H1
def tNotN (ta : TE) : TE := fun σ H Q => ta σ H fun x H1 => Q (.bl (!decide (x = .non))) H1
/-- a comparison as a value, as a test -/
def tB (t : TE) : TT := fun σ H Q => t σ H fun x H1 => ∃ c, x = .bl c ∧ Q c H1
theorem pt_cmp {op : CmpOp} {t : TE} (h : PC X op a b t) (h1 : behindInMarks op b = false := by first | exact nobehind _ (by decide) (by decide) | rfl) : PT X (.Compare a [op] [b] pos) (tB t) := by
  intro pins s σ H Q I hw
  refine wpAny_isTrue_Compare1 (thn (h pins s σ H _ I hw) fun v s1 h1 => thn h1 fun u s2 h2 => thn h2 fun c s3 ⟨x, H1, I1, r1, q1⟩ => ?_) h1
  obtain ⟨d, rfl, q⟩ := q1
  cases r1
  exact wpAny_truthy_bool ⟨H1, I1, q⟩
/-- an expression whose value is a bool, as a test -/
theorem pt_val {e : Expr} {t : TE} (h : PE X e t) (he : ∀ whole, isTrue e X.env whole = (do let v ← whole; standAt e.pos; holding [v] (truthy v)) := by intro _; rfl) : PT X e (tB t) := by
  intro pins s σ H Q I hw
  refine isTrue_plain (thn (h pins s σ H _ I hw) fun v s1 ⟨x, H1, I1, r1, q1⟩ => ?_) (he _)
  obtain ⟨d, rfl, q⟩ := q1
  cases r1
  exact wpAny_truthy_bool ⟨H1, I1, q⟩

/-! ### and, or, not -/
variable {tA tB' : TT} {rest : List Expr}
def tAnd (t u : TT) : TT := fun σ H Q => t σ H fun c H1 => if c = true then u σ H1 Q else Q false H1
def tOr (t u : TT) : TT := fun σ H Q => t σ H fun c H1 => if c = true then Q true H1 else u σ H1 Q
def tNot (t : TT) : TT := fun σ H Q => t σ H fun c H1 => Q (!c) H1
theorem pw_and1 (ha : PT X a tA) : PW X (.BoolOp .And [a] pos) tA := by
  intro wh pins s σ H Q I h
  refine isTrue_and (thn (ha pins s σ H Q I h) fun c s1 e => ?_)
  cases c with
  | true => exact isTrue_and_nil e
  | false => exact e
theorem pw_or1 (ha : PT X a tA) : PW X (.BoolOp .Or [a] pos) tA := by
  intro wh pins s σ H Q I h
  refine isTrue_or (thn (ha pins s σ H Q I h) fun c s1 e => ?_)
  cases c with
  | false => exact isTrue_or_nil e
  | true => exact e
theorem pw_and (ha : PT X a tA) (hb : PW X (.BoolOp .And (b :: rest) pos) tB') : PW X (.BoolOp .And (a :: b :: rest) pos) (tAnd tA tB') := by
  intro wh pins s σ H Q I h
  refine isTrue_and (thn (ha pins s σ H _ I h) fun c s1 ⟨H1, I1, q1⟩ => ?_)
  cases c with
  | true => exact hb wh pins s1 σ H1 Q I1 q1
  | false => exact ⟨H1, I1, q1⟩
theorem pw_or (ha : PT X a tA) (hb : PW X (.BoolOp .Or (b :: rest) pos) tB') : PW X (.BoolOp .Or (a :: b :: rest) pos) (tOr tA tB') := by
  intro wh pins s σ H Q I h
  refine isTrue_or (thn (ha pins s σ H _ I h) fun c s1 ⟨H1, I1, q1⟩ => ?_)
  cases c with
  | true => exact ⟨H1, I1, q1⟩
  | false => exact hb wh pins s1 σ H1 Q I1 q1
theorem pt_not (ha : PT X a tA) : PT X (.UnaryOp .Not a pos) (tNot tA) := by
  intro pins s σ H Q I h
  exact isTrue_not (ha pins s σ H (fun c H1 => Q (!c) H1) I h)
/-- .. as values (bools) -/
def tAndV (ta tb : TE) : TE := fun σ H Q => ta σ H fun x H1 => ∃ c, x = .bl c ∧ if c = true then tb σ H1 Q else Q (.bl false) H1
def tOrV (ta tb : TE) : TE := fun σ H Q => ta σ H fun x H1 => ∃ c, x = .bl c ∧ if c = true then Q (.bl true) H1 else tb σ H1 Q
def tNotV (ta : TE) : TE := fun σ H Q => ta σ H fun x H1 => ∃ c, x = .bl c ∧ Q (.bl (!c)) H1
theorem pe_one {op} {t : TE} (h : PE X a t) : PE X (.BoolOp op [a] pos) t := fun pins s σ H Q I hw => BoolOp_one (h pins s σ H Q I hw)
theorem pe_and (ha : PE X a ta) (hb : PE X (.BoolOp .And (b :: rest) pos) tb) : PE X (.BoolOp .And (a :: b :: rest) pos) (tAndV ta tb) := by
  intro pins s σ H Q I h
  refine BoolOp_and (thn (ha pins s σ H _ I h) fun v s1 ⟨x, H1, I1, r1, q1⟩ => ?_)
  obtain ⟨c, rfl, q1⟩ := q1
  cases r1
  refine wpAny_truthy_bool ?_
  cases c with
  | true => exact hb pins s1 σ H1 Q I1 q1
  | false => exact ⟨.bl false, H1, I1, rfl, q1⟩
theorem pe_or (ha : PE X a ta) (hb : PE X (.BoolOp .Or (b :: rest) pos) tb) : PE X (.BoolOp .Or (a :: b :: rest) pos) (tOrV ta tb) := by
  intro pins s σ H Q I h
  refine BoolOp_or (thn (ha pins s σ H _ I h) fun v s1 ⟨x, H1, I1, r1, q1⟩ => ?_)
  obtain ⟨c, rfl, q1⟩ := q1
  cases r1
  refine wpAny_truthy_bool ?_
  cases c with
  | false => exact hb pins s1 σ H1 Q I1 q1
  | true => exact ⟨.bl true, H1, I1, rfl, q1⟩
/-- a if t else b -/
def tIf (t : TT) (ta tb : TE) : TE := fun σ H Q => t σ H fun c H1 => if c = true then ta σ H1 Q else tb σ H1 Q
theorem pe_ifExp {c : Expr} (hc : PT X c tA) (ha : PE X a ta) (hb : PE X b tb) : PE X (.IfExp c a b pos) (tIf tA ta tb) := by
  intro pins s σ H Q I h
  refine wpAny_IfExp (thn (hc pins s σ H _ I h) fun d s1 ⟨H1, I1, q1⟩ => ?_)
  cases d with
  | true => exact ha pins s1 σ H1 Q I1 q1
  | false => exact hb pins s1 σ H1 Q I1 q1
end
end L2

namespace L2
open PySem PySem.Spec PyProof.Rows

/-! ### a list, a tuple that is read: tracked, frozen, or an object of the module -/
def SqL (K : PySem.W.Frag) (H : Hp) (a : Addr) (xs : List V) : Prop :=
  Rd H a (.lst xs) ∨
    ∃ (o : Obj) (its : Array Value) (n : Nat), K.lookup a = some o ∧ o.cls = .type "list" ∧ o.dict = none ∧ o.data = .seq its n ∧ its.size ≤ sizeLine ∧ Vals xs its.toList
def SqT (K : PySem.W.Frag) (H : Hp) (a : Addr) (xs : List V) : Prop :=
  Rd H a (.tup xs) ∨
    ∃ (o : Obj) (its : Array Value) (n : Nat), K.lookup a = some o ∧ o.cls = .type "tuple" ∧ o.data = .seq its n ∧ its.size ≤ sizeLine ∧ Vals xs its.toList
def absV : Value → Option V
  | .none => some .non
  | .bool b => some (.bl b)
  | .int i _ => some (.int i)
  | .str x _ => some (.str x)
  | .bytes b _ => some (.byt b)
  | .float b _ => some (.flt b)
  | .ref a => some (.ref a)
  | .type n => some (.ty n)
  | _ => none
theorem RelV.abs {x : V} {u : Value} (r : RelV x u) : absV u = some x := by
  cases x with
  | non => cases r; rfl
  | bl _ => cases r; rfl
  | int _ => obtain ⟨t, rfl⟩ := r; rfl
  | str _ => obtain ⟨t, rfl⟩ := r; rfl
  | byt _ => obtain ⟨t, rfl⟩ := r; rfl
  | flt _ => obtain ⟨t, rfl⟩ := r; rfl
  | ref _ => cases r; rfl
  | ty _ => cases r; rfl
theorem RelV.inj {x y : V} {u : Value} (r : RelV x u) (q : RelV y u) : x = y := Option.some.inj (r.abs.symm.trans q.abs)
theorem Vals.inj : ∀ {xs ys : List V} {us : List Value}, Vals xs us → Vals ys us → xs = ys
  | _, _, _, .nil, .nil => rfl
  | _, _, _, .cons r t, .cons r' t' => by rw [r.inj r', Vals.inj t t']
section
variable {X : Cx} {pins : List (Addr × Obj)} {σ : St} {H : Hp} {s : Shared} {a : Addr} {xs ys : List V}
theorem SqL.of {K : PySem.W.Frag} (h : H a = some (.lst xs)) : SqL K H a xs := .inl (.inl h)
theorem SqT.of {K : PySem.W.Frag} (h : H a = some (.tup xs)) : SqT K H a xs := .inl (.inl h)
theorem Inv.list (I : Inv X pins σ H s) (h : SqL X.K H a xs) : ∃ its : List Value, Vals xs its ∧ PlainL s.heap a its.toArray ∧ xs.length ≤ sizeLine := by
  rcases h with h | ⟨o, its, n, hk, hc, hd, hs, hz, r⟩
  · obtain ⟨z, its, n, r, e⟩ := h.ok I.hok
    exact ⟨its, r, ⟨_, n, e, rfl, rfl, rfl⟩, z⟩
  · refine ⟨its.toList, r, ⟨o, n, I.kIn a o hk, hc, hd, by simpa using hs⟩, ?_⟩
    have e := r.length
    simp only [Array.length_toList] at e
    omega
theorem Inv.tuple (I : Inv X pins σ H s) (h : SqT X.K H a xs) : ∃ its : List Value, Vals xs its ∧ IsTup s.heap a its.toArray ∧ xs.length ≤ sizeLine := by
  rcases h with h | ⟨o, its, n, hk, hc, hs, hz, r⟩
  · obtain ⟨z, its, r, p⟩ := h.ok I.hok
    exact ⟨its, r, p, z⟩
  · refine ⟨its.toList, r, ⟨o, I.kIn a o hk, hc, n, by simpa using hs⟩, ?_⟩
    have e := r.length
    simp only [Array.length_toList] at e
    omega
theorem Inv.list_inj (I : Inv X pins σ H s) (h : SqL X.K H a xs) (h' : SqL X.K H a ys) : xs = ys := by
  obtain ⟨its, r, ⟨o, n, e, _, _, d⟩, _⟩ := I.list h
  obtain ⟨its', r', ⟨o', n', e', _, _, d'⟩, _⟩ := I.list h'
  rw [e] at e'; cases e'
  rw [d] at d'
  injection d' with d1 _
  have : its = its' := by simpa using congrArg Array.toList d1
  subst this
  exact r.inj r'
end

/-! ### another wish about exceptions -/
abbrev Cx.wish (X : Cx) (E : Value → Shared → Prop) : Cx := { X with xe := E }
/-- no exception leaves -/
abbrev Cx.nox (X : Cx) : Cx := X.wish fun _ _ => False
theorem Cx.Ok.wish {X : Cx} (ok : X.Ok) (E : Value → Shared → Prop) : (X.wish E).Ok :=
  ⟨ok.mod, ok.kind, ok.glob, ok.blt, ok.above, ok.inj, ok.has, ok.cab, ok.hd, ok.frames, ok.stk, ok.exf, ok.bs, ok.bsz, ok.noex, ok.exfs, ok.funs, ok.frf⟩
theorem Cx.Ok.unwish {X : Cx} {E : Value → Shared → Prop} (ok : (X.wish E).Ok) : X.Ok :=
  ⟨ok.mod, ok.kind, ok.glob, ok.blt, ok.above, ok.inj, ok.has, ok.cab, ok.hd, ok.frames, ok.stk, ok.exf, ok.bs, ok.bsz, ok.noex, ok.exfs, ok.funs, ok.frf⟩
section
variable {X : Cx} {pins : List (Addr × Obj)} {σ : St} {H : Hp} {s : Shared} {E : Value → Shared → Prop}
theorem Inv.wish (I : Inv X pins σ H s) (E : Value → Shared → Prop) : Inv (X.wish E) pins σ H s := ⟨I.ok.wish E, I.os, I.bare, I.base, I.loc, I.cell, I.free, I.freeC, I.pin, I.hok, I.len⟩
theorem Inv.unwish (I : Inv (X.wish E) pins σ H s) : Inv X pins σ H s := ⟨I.ok.unwish, I.os, I.bare, I.base, I.loc, I.cell, I.free, I.freeC, I.pin, I.hok, I.len⟩
theorem SP.unwish {D : Ends} {f : Flow} {s' : Shared} (h : SP (X.wish E) pins D f s') : SP X pins D f s' := by
  cases f with
  | next => obtain ⟨σ', H', I, q⟩ := h; exact ⟨σ', H', I.unwish, q⟩
  | brk => obtain ⟨σ', H', I, q⟩ := h; exact ⟨σ', H', I.unwish, q⟩
  | cont => obtain ⟨σ', H', I, q⟩ := h; exact ⟨σ', H', I.unwish, q⟩
  | ret u => obtain ⟨v, σ', H', I, r, q⟩ := h; exact ⟨v, σ', H', I.unwish, r, q⟩
theorem PSs.nox {st : List Stmt} {t : TS} (h : PSs X.nox st t) : PSs X st t := fun pins s σ H D I hw =>
  wpAny_mono (h pins s σ H D (I.wish _) hw) (fun _ _ q => q.unwish) fun _ _ z => False.elim z
end

/-! ### blocks and small statements -/
section
variable {X : Cx} {st : Stmt} {rest : List Stmt} {t u : TS} {e : Expr} {te : TE} {pos : Pos}
def tNext : TS := fun D σ H => D.nx σ H
def tSeq (t u : TS) : TS := fun D σ H => t { D with nx := u D } σ H
theorem pss_nil : PSs X [] tNext := fun _ _ σ H _ I h => wpAny_execs_nil ⟨σ, H, I, h⟩
theorem pss_cons (h1 : PS X st t) (h2 : PSs X rest u) : PSs X (st :: rest) (tSeq t u) := by
  intro pins s σ H D I h
  refine wpAny_execs_cons (thn (h1 pins s σ H { D with nx := u D } I h) fun f s1 q => ?_)
  cases f with
  | next =>
    obtain ⟨σ', H', I', q⟩ := q
    exact h2 pins s1 σ' H' D I' q
  | ret v => exact q
  | brk => exact q
  | cont => exact q
theorem pss_one (h1 : PS X st t) : PSs X [st] t := by
  intro pins s σ H D I h
  refine wpAny_execs_cons (thn (h1 pins s σ H D I h) fun f s1 q => ?_)
  cases f with
  | next => exact wpAny_execs_nil q
  | ret v => exact q
  | brk => exact q
  | cont => exact q
def tBreak : TS := fun D σ H => D.bk σ H
def tCont : TS := fun D σ H => D.ct σ H
/-- in a def's body nothing is shown -/
theorem Inv.quiet {pins : List (Addr × Obj)} {σ : St} {H : Hp} {s : Shared} (I : Inv X pins σ H s) : interactive X.env = false := by simp [interactive, I.ok.kind]
/-- an expression whose value is dropped -/
def tDrop (te : TE) : TS := fun D σ H => te σ H fun _ H1 => D.nx σ H1
theorem ps_expr (he : PE X e te) (hs : swapsWith e none pos.line X.env = pure false := by rfl) : PS X (.Expr e pos) (tDrop te) := by
  intro pins s σ H D I h
  exact wpAny_Expr_any (thn (he pins s σ H _ I h) fun v s1 ⟨x, H1, I1, r1, q1⟩ => ⟨σ, H1, I1, q1⟩) I.quiet hs
def tRet (te : TE) : TS := fun D σ H => te σ H D.rt
theorem ps_ret (he : PE X e te) : PS X (.Return (some e) pos) (tRet te) := by
  intro pins s σ H D I h
  exact wpAny_Return_some (thn (he pins s σ H _ I h) fun v s1 ⟨x, H1, I1, r1, q1⟩ => ⟨x, σ, H1, I1, r1, q1⟩)
def tRetN : TS := fun D _ H => D.rt .non H
def tIfS (c : TT) (t u : TS) : TS := fun D σ H => c σ H fun b H1 => if b = true then t D σ H1 else u D σ H1
theorem ps_if {c : Expr} {a b : List Stmt} {tc : TT} (hc : PT X c tc) (ha : PSs X a t) (hb : PSs X b u) : PS X (.If c a b pos) (tIfS tc t u) := by
  intro pins s σ H D I h
  refine wpAny_If (thn (hc pins s σ H _ I h) fun d s1 ⟨H1, I1, q1⟩ => ?_)
  cases d with
  | true => exact ha pins s1 σ H1 D I1 q1
  | false => exact hb pins s1 σ H1 D I1 q1
/-- code that the proof never comes to -/
def tNever : TS := fun _ _ _ => False
end

/-! ### targets -/
abbrev TG := V → St → Hp → (St → Hp → Prop) → Prop
abbrev TGs := List V → St → Hp → (St → Hp → Prop) → Prop
def PG (X : Cx) (target : Expr) (t : TG) : Prop :=
  ∀ (pins : List (Addr × Obj)) (s : Shared) (σ : St) (H : Hp) (v : V) (u : Value) (Q : St → Hp → Prop), Inv X pins σ H s → RelV v u → t v σ H Q →
    wpAny (model X.prog X.w) X.A (assign target X.env u) (fun _ s' => ∃ σ' H', Inv X pins σ' H' s' ∧ Q σ' H') X.xe s
/-- several targets, one after another -/
def PGs (X : Cx) (ts : List Expr) (t : TGs) : Prop :=
  ∀ (pins : List (Addr × Obj)) (s : Shared) (σ : St) (H : Hp) (vs : List V) (us : List Value) (Q : St → Hp → Prop), Inv X pins σ H s → Vals vs us → t vs σ H Q →
    wpAny (model X.prog X.w) X.A (assignInOrder ((assignEach ts X.env).map (·.2)) us) (fun _ s' => ∃ σ' H', Inv X pins σ' H' s' ∧ Q σ' H') X.xe s
/-- o[i] = v, by values -/
abbrev TSet := V → V → V → Hp → (Hp → Prop) → Prop
def PSet (X : Cx) (t : TSet) : Prop :=
  ∀ (pins : List (Addr × Obj)) (s : Shared) (σ : St) (H : Hp) (o i v : V) (ov iv u : Value) (Q : Hp → Prop), Inv X pins σ H s → RelV o ov → RelV i iv → RelV v u → t o i v H Q →
    wpAny (model X.prog X.w) X.A (setItem ov iv u) (fun _ s' => ∃ H', Inv X pins σ H' s' ∧ Q H') X.xe s
/-- a op= b, by values -/
abbrev TIp := V → V → Hp → VK → Prop
def PIp (X : Cx) (op : Operator) (t : TIp) : Prop :=
  ∀ (pins : List (Addr × Obj)) (s : Shared) (σ : St) (H : Hp) (x y : V) (v u : Value) (Q : VK), Inv X pins σ H s → RelV x v → RelV y u → t x y H Q →
    wpAny (model X.prog X.w) X.A (inplaceOp op v u) (EP X pins σ Q) X.xe s
section
variable {X : Cx} {pos : Pos}
def gName (i : Nat) : TG := fun v σ H Q => Q (σ.set i (some v)) H
theorem pg_name {i : Nat} {x : Str} (hN : X.N.Nodup) (hi : X.N[i]? = some x) (hx : Loc X.env.scope x) (hf : X.fn x = true ∨ X.env.scope.names.lookup x = some .local := by first | exact .inl rfl | exact .inr rfl | assumption) : PG X (.Name x pos) (gName i) := by
  intro pins s σ H v u Q I r h
  exact wpAny_assign_Name (store_ok I hN hi hx r (fun s' I' => ⟨_, H, I', h⟩) hf)
def gNil : TGs := fun vs σ H Q => vs = [] ∧ Q σ H
def gCons (t : TG) (u : TGs) : TGs := fun vs σ H Q => ∃ v r, vs = v :: r ∧ t v σ H fun σ' H' => u r σ' H' Q
/-- (a, b, ..) = a tuple of that length -/
def gTup (K : PySem.W.Frag) (n : Nat) (t : TGs) : TG := fun v σ H Q => ∃ a xs, v = .ref a ∧ SqT K H a xs ∧ xs.length = n ∧ t xs σ H Q
/-- o[i] = .. -/
def gSub (to ti : TE) (t : TSet) : TG := fun v σ H Q => to σ H fun o H1 => ti σ H1 fun i H2 => t o i v H2 fun H3 => Q σ H3
/-- target = value -/
def tAsg (te : TE) (g : TG) : TS := fun D σ H => te σ H fun x H1 => g x σ H1 D.nx
/-- name = value -/
theorem ps_set {i : Nat} {x : Str} {e : Expr} {te : TE} {pos' : Pos} (hN : X.N.Nodup) (hi : X.N[i]? = some x) (hx : Loc X.env.scope x) (he : PE X e te) (hs : swapsWith e (some (.Name x pos')) pos.line X.env = pure false := by rfl) (hf : X.fn x = true ∨ X.env.scope.names.lookup x = some .local := by first | exact .inl rfl | exact .inr rfl | assumption) :
    PS X (.Assign [.Name x pos'] e pos) (tAsg te (gName i)) := by
  intro pins s σ H D I h
  refine wpAny_Assign_Name (thn (he pins s σ H _ I h) fun v s1 ⟨y, H1, I1, r1, q1⟩ => ?_) hs
  exact store_ok I1 hN hi hx r1 (fun s2 I2 => ⟨_, H1, I2, q1⟩) hf
/-- a, b = x, y with plain local names: stored from the right; the pair itself is not tracked (the opening rows as in PyProof/Rows/TupAssign.lean:23) -/
def tPar (i j : Nat) (ta : TA) : TS := fun D σ H => ta σ H fun vs H1 => ∃ v w, vs = [v, w] ∧ D.nx ((σ.set i (some v)).set j (some w)) H1
/-- name op= e -/
def tAug (i : Nat) (te : TE) (ti : TIp) : TS := fun D σ H => ∃ x, σ[i]? = some (some x) ∧ te σ H fun y H1 => ti x y H1 fun z H2 => D.nx (σ.set i (some z)) H2
/-- o[i] op= e -/
def tAugS (to ti te : TE) (tget : V → V → Hp → VK → Prop) (tip : TIp) (tset : TSet) : TS := fun D σ H => to σ H fun o H1 => ti σ H1 fun i H2 => tget o i H2 fun x H3 => te σ H3 fun y H4 => tip x y H4 fun z H5 => tset o i z H5 fun H6 => D.nx σ H6
/-- o[i], by values -/
def PGet (X : Cx) (t : V → V → Hp → VK → Prop) : Prop :=
  ∀ (pins : List (Addr × Obj)) (s : Shared) (σ : St) (H : Hp) (o i : V) (ov iv : Value) (Q : VK), Inv X pins σ H s → RelV o ov → RelV i iv → t o i H Q →
    wpAny (model X.prog X.w) X.A (getItem ov iv) (EP X pins σ Q) X.xe s
/-- ints -/
def ipI (f : Int → Int → Int) : TIp := fun x y H Q => ∃ i j, x = .int i ∧ y = .int j ∧ Q (.int (f i j)) H
end

/-! ### while -/
section
variable {X : Cx} {pos : Pos}
/-- the invariant W with its measure -/
def tWhile (c : TT) (tb : TS) : TS := fun D σ H => ∃ W : Nat → St → Hp → Prop, (∃ m, W m σ H) ∧ ∀ m σ H, W m σ H →
  c σ H fun b H1 => if b = true then ∃ N : St → Hp → Prop, (∀ σ' H', N σ' H' → ∃ m', m' < m ∧ W m' σ' H') ∧ tb { D with nx := N, ct := N, bk := D.nx } σ H1 else D.nx σ H1
end

/-! ### what a loop or a comprehension walks -/
/-- at turn i: it yields x (the heap may grow), or it stops -/
structure It where
  go : Nat → Hp → Prop
  yld : Nat → Hp → V → Hp → Prop
  stop : Nat → Hp → Prop
/-- the iterator's own objects may turn: they are not the frame's, not pinned, younger than the entry (or a comprehension's own) -/
def FpOk (X : Cx) (pins : List (Addr × Obj)) (H : Hp) (b : Addr) : Prop :=
  H b = none ∧ b ≠ X.env.locals ∧ b ∉ X.fs ∧ (b ∈ X.ex ∨ X.s₀.heap.objs.size ≤ b) ∧ (∀ x c, X.env.cells.lookup x = some c → c ≠ b) ∧ ∀ p ∈ X.pn ++ pins, p.1 ≠ b
theorem Inv.fpOk {X : Cx} {pins : List (Addr × Obj)} {σ : St} {H H' : Hp} {s : Shared} {b : Addr} (I : Inv X pins σ H s) (hb : s.heap.objs.size ≤ b) (hn : H' b = none) : FpOk X pins H' b := by
  refine ⟨hn, Nat.ne_of_gt (Nat.lt_of_lt_of_le I.lt hb), I.nofs hb, .inr (Nat.le_trans I.sz hb), fun x c e z => ?_, fun p hp z => ?_⟩
  · obtain ⟨v, q⟩ := I.cell x c e
    exact absurd (Nat.lt_of_lt_of_le q.lt (by rw [z]; exact hb)) (Nat.lt_irrefl _)
  · exact absurd (Nat.lt_of_lt_of_le (Heap.lt_size (I.pin p hp).1) (by rw [z]; exact hb)) (Nat.lt_irrefl _)
structure Turn (P : Program) (w : World) (K : PySem.W.Frag) (tg : Expr) (J : It) (fp : List Addr) (it : Addr) (tn : Nat → Heap → Prop) : Prop where
  mem : it ∈ fp
  obj : ∀ i h, tn i h → ∀ b ∈ fp, ∃ o, h.get? b = some o ∧ ∀ v, o.data ≠ .cell v
  keep : ∀ i h h', tn i h → (∀ b ∈ fp, ∀ o, h.get? b = some o → h'.get? b = some o) → tn i h'
  item : ∀ (X : Cx), X.prog = P → X.w = w → X.K = K → X.calm = true → ∀ (i : Nat) (pins : List (Addr × Obj)) (s : Shared) (σ : St) (H : Hp) (E : Value → Shared → Prop), Inv X pins σ H s → (∀ b ∈ fp, FpOk X pins H b) → tn i s.heap → J.go i H →
    wpAny (model P w) X.A (pyNext (.ref it)) (fun r s1 => ∃ u, r = some u ∧
      wpAny (model P w) X.A (letOwnedTupleGo tg (.ref it) u) (fun _ s2 => ∃ x H', Inv X pins σ H' s2 ∧ RelV x u ∧ J.yld i H x H' ∧ tn (i + 1) s2.heap ∧ ∀ b ∈ fp, H' b = none) E s1) E s
  done : ∀ (X : Cx), X.prog = P → X.w = w → X.K = K → X.calm = true → ∀ (i : Nat) (pins : List (Addr × Obj)) (s : Shared) (σ : St) (H : Hp) (E : Value → Shared → Prop), Inv X pins σ H s → (∀ b ∈ fp, FpOk X pins H b) → tn i s.heap → J.stop i H →
    wpAny (model P w) X.A (pyNext (.ref it)) (fun r s1 => r = none ∧ Inv X pins σ H s1) E s
  self : ∀ (A : Around) (i : Nat) (s : Shared) (Q : Value → Shared → Prop) (E : Value → Shared → Prop), tn i s.heap → Q (.ref it) s → wpAny (model P w) A (pyIter (.ref it)) Q E s
abbrev TI := St → Hp → (It → Hp → Prop) → Prop
/-- an iterator has come -/
def PIE (X : Cx) (pins : List (Addr × Obj)) (σ : St) (tg : Expr) (R : It → Hp → Prop) (itv : Value) (s2 : Shared) : Prop :=
  ∃ (it : Addr) (fp : List Addr) (tn : Nat → Heap → Prop) (J : It) (H' : Hp), itv = .ref it ∧ Inv X pins σ H' s2 ∧ Turn X.prog X.w X.K tg J fp it tn ∧ tn 0 s2.heap ∧ (∀ b ∈ fp, FpOk X pins H' b) ∧ R J H'
def PI (X : Cx) (tg iter : Expr) (wi : TI) : Prop :=
  ∀ (pins : List (Addr × Obj)) (s : Shared) (σ : St) (H : Hp) (R : It → Hp → Prop), Inv X pins σ H s → wi σ H R →
    wpAny (model X.prog X.w) X.A (eval iter X.env) (fun v s1 => wpAny (model X.prog X.w) X.A (pyIter v) (PIE X pins σ tg R) X.xe s1) X.xe s

/-- the step ahead of the store is nothing for an iterator that keeps no tuple -/
theorem go_of {M : Model} {A : Around} {E : Value → Shared → Prop} {s : Shared} {tg : Expr} {it : Addr} {u : Value} {o : Obj} {n : String} {vs : Array Value} {Q : Unit → Shared → Prop} (ho : s.heap.get? it = some o) (hc : o.cls = .type n) (hd : o.data = .fields vs)
    (hn : ["enumerate", "zip", "dict_itemiterator", "dict_reverseitemiterator", "odict_iterator", "itertools.zip_longest", "itertools.pairwise"].contains n = false) (hQ : Q () s) : wpAny M A (letOwnedTupleGo tg (.ref it) u) Q E s := by
  unfold letOwnedTupleGo
  cases tg <;> first
    | exact wpAny_pure hQ
    | (cases u <;> first
        | exact wpAny_pure hQ
        | (refine wpAny_bind (wpAny_load ho ?_)
           rw [hc, hd]
           show wpAny M A (if (["enumerate", "zip", "dict_itemiterator", "dict_reverseitemiterator", "odict_iterator", "itertools.zip_longest", "itertools.pairwise"].contains n && vs[0]? == some (rawInt _)) = true then _ else _) Q E s
           rw [if_neg (by intro h; rw [hn, Bool.false_and] at h; cases h)]
           exact wpAny_pure hQ))

/-- the list at a, as it stands at each turn (a loop may append to it) -/
def Itl (K : PySem.W.Frag) (a : Addr) : It :=
  ⟨fun i H => ∃ xs x, SqL K H a xs ∧ xs[i]? = some x, fun i H x H' => H' = H ∧ ∀ xs, SqL K H a xs → xs[i]? = some x, fun i H => ∃ xs, SqL K H a xs ∧ xs.length ≤ i⟩
def Itt (K : PySem.W.Frag) (a : Addr) : It :=
  ⟨fun i H => ∃ xs x, SqT K H a xs ∧ xs[i]? = some x, fun i H x H' => H' = H ∧ ∀ xs, SqT K H a xs → xs[i]? = some x, fun i H => ∃ xs, SqT K H a xs ∧ xs.length ≤ i⟩
/-- lo, lo + 1, .. (n of them) -/
def Itr (lo : Int) (n : Nat) : It := ⟨fun i _ => i < n, fun i H x H' => H' = H ∧ x = .int (lo + i), fun i _ => n ≤ i⟩
theorem turn_list {P : Program} {w : World} {K : PySem.W.Frag} {tg : Expr} (a it : Addr) : Turn P w K tg (Itl K a) [it] it (fun i h => h.IsListIter it a i) where
  mem := by simp
  obj := fun i h st b hb => by
    have e : b = it := by simpa using hb
    subst e
    obtain ⟨o, e, c, d⟩ := st
    exact ⟨o, e, fun v z => by rw [d] at z; cases z⟩
  keep := fun i h h' st k => st.at fun o e => k it (by simp) o e
  item := by
    intro X hP hw hK hc i pins s σ H E I hf st hg
    subst hP hw hK
    obtain ⟨xs, x, hq, hx⟩ := hg
    obtain ⟨its, rv, p, hz⟩ := I.list hq
    obtain ⟨u, hu, ru⟩ := rv.get hx
    obtain ⟨f0, f1, f2, f3, f4, f5⟩ := hf it (by simp)
    refine wpAny_pyNext_list_item st p.isList (x := u) (by simpa using hu) fun h' st' sb => ?_
    have I1 : Inv X pins σ H { s with heap := h' } := I.turned (t' := s.toks) (fun b o hb e => (sb.2 b hb).trans e) f0 f1 f3 f4 f5
    obtain ⟨o, e, c, d⟩ := id st'
    exact ⟨u, rfl, go_of (s := { s with heap := h' }) e c d (by decide) ⟨x, H, I1, ru, ⟨rfl, fun ys hy => by rw [I.list_inj hy hq]; exact hx⟩, st', fun b hb => (hf b hb).1⟩⟩
  done := by
    intro X hP hw hK hc i pins s σ H E I hf st hg
    subst hP hw hK
    obtain ⟨xs, hq, hx⟩ := hg
    obtain ⟨its, rv, p, hz⟩ := I.list hq
    obtain ⟨f0, f1, f2, f3, f4, f5⟩ := hf it (by simp)
    have hl := rv.length
    exact wpAny_pyNext_list_end (I.ok.hd hc) st p.isList (by simp; omega) fun h' eb => ⟨rfl, I.turned (t' := s.toks) (fun b o hb e => eb b o hb e) f0 f1 f3 f4 f5⟩
  self := fun _ _ _ _ _ st h => wpAny_pyIter_listiter st h
theorem turn_range {P : Program} {w : World} {K : PySem.W.Frag} {tg : Expr} (it : Addr) (lo : Int) (n : Nat) : Turn P w K tg (Itr lo n) [it] it (fun i h => IsRangeIter h it (lo + (i : Nat) * 1) ((n : Int) - (i : Nat)) 1) where
  mem := by simp
  obj := fun i h st b hb => by
    have e : b = it := by simpa using hb
    subst e
    exact ⟨_, st, fun v z => by
      have z' : Data.fields _ = Data.cell v := z
      cases z'⟩
  keep := fun i h h' st k => k it (by simp) _ st
  item := by
    intro X hP hw hK hc i pins s σ H E I hf st hg
    subst hP hw hK
    obtain ⟨f0, f1, f2, f3, f4, f5⟩ := hf it (by simp)
    have W := Walks.range (prog := X.prog) (w := X.w) (I.ok.hd hc) it lo 1 n
    refine W.item i s _ _ hg st fun v h' tk hv st' kk => ?_
    obtain ⟨t, rfl⟩ := hv
    have I1 : Inv X pins σ H { s with heap := h', toks := tk } := I.turned (fun b o hb e => kk b o (by simpa using hb) e) f0 f1 f3 f4 f5
    refine ⟨_, rfl, go_of (s := { s with heap := h', toks := tk }) (n := "range_iterator") st' rfl rfl (by decide) ⟨.int (lo + i), H, I1, ⟨t, ?_⟩, ⟨rfl, rfl⟩, st', fun b hb => (hf b hb).1⟩⟩
    rw [Int.mul_one]
  done := by
    intro X hP hw hK hc i pins s σ H E I hf st hg
    subst hP hw hK
    obtain ⟨f0, f1, f2, f3, f4, f5⟩ := hf it (by simp)
    exact wpAny_pyNext_range_end (I.ok.hd hc) st (by have : n ≤ i := hg; omega) fun h' eb => ⟨rfl, I.turned (t' := s.toks) (fun b o hb e => eb b o hb e) f0 f1 f3 f4 f5⟩
  self := fun _ _ _ _ _ st h => wpAny_pyIter_rangeiter st h
end L2

namespace L2
open PySem PySem.Spec PyProof.Rows
section
variable {X : Cx} {tg : Expr}
def iList (K : PySem.W.Frag) (tl : TE) : TI := fun σ H R => tl σ H fun x H1 => ∃ a, x = .ref a ∧ (∃ xs, SqL K H1 a xs) ∧ R (Itl K a) H1
def iTup (K : PySem.W.Frag) (tl : TE) : TI := fun σ H R => tl σ H fun x H1 => ∃ a, x = .ref a ∧ (∃ xs, SqT K H1 a xs) ∧ R (Itt K a) H1
theorem pi_list {l : Expr} {tl : TE} (hl : PE X l tl) : PI X tg l (iList X.K tl) := by
  intro pins s σ H R I h
  refine thn (hl pins s σ H _ I h) fun v s1 ⟨x, H1, I1, r1, q1⟩ => ?_
  obtain ⟨a, e, ⟨xs, hq⟩, q⟩ := q1
  subst e
  cases r1
  obtain ⟨its, rv, p, hz⟩ := I1.list hq
  refine wpAny_pyIter_list p.isList ?_
  refine ⟨s1.heap.objs.size, [s1.heap.objs.size], _, _, H1, rfl, I1.kept (t' := s1.toks) fun b o e => Heap.get?_push_of_some _ e, turn_list a _, ⟨_, Heap.get?_push_size _ rfl, rfl, rfl⟩, fun b hb => ?_, q⟩
  have e : b = s1.heap.objs.size := by simpa using hb
  subst e
  exact I1.fpOk (Nat.le_refl _) (I1.hok.fresh (Nat.le_refl _))
/-- a range object just made, walked -/
theorem range_it {pins : List (Addr × Obj)} {σ : St} {H : Hp} {s : Shared} {R : It → Hp → Prop} {E : Value → Shared → Prop} {lo hi : Int} {t u v : Tok} {tk : Nat} (I : Inv X pins σ H s) (h1 : -(2 ^ 62) ≤ lo) (h2 : lo < 2 ^ 62) (h3 : -(2 ^ 62) ≤ hi) (h4 : hi < 2 ^ 62)
    (q : R (Itr lo (hi - lo).toNat) H) : wpAny (model X.prog X.w) X.A (pyIter (.ref s.heap.objs.size)) (PIE X pins σ tg R) E { s with heap := s.heap.push { cls := .type "range", data := .fields #[.int lo t, .int hi u, .int 1 v] }, toks := tk } := by
  refine wpAny_pyIter_range (IsRange.new ..) (small_one h1 h2 h3 h4) ?_
  have I1 : Inv X pins σ H { s with heap := s.heap.push { cls := .type "range", data := .fields #[.int lo t, .int hi u, .int 1 v] }, toks := tk } := I.kept fun b o e => Heap.get?_push_of_some _ e
  refine ⟨(s.heap.push { cls := .type "range", data := .fields #[.int lo t, .int hi u, .int 1 v] }).objs.size, [(s.heap.push { cls := .type "range", data := .fields #[.int lo t, .int hi u, .int 1 v] }).objs.size], _, _, H, rfl,
    I1.kept (t' := tk) fun b o e => Heap.get?_push_of_some _ e, turn_range _ lo (hi - lo).toNat, ?_, fun b hb => ?_, q⟩
  · have e1 : lo + ((0 : Nat) : Int) * 1 = lo := by simp
    have e2 : (((hi - lo).toNat : Nat) : Int) - ((0 : Nat) : Int) = Builtin.Range.rangeSize lo hi 1 := by rw [rangeSize_one]; split <;> omega
    show IsRangeIter _ _ (lo + ((0 : Nat) : Int) * 1) ((((hi - lo).toNat : Nat) : Int) - ((0 : Nat) : Int)) 1
    rw [e1, e2]
    exact Heap.get?_push_size _ rfl
  · have e : b = (s.heap.push { cls := .type "range", data := .fields #[.int lo t, .int hi u, .int 1 v] }).objs.size := by simpa using hb
    subst e
    exact I1.fpOk (Nat.le_refl _) (I1.hok.fresh (Nat.le_refl _))
def iRng1 (ta : TA) : TI := fun σ H R => ta σ H fun vs H1 => ∃ j : Int, vs = [.int j] ∧ -(2 ^ 62) ≤ j ∧ j < 2 ^ 62 ∧ R (Itr 0 j.toNat) H1
def iRng2 (ta : TA) : TI := fun σ H R => ta σ H fun vs H1 => ∃ i j : Int, vs = [.int i, .int j] ∧ (-(2 ^ 62) ≤ i ∧ i < 2 ^ 62 ∧ -(2 ^ 62) ≤ j ∧ j < 2 ^ 62) ∧ R (Itr i (j - i).toNat) H1
theorem pi_range1 {a : Expr} {ta : TA} {p pos : Pos} (hg : Gl X "range") (hm : X.mg "range" = none) (ha : PA X [a] ta) (hs : starEach [a] X.env = [(false, eval a X.env)] := by rfl) : PI X tg (.Call (.Name "range" p) [a] [] pos) (iRng1 ta) := by
  intro pins s σ H R I h
  refine Call_ (ld_blt I hg hm boot_range (PyProof.Rows.callWith_type1 (thn (ha pos pins s σ H _ I h) fun us s1 ⟨vs, H1, I1, r1, q1⟩ => ?_) hs rfl))
  obtain ⟨j, e, q1, q2, q⟩ := q1
  subst e
  cases r1 with
  | cons r rr =>
    cases rr
    obtain ⟨t, rfl⟩ := r
    exact call_range_1 (range_it I1 (by omega) (by omega) q1 q2 (by simpa using q))
/-! ### for -/
/-- W: the invariant by the turn and a measure; N: what the body is to reach -/
def tFor (wi : TI) (g : TG) (tb : TS) : TS := fun D σ H => wi σ H fun J H1 => ∃ W : Nat → Nat → St → Hp → Prop, (∃ m, W 0 m σ H1) ∧ ∀ i m σ H, W i m σ H →
  (J.stop i H ∧ D.nx σ H) ∨ (J.go i H ∧ ∃ N : St → Hp → Prop, (∀ σ' H', N σ' H' → ∃ m', m' < m ∧ W (i + 1) m' σ' H') ∧ ∀ x H', J.yld i H x H' → g x σ H' fun σ2 H2 => tb { D with nx := N, ct := N, bk := D.nx } σ2 H2)
/-- the records at fp as they stand -/
def pinsAt (fp : List Addr) (h : Heap) : List (Addr × Obj) := fp.filterMap fun b => (h.get? b).map fun o => (b, o)
theorem mem_pinsAt {fp : List Addr} {h : Heap} {b : Addr} {o : Obj} (hb : b ∈ fp) (e : h.get? b = some o) : (b, o) ∈ pinsAt fp h := List.mem_filterMap.mpr ⟨b, hb, by rw [e]; rfl⟩
theorem of_pinsAt {fp : List Addr} {h : Heap} {p : Addr × Obj} (hp : p ∈ pinsAt fp h) : p.1 ∈ fp ∧ h.get? p.1 = some p.2 := by
  obtain ⟨b, hb, e⟩ := List.mem_filterMap.mp hp
  cases q : h.get? b with
  | none => rw [q] at e; cases e
  | some o =>
    rw [q] at e
    have e' : (b, o) = p := Option.some.inj e
    subst e'
    exact ⟨hb, q⟩
theorem Inv.pinned {pins : List (Addr × Obj)} {σ : St} {H : Hp} {s : Shared} {fp : List Addr} (I : Inv X pins σ H s) (hf : ∀ b ∈ fp, FpOk X pins H b) (ho : ∀ b ∈ fp, ∃ o, s.heap.get? b = some o ∧ ∀ v, o.data ≠ .cell v) : Inv X (pins ++ pinsAt fp s.heap) σ H s :=
  I.pins_of fun p hp => (List.mem_append.mp hp).elim (fun z => I.pin p (List.mem_append_right _ z)) fun z => by
    obtain ⟨hb, e⟩ := of_pinsAt z
    obtain ⟨f0, f1, f2, _⟩ := hf p.1 hb
    obtain ⟨o, e', d⟩ := ho p.1 hb
    rw [e] at e'; cases e'
    exact ⟨e, f0, f1, f2, d⟩
theorem Inv.unpinned {pins pl : List (Addr × Obj)} {σ : St} {H : Hp} {s : Shared} (I : Inv X (pins ++ pl) σ H s) : Inv X pins σ H s := I.pins_of fun p hp => I.pin p (List.mem_append_right _ (List.mem_append_left _ hp))
theorem ps_for {iter : Expr} {body : List Stmt} {wi : TI} {g : TG} {tb : TS} {pos : Pos} (hp : PassesOwn (model X.prog X.w) X.A X.env X.xe) (hc : X.calm = true) (hi : PI X tg iter wi) (hg : PG X tg g) (hb : PSs X body tb)
    (hs : ∀ x, foldedSetIterable iter X.env x = pure x := by intro _; rfl) : PS X (.For tg iter body [] pos) (tFor wi g tb) := by
  intro pins s σ H D I h
  refine wpAny_For (thn (hi pins s σ H _ I h) fun v s1 h1 => thn h1 fun itv s2 h2 => ?_) hs
  obtain ⟨it, fp, tn, J, H2, e, I2, T, st2, f2, W, ⟨m0, w0⟩, turn⟩ := h2
  subst e
  -- what stays true of the iterator's objects through the loop
  have stat : ∀ {H' : Hp}, (∀ b ∈ fp, H' b = none) → ∀ b ∈ fp, FpOk X pins H' b := fun hn b hb => ⟨hn b hb, (f2 b hb).2⟩
  refine codeAny_forLoop_any (fun n s' => ∃ i σ' H', Inv X pins σ' H' s' ∧ tn i s'.heap ∧ (∀ b ∈ fp, H' b = none) ∧ W i n σ' H') ?_ m0 ⟨0, σ, H2, I2, st2, fun b hb => (f2 b hb).1, w0⟩
  rintro n s3 ⟨i, σ3, H3, I3, st3, fr3, w3⟩
  rcases turn i n σ3 H3 w3 with ⟨stop, qn⟩ | ⟨go, N, hN, step⟩
  · refine wpAny_passesOwn hp (thn (T.done X rfl rfl rfl hc i pins s3 σ3 H3 X.xe I3 (stat fr3) st3 stop) fun r s4 ⟨hr, I4⟩ => ?_)
    subst hr
    exact wpAny_execs_nil ⟨σ3, H3, I4, qn⟩
  · refine wpAny_passesOwn hp (thn (T.item X rfl rfl rfl hc i pins s3 σ3 H3 X.xe I3 (stat fr3) st3 go) fun r s4 ⟨u, hr, h4⟩ => ?_)
    subst hr
    refine wpAny_passesOwn hp (thn h4 fun _ s5 ⟨x, H5, I5, r5, y5, st5, fr5⟩ => ?_)
    have I5' := I5.pinned (stat fr5) (T.obj _ _ st5)
    refine wpAny_passesOwn hp (thn (hg _ s5 σ3 H5 x u _ I5' r5 (step x H5 y5)) fun _ s6 ⟨σ6, H6, I6, q6⟩ => ?_)
    refine wpAny_passesOwn hp (thn (hb _ s6 σ6 H6 _ I6 q6) fun f s7 q7 => ?_)
    have again : ∀ {σ7 : St} {H7 : Hp}, Inv X (pins ++ pinsAt fp s5.heap) σ7 H7 s7 → N σ7 H7 → ∃ m, m < n ∧ ∃ i σ' H', Inv X pins σ' H' s7 ∧ tn i s7.heap ∧ (∀ b ∈ fp, H' b = none) ∧ W i m σ' H' := fun {σ7 H7} I7 n7 => by
      obtain ⟨m', hm, w7⟩ := hN σ7 H7 n7
      refine ⟨m', hm, i + 1, σ7, H7, I7.unpinned, T.keep _ _ _ st5 fun b hb o e => (I7.pin (b, o) (List.mem_append_right _ (List.mem_append_right _ (mem_pinsAt hb e)))).1, fun b hb => ?_, w7⟩
      obtain ⟨o, e, d⟩ := T.obj _ _ st5 b hb
      exact (I7.pin (b, o) (List.mem_append_right _ (List.mem_append_right _ (mem_pinsAt hb e)))).2.1
    cases f with
    | next => obtain ⟨σ7, H7, I7, n7⟩ := q7; exact again I7 n7
    | cont => obtain ⟨σ7, H7, I7, n7⟩ := q7; exact again I7 n7
    | brk => obtain ⟨σ7, H7, I7, q7⟩ := q7; exact ⟨σ7, H7, I7.unpinned, q7⟩
    | ret v => obtain ⟨x7, σ7, H7, I7, r7, q7⟩ := q7; exact ⟨x7, σ7, H7, I7.unpinned, r7, q7⟩
end

/-! ### the forms one uses -/
/-- over a list that the body leaves as it is -/
theorem for_list {K : PySem.W.Frag} {a : Addr} {xs : List V} {g : TG} {tb : TS} {D : Ends} {σ : St} {H : Hp} (Pv : Nat → St → Hp → Prop) (h0 : Pv 0 σ H) (hl : ∀ i σ H, i ≤ xs.length → Pv i σ H → SqL K H a xs)
    (hs : ∀ i x σ H, xs[i]? = some x → Pv i σ H → g x σ H fun σ2 H2 => tb { D with nx := Pv (i + 1), ct := Pv (i + 1), bk := D.nx } σ2 H2) (hd : ∀ σ H, Pv xs.length σ H → D.nx σ H) :
    ∃ W : Nat → Nat → St → Hp → Prop, (∃ m, W 0 m σ H) ∧ ∀ i m σ H, W i m σ H →
      ((Itl K a).stop i H ∧ D.nx σ H) ∨ ((Itl K a).go i H ∧ ∃ N : St → Hp → Prop, (∀ σ' H', N σ' H' → ∃ m', m' < m ∧ W (i + 1) m' σ' H') ∧ ∀ x H', (Itl K a).yld i H x H' → g x σ H' fun σ2 H2 => tb { D with nx := N, ct := N, bk := D.nx } σ2 H2) := by
  refine ⟨fun i m σ H => m = xs.length - i ∧ i ≤ xs.length ∧ Pv i σ H, ⟨xs.length, by simp, Nat.zero_le _, h0⟩, ?_⟩
  rintro i m σ H ⟨rfl, hi, p⟩
  have q := hl i σ H hi p
  by_cases hlt : i < xs.length
  · refine .inr ⟨⟨xs, xs[i], q, by simp [hlt]⟩, Pv (i + 1), fun σ' H' p' => ⟨xs.length - (i + 1), by omega, rfl, hlt, p'⟩, fun x H' y => ?_⟩
    obtain ⟨e, y⟩ := y
    subst e
    exact hs i x σ _ (y xs q) p
  · have e : i = xs.length := by omega
    subst e
    exact .inl ⟨⟨xs, q, Nat.le_refl _⟩, hd σ H p⟩
end L2

namespace L2
open PySem PySem.Spec PyProof.Rows

abbrev R2 := V → V → Hp → VK → Prop
/-- a two-place operation on values: f is binaryOp op, inplaceOp op or compareOp op -/
def OpR (X : Cx) (f : Value → Value → Sem Value) (r : R2) : Prop :=
  ∀ (pins : List (Addr × Obj)) (s : Shared) (σ : St) (H : Hp) (x y : V) (v u : Value) (Q : VK), Inv X pins σ H s → RelV x v → RelV y u → r x y H Q →
    wpAny (model X.prog X.w) X.A (f v u) (EP X pins σ Q) X.xe s
/-- a one-place operation -/
def UnR (X : Cx) (f : Value → Sem Value) (r : V → Hp → VK → Prop) : Prop :=
  ∀ (pins : List (Addr × Obj)) (s : Shared) (σ : St) (H : Hp) (x : V) (v : Value) (Q : VK), Inv X pins σ H s → RelV x v → r x H Q →
    wpAny (model X.prog X.w) X.A (f v) (EP X pins σ Q) X.xe s
/-- a call of a value that is known (a builtin, a type) with values -/
def CallR (X : Cx) (f : Value) (r : List V → Hp → VK → Prop) : Prop :=
  ∀ (pins : List (Addr × Obj)) (s : Shared) (σ : St) (H : Hp) (xs : List V) (us : List Value) (Q : VK), Inv X pins σ H s → Vals xs us → r xs H Q →
    wpAny (model X.prog X.w) X.A (call f us) (EP X pins σ Q) X.xe s
/-- a value's truth -/
def TruR (X : Cx) (r : V → Hp → (Bool → Hp → Prop) → Prop) : Prop :=
  ∀ (pins : List (Addr × Obj)) (s : Shared) (σ : St) (H : Hp) (x : V) (v : Value) (Q : Bool → Hp → Prop), Inv X pins σ H s → RelV x v → r x H Q →
    wpAny (model X.prog X.w) X.A (truthy v) (TP X pins σ Q) X.xe s

def tOp (r : R2) (ta tb : TE) : TE := fun σ H Q => ta σ H fun x H1 => tb σ H1 fun y H2 => r x y H2 Q
def tUn (r : V → Hp → VK → Prop) (ta : TE) : TE := fun σ H Q => ta σ H fun x H1 => r x H1 Q
/-- ints in, under C, and a value out -/
def rI (C : Int → Int → Prop) (g : Int → Int → V) : R2 := fun x y H Q => ∃ i j, x = .int i ∧ y = .int j ∧ C i j ∧ Q (g i j) H
def rI0 (g : Int → Int → V) : R2 := fun x y H Q => ∃ i j, x = .int i ∧ y = .int j ∧ Q (g i j) H
def rU (g : Int → V) : V → Hp → VK → Prop := fun x H Q => ∃ i, x = .int i ∧ Q (g i) H

section
variable {X : Cx} {a b c : Expr} {ta tb tc : TE} {pos : Pos}

theorem binT (ha : PE X a ta) (hb : PE X b tb) {pins : List (Addr × Obj)} {s : Shared} {σ : St} {H : Hp} {R : V → V → Hp → Prop} (I : Inv X pins σ H s)
    (h : ta σ H fun x H1 => tb σ H1 fun y H2 => R x y H2) {Q : Value → Shared → Prop} {f : Value → Value → Sem Value}
    (hf : ∀ v u s2 x y H2, Inv X pins σ H2 s2 → RelV x v → RelV y u → R x y H2 → wpAny (model X.prog X.w) X.A (f v u) Q X.xe s2) :
    wpAny (model X.prog X.w) X.A (eval a X.env) (fun v s₁ => wpAny (model X.prog X.w) X.A (eval b X.env) (fun u s₂ => wpAny (model X.prog X.w) X.A (f v u) Q X.xe s₂) X.xe s₁) X.xe s := by
  refine thn (ha pins s σ H _ I h) fun v s1 ⟨x, H1, I1, r1, q1⟩ => ?_
  refine thn (hb pins s1 σ H1 _ I1 q1) fun u s2 ⟨y, H2, I2, r2, q2⟩ => ?_
  exact hf v u s2 x y H2 I2 r1 r2 q2

theorem pe_op {op : Operator} {r : R2} (ho : OpR X (binaryOp op) r) (ha : PE X a ta) (hb : PE X b tb) : PE X (.BinOp a op b pos) (tOp r ta tb) := by
  intro pins s σ H Q I h
  exact wpAny_BinOp (binT ha hb I h fun v u s2 x y H2 I2 rx ry q => ho pins s2 σ H2 x y v u Q I2 rx ry q)
/-! ### ints -/
theorem opI {f : Value → Value → Sem Value} {C : Int → Int → Prop} {g : Int → Int → Int}
    (rule : ∀ (i j : Int) (t u : Tok) (s : Shared) (Q : Value → Shared → Prop) (E : Value → Shared → Prop), C i j → Q (.int (g i j) s.toks) { s with toks := s.toks + 1 } → wpAny (model X.prog X.w) X.A (f (.int i t) (.int j u)) Q E s) :
    OpR X f (rI C fun i j => .int (g i j)) := by
  intro pins s σ H x y v u Q I rx ry h
  obtain ⟨i, j, rfl, rfl, hc, q⟩ := h
  obtain ⟨t, rfl⟩ := rx
  obtain ⟨t', rfl⟩ := ry
  exact rule i j t t' s _ _ hc ⟨.int (g i j), H, I.tok _, ⟨_, rfl⟩, q⟩
theorem opI0 {f : Value → Value → Sem Value} {g : Int → Int → Int}
    (rule : ∀ (i j : Int) (t u : Tok) (s : Shared) (Q : Value → Shared → Prop) (E : Value → Shared → Prop), Q (.int (g i j) s.toks) { s with toks := s.toks + 1 } → wpAny (model X.prog X.w) X.A (f (.int i t) (.int j u)) Q E s) :
    OpR X f (rI0 fun i j => .int (g i j)) := by
  intro pins s σ H x y v u Q I rx ry h
  obtain ⟨i, j, rfl, rfl, q⟩ := h
  obtain ⟨t, rfl⟩ := rx
  obtain ⟨t', rfl⟩ := ry
  exact rule i j t t' s _ _ ⟨.int (g i j), H, I.tok _, ⟨_, rfl⟩, q⟩
theorem opB0 {f : Value → Value → Sem Value} {g : Int → Int → Bool}
    (rule : ∀ (i j : Int) (t u : Tok) (s : Shared) (Q : Value → Shared → Prop) (E : Value → Shared → Prop), Q (.bool (g i j)) s → wpAny (model X.prog X.w) X.A (f (.int i t) (.int j u)) Q E s) :
    OpR X f (rI0 fun i j => .bl (g i j)) := by
  intro pins s σ H x y v u Q I rx ry h
  obtain ⟨i, j, rfl, rfl, q⟩ := h
  obtain ⟨t, rfl⟩ := rx
  obtain ⟨t', rfl⟩ := ry
  exact rule i j t t' s _ _ ⟨.bl (g i j), H, I, rfl, q⟩

def CDiv (i j : Int) : Prop := 0 < j ∧ j < 1073741824
def CDivN (i j : Int) : Prop := j ≠ 0 ∧ j.natAbs < 1073741824
def CPow (i j : Int) : Prop := 0 ≤ j ∧ j ≤ 1000000 ∧ i.natAbs < 2 ^ 64
def CMul (i j : Int) : Prop := (-(2 ^ 64) < i ∧ i < 2 ^ 64) ∨ (-(2 ^ 64) < j ∧ j < 2 ^ 64)
theorem op_add : OpR X (binaryOp .Add) (rI0 fun i j => .int (i + j)) := opI0 fun _ _ _ _ _ _ _ q => add_int q
theorem op_sub : OpR X (binaryOp .Sub) (rI0 fun i j => .int (i - j)) := opI0 fun _ _ _ _ _ _ _ q => sub_int q
/-- // by a positive divisor -/
theorem op_fdiv : OpR X (binaryOp .FloorDiv) (rI CDiv fun i j => .int (i / j)) := opI fun i j _ _ _ _ _ hc q => by
  have h1 : (0 : Int) < j := hc.1
  have h2 : j < 1073741824 := hc.2
  exact floordiv_int (by omega) (by rw [Int.fdiv_eq_ediv_of_nonneg i (by omega)]; exact q) (.inl (PyProof.noPylong_small (by omega)))
/-- % by a positive divisor of any size -/
theorem op_mod : OpR X (binaryOp .Mod) (rI (fun _ j => 0 < j) fun i j => .int (i % j)) := opI fun i j _ _ _ _ _ hc q => by
  have h1 : (0 : Int) < j := hc
  exact mod_int' (by omega) (by rw [Int.fmod_eq_emod_of_nonneg i (by omega)]; exact q)
/-! ### bools among ints: n += (a < b) -/
end

/-! ### comparisons -/
/-- the scalars that == tells apart as data does -/
def scal : V → V → Bool
  | .non, .non => true | .non, .int _ => true | .int _, .non => true | .non, .bl _ => true | .bl _, .non => true | .non, .str _ => true | .str _, .non => true
  | .int _, .int _ => true | .bl _, .bl _ => true | .str _, .str _ => true | .byt _, .byt _ => true
  | .int _, .str _ => true | .str _, .int _ => true | .bl _, .str _ => true | .str _, .bl _ => true
  | _, _ => false
def rEq : R2 := fun x y H Q => scal x y = true ∧ Q (.bl (decide (x = y))) H
def rNe : R2 := fun x y H Q => scal x y = true ∧ Q (.bl (!decide (x = y))) H

theorem dec_int {i j : Int} : decide (V.int i = V.int j) = (i == j) := by
  rw [Bool.eq_iff_iff]
  simp
theorem dec_bl {i j : Bool} : decide (V.bl i = V.bl j) = (i == j) := by
  rw [Bool.eq_iff_iff]
  simp
theorem dec_str {i j : Str} : decide (V.str i = V.str j) = (i == j) := by
  rw [Bool.eq_iff_iff]
  simp
theorem dec_byt {i j : Array UInt8} : decide (V.byt i = V.byt j) = (i.toList == j.toList) := by
  rw [Bool.eq_iff_iff]
  cases i
  cases j
  simp

section
variable {X : Cx} {a b c : Expr} {ta tb tc : TE} {pos : Pos}
theorem fin_bl {pins : List (Addr × Obj)} {σ : St} {H : Hp} {s : Shared} {Q : VK} {k k' : Bool} (I : Inv X pins σ H s) (q : Q (.bl k) H) (e : k = k') : EP X pins σ Q (.bool k') s := by
  subst e
  exact ⟨.bl k, H, I, rfl, q⟩
theorem op_eq : OpR X (compareOp .Eq) rEq := by
  intro pins s σ H x y v u Q I rx ry h
  obtain ⟨hs, q⟩ := h
  cases x with
  | non =>
    cases rx
    cases y with
    | non => cases ry; exact PySem.EqNone.eq_none_none (fin_bl I q (by simp))
    | bl j => cases ry; exact PySem.EqNone.eq_none_bool (fin_bl I q (by simp))
    | int j => obtain ⟨t', rfl⟩ := ry; exact PySem.EqNone.eq_none_int (fin_bl I q (by simp))
    | str j => obtain ⟨t', rfl⟩ := ry; exact PySem.EqNone.eq_none_str (fin_bl I q (by simp))
    | _ => exact absurd (show false = true from hs) Bool.false_ne_true
  | bl i =>
    cases rx
    cases y with
    | non => cases ry; exact PySem.EqNone.eq_bool_none (fin_bl I q (by simp))
    | bl j => cases ry; exact eq_bool (fin_bl I q dec_bl)
    | str j => obtain ⟨t', rfl⟩ := ry; exact PySem.EqMixed.eq_bool_str (fin_bl I q (by simp))
    | _ => exact absurd (show false = true from hs) Bool.false_ne_true
  | int i =>
    obtain ⟨t, rfl⟩ := rx
    cases y with
    | non => cases ry; exact PySem.EqNone.eq_int_none (fin_bl I q (by simp))
    | int j => obtain ⟨t', rfl⟩ := ry; exact eq_int (fin_bl I q dec_int)
    | str j => obtain ⟨t', rfl⟩ := ry; exact PySem.EqMixed.eq_int_str (fin_bl I q (by simp))
    | _ => exact absurd (show false = true from hs) Bool.false_ne_true
  | str i =>
    obtain ⟨t, rfl⟩ := rx
    cases y with
    | non => cases ry; exact PySem.EqNone.eq_str_none (fin_bl I q (by simp))
    | bl j => cases ry; exact PySem.EqMixed.eq_str_bool (fin_bl I q (by simp))
    | int j => obtain ⟨t', rfl⟩ := ry; exact PySem.EqMixed.eq_str_int (fin_bl I q (by simp))
    | str j => obtain ⟨t', rfl⟩ := ry; exact eq_str (fin_bl I q dec_str)
    | _ => exact absurd (show false = true from hs) Bool.false_ne_true
  | byt i =>
    obtain ⟨t, rfl⟩ := rx
    cases y with
    | byt j => obtain ⟨t', rfl⟩ := ry; exact PySem.W.eq_bytes (fin_bl I q dec_byt)
    | _ => exact absurd (show false = true from hs) Bool.false_ne_true
  | _ => cases y <;> exact absurd (show false = true from hs) Bool.false_ne_true
theorem op_ne : OpR X (compareOp .NotEq) rNe := by
  intro pins s σ H x y v u Q I rx ry h
  obtain ⟨hs, q⟩ := h
  cases x with
  | non =>
    cases rx
    cases y with
    | non => cases ry; exact PySem.EqNone.ne_none_none (fin_bl I q (by simp))
    | bl j => cases ry; exact PySem.EqNone.ne_none_bool (fin_bl I q (by simp))
    | int j => obtain ⟨t', rfl⟩ := ry; exact PySem.EqNone.ne_none_int (fin_bl I q (by simp))
    | str j => obtain ⟨t', rfl⟩ := ry; exact PySem.EqNone.ne_none_str (fin_bl I q (by simp))
    | _ => exact absurd (show false = true from hs) Bool.false_ne_true
  | bl i =>
    cases rx
    cases y with
    | non => cases ry; exact PySem.EqNone.ne_bool_none (fin_bl I q (by simp))
    | bl j => cases ry; exact ne_bool (fin_bl I q (congrArg not dec_bl))
    | str j => obtain ⟨t', rfl⟩ := ry; exact PySem.EqMixed.ne_bool_str (fin_bl I q (by simp))
    | _ => exact absurd (show false = true from hs) Bool.false_ne_true
  | int i =>
    obtain ⟨t, rfl⟩ := rx
    cases y with
    | non => cases ry; exact PySem.EqNone.ne_int_none (fin_bl I q (by simp))
    | int j => obtain ⟨t', rfl⟩ := ry; exact ne_int (fin_bl I q (congrArg not dec_int))
    | str j => obtain ⟨t', rfl⟩ := ry; exact PySem.EqMixed.ne_int_str (fin_bl I q (by simp))
    | _ => exact absurd (show false = true from hs) Bool.false_ne_true
  | str i =>
    obtain ⟨t, rfl⟩ := rx
    cases y with
    | non => cases ry; exact PySem.EqNone.ne_str_none (fin_bl I q (by simp))
    | bl j => cases ry; exact PySem.EqMixed.ne_str_bool (fin_bl I q (by simp))
    | int j => obtain ⟨t', rfl⟩ := ry; exact PySem.EqMixed.ne_str_int (fin_bl I q (by simp))
    | str j => obtain ⟨t', rfl⟩ := ry; exact ne_str (fin_bl I q (congrArg not dec_str))
    | _ => exact absurd (show false = true from hs) Bool.false_ne_true
  | byt i =>
    obtain ⟨t, rfl⟩ := rx
    cases y with
    | byt j => obtain ⟨t', rfl⟩ := ry; exact PySem.W.ne_bytes (fin_bl I q (congrArg not dec_byt))
    | _ => exact absurd (show false = true from hs) Bool.false_ne_true
  | _ => cases y <;> exact absurd (show false = true from hs) Bool.false_ne_true

theorem op_lt : OpR X (compareOp .Lt) (rI0 fun i j => .bl (decide (i < j))) := opB0 fun _ _ _ _ _ _ _ q => lt_int q
theorem op_le : OpR X (compareOp .LtE) (rI0 fun i j => .bl (decide (i ≤ j))) := opB0 fun _ _ _ _ _ _ _ q => le_int q
theorem op_gt : OpR X (compareOp .Gt) (rI0 fun i j => .bl (decide (j < i))) := opB0 fun _ _ _ _ _ _ _ q => gt_int q
theorem op_ge : OpR X (compareOp .GtE) (rI0 fun i j => .bl (decide (j ≤ i))) := opB0 fun _ _ _ _ _ _ _ q => ge_int q
/-- is None, is not None: the right side a value none -/
theorem op_isN : OpR X (compareOp .Is) (fun x y H Q => y = .non ∧ Q (.bl (decide (x = .non))) H) := by
  intro pins s σ H x y v u Q I rx ry h
  obtain ⟨rfl, q⟩ := h
  cases ry
  refine is_none_gen (fin_bl I q ?_)
  cases x <;> first
    | (cases rx; rfl)
    | (obtain ⟨t, rfl⟩ := rx; rfl)
theorem op_notN : OpR X (compareOp .IsNot) (fun x y H Q => y = .non ∧ Q (.bl (!decide (x = .non))) H) := by
  intro pins s σ H x y v u Q I rx ry h
  obtain ⟨rfl, q⟩ := h
  cases ry
  refine isnot_none_gen (fin_bl I q ?_)
  cases x <;> first
    | (cases rx; rfl)
    | (obtain ⟨t, rfl⟩ := rx; rfl)

/-- is, is not of two objects that are tracked lists or instances -/
def isObj : HO → Bool
  | .lst _ => true
  | .ins _ _ _ => true
  | _ => false
theorem nomark (b : Expr) {op : CmpOp} (h : op ≠ .In := by decide) (h2 : op ≠ .NotIn := by decide) : behindInMarks op b = false := by
  have e1 : (op == CmpOp.In) = false := by cases op <;> first | rfl | exact absurd rfl h
  have e2 : (op == CmpOp.NotIn) = false := by cases op <;> first | rfl | exact absurd rfl h2
  cases b <;> simp [behindInMarks, e1, e2]
/-- a comparison as a value; hm: nomark b, or (for in, not in) by with_unfolding_all rfl -/
theorem pe_cmpR {op : CmpOp} {r : R2} (ho : OpR X (compareOp op) r) (ha : PE X a ta) (hb : PE X b tb) (hm : behindInMarks op b = false) : PE X (.Compare a [op] [b] pos) (tOp r ta tb) := by
  intro pins s σ H Q I h
  exact wpAny_Compare1 (binT ha hb I h fun v u s2 x y H2 I2 rx ry q => ho pins s2 σ H2 x y v u Q I2 rx ry q) hm
/-- a reading of a value as a test -/
def tTest (t : TE) : TT := fun σ H Q => t σ H fun x H' => ∃ k, x = .bl k ∧ Q k H'
theorem pt_cmpR {op : CmpOp} {r : R2} (ho : OpR X (compareOp op) r) (ha : PE X a ta) (hb : PE X b tb) (hm : behindInMarks op b = false) : PT X (.Compare a [op] [b] pos) (tTest (tOp r ta tb)) := by
  intro pins s σ H Q I h
  refine wpAny_isTrue_Compare1 (thn (ha pins s σ H _ I h) fun v s1 ⟨x, H1, I1, r1, q1⟩ => thn (hb pins s1 σ H1 _ I1 q1) fun u s2 ⟨y, H2, I2, r2, q2⟩ =>
    thn (ho pins s2 σ H2 x y v u _ I2 r1 r2 q2) fun c s3 ⟨z, H3, I3, r3, k, e, q3⟩ => ?_) hm
  subst e
  cases r3
  exact wpAny_truthy_bool ⟨H3, I3, q3⟩
/-- a op1 b op2 c -/
def tChain (r r' : R2) (ta tb tc : TE) : TE := fun σ H Q => ta σ H fun x H1 => tb σ H1 fun y H2 => r x y H2 fun z H3 => ∃ k, z = .bl k ∧
  (if k = true then tc σ H3 fun w' H4 => r' y w' H4 Q else Q (.bl false) H3)
/-! ### truth -/
/-- a value's truth by the abstract heap -/
def TruV (K : PySem.W.Frag) (x : V) (H : Hp) (k : Bool) : Prop :=
  match x with
  | .non => k = false
  | .bl b => k = b
  | .int i => k = (i != 0)
  | .str y => y.length ≤ sizeLine ∧ k = ((y.length : Int) != 0)
  | .byt y => y.size ≤ sizeLine ∧ k = ((y.size : Int) != 0)
  | .ref p => (∃ xs, SqL K H p xs ∧ k = !xs.isEmpty) ∨ (∃ xs, SqT K H p xs ∧ k = !xs.isEmpty) ∨ ∃ kvs, H p = some (.dK kvs) ∧ k = !kvs.isEmpty
  | _ => False
theorem line63 : (sizeLine : Nat) < 2 ^ 63 := by rw [sizeLine_eq]; decide
/-! ### strs and bytes -/
def PlainIxT (b : Expr) : Prop := ∀ o i, subscripted b false o i = operate [o, i] (getItem o i)
/-! ### scalar builtins, by CallR -/
theorem vals1 {x : V} {us : List Value} (r : Vals [x] us) : ∃ u, us = [u] ∧ RelV x u := by
  cases r with
  | cons r1 r2 => cases r2; exact ⟨_, rfl, r1⟩
theorem vals2 {x y : V} {us : List Value} (r : Vals [x, y] us) : ∃ u w', us = [u, w'] ∧ RelV x u ∧ RelV y w' := by
  cases r with
  | cons r1 r2 =>
    cases r2 with
    | cons r3 r4 => cases r4; exact ⟨_, _, rfl, r1, r3⟩
theorem call_max2 (hc : X.calm = true) : CallR X (.builtin "max") (fun xs H Q => ∃ i j, xs = [.int i, .int j] ∧ Q (.int (if j > i then j else i)) H) := by
  intro pins s σ H xs us Q I r h
  obtain ⟨i, j, rfl, q⟩ := h
  obtain ⟨u, w', rfl, ⟨t, rfl⟩, ⟨t', rfl⟩⟩ := vals2 r
  refine max_two_ints (I.ok.hd hc) fun h' tk k => ⟨_, H, I.kept k, ?_, q⟩
  by_cases hj : j > i
  · rw [if_pos hj, if_pos hj]; exact ⟨_, rfl⟩
  · rw [if_neg hj, if_neg hj]; exact ⟨_, rfl⟩
/-- len of a str, a bytes, a list, a tuple -/
def LenV (K : PySem.W.Frag) (x : V) (H : Hp) (n : Nat) : Prop :=
  match x with
  | .str y => y.length ≤ sizeLine ∧ n = y.length
  | .byt y => y.size ≤ sizeLine ∧ n = y.size
  | .ref p => (∃ xs, SqL K H p xs ∧ n = xs.length) ∨ ∃ xs, SqT K H p xs ∧ n = xs.length
  | _ => False
end
end L2

namespace L2
open PySem PySem.Spec PyProof.Rows

/-! ### an instance, its attributes a map -/
structure ObjM (h : Heap) (x dx C : Addr) (mA : Str → Option Value) : Prop where
  obj : h.get? x = some (PySem.W.instObj C dx)
  ns : h.Ns1 dx mA
  ne : dx ≠ x

theorem lookIn_ns {h : Heap} {dx : Addr} {mA : Str → Option Value} (n : h.Ns1 dx mA) : ∃ od, h.get? dx = some od ∧ ∀ name, PySem.W.lookIn name od = some (mA name) := by
  obtain ⟨o, es, ep, ho, hd, hk, _, hm⟩ := n
  refine ⟨o, ho, fun name => ?_⟩
  have e := hm name
  unfold nsFind findBy at e
  rw [← Array.find?_toList] at e
  unfold PySem.W.lookIn
  rw [hd]
  dsimp only
  split
  · rename_i y q
    rw [q] at e
    exact congrArg some e
  · rename_i q
    rw [q] at e
    have a : es.toList.any (·.refKey) = false := by
      rw [List.any_eq_false]
      intro y hy
      obtain ⟨z, t, hkey⟩ := hk y (Array.mem_toList_iff.mp hy)
      simp [DictEntry.refKey, hkey]
    have a' : ¬ es.toList.any (·.refKey) = true := by rw [a]; exact Bool.false_ne_true
    rw [if_neg a']
    exact congrArg some e

theorem ObjM.look {h : Heap} {x dx C : Addr} {mA : Str → Option Value} (I : ObjM h x dx C mA) : ∃ od, PySem.W.InstAt h x (PySem.W.instObj C dx) C (some od) ∧ ∀ name, PySem.W.lookIn name od = some (mA name) :=
  let ⟨od, ho, hl⟩ := lookIn_ns I.ns
  ⟨od, ⟨I.obj, rfl, rfl, ho⟩, hl⟩

section
variable {prog : Program} {w : World} {A : Around} {E : Value → Shared → Prop} {s : Shared} {K : PySem.W.Frag} {x dx C f : Addr} {mA : Str → Option Value} {name : Str} {v : Value}

theorem get_map {expr : Bool} {Q : Value → Shared → Prop} (X : K.In s.heap) (I : ObjM s.heap x dx C mA) (hg : PySem.W.plainGet K C name = true) (hh : PySem.W.hasDictIn K C = true)
    (ha : PySem.W.findIn K (.ref C) name = some none) (hv : mA name = some v) (hv' : PySem.W.handedIn v = true) (h : Q v { s with toks := s.toks + 1 }) :
    wpAny (model prog w) A (getAttr (.ref x) name expr) Q E s := by
  obtain ⟨od, J, hl⟩ := I.look
  exact PySem.W.get_value X J (PySem.W.plainGet_of hg).1 (PySem.W.findObj_own hh ha rfl (by rw [hl, hv])) hv' h

theorem get_meth {pl : Sem Bool} {Q : Value × List Value → Shared → Prop} (X : K.In s.heap) (I : ObjM s.heap x dx C mA) (hg : PySem.W.plainGet K C name = true)
    (hf : PySem.W.findIn K (.ref C) name = some (some (.ref f))) (ht : PySem.W.isFn K (.ref f) = true) (hv : mA name = none) (h : Q (.ref f, [.ref x]) s) :
    wpAny (model prog w) A (getMethod (.ref x) name pl) Q E s := by
  obtain ⟨od, J, hl⟩ := I.look
  exact PySem.W.method_fn X J (PySem.W.plainGet_of hg).1 (PySem.W.plainGet_of hg).2 hf (beq_iff_eq.mp ht) (by show (PySem.W.lookIn name od).map (·.isSome) = some false; rw [hl, hv]; rfl) h

theorem set_map {ns : List Str} {Q : Unit → Shared → Prop} (X : K.In s.heap) (I : ObjM s.heap x dx C mA)
    (hs : PySem.W.findIn K (.ref C) "__setattr__" = some (some (.builtin "object.__setattr__"))) (hp : PySem.W.plainOver K C = true) (ht : PySem.W.takerIn K C name = some none) (hh : PySem.W.hasDictIn K C = true)
    (hw : PySem.Within mA ns) (hsz : ns.length ≤ sizeLine)
    (h : ∀ h', ObjM h' x dx C (fun y => if y = name then some v else mA y) → Heap.SameBut dx s.heap h' → Q () { s with heap := h', toks := s.toks + 2 }) :
    wpAny (model prog w) A (setAttr (.ref x) name v) Q E s := by
  obtain ⟨od, J, hl⟩ := I.look
  refine PySem.W.set_plain X J hs (PySem.W.osa_open (s := { s with toks := s.toks + 1 }) (r := none) X J hp ht fun b => ?_)
  obtain ⟨cd, hc, hd'⟩ := PySem.W.any_some hh
  have hx : s.heap.get? x = some ⟨.ref C, some dx, .plain, #[]⟩ := I.obj
  refine wpAny_bind (wpAny_pure (wpAny_bind (wpAny_bind (wpAny_loadPart hx (wpAny_bind (PySem.W.Looks.here (s := { s with toks := s.toks + 1 }) (PySem.W.looks_clsIn X hc) ?_))))))
  rw [hd']
  refine wpAny_pure (a := some dx) (wpAny_bind (wpAny_pure (wpAny_bind ?_)))
  refine wpAny_nsSet1 (s := { s with toks := s.toks + 1 }) I.ns fun h' hn2 hs2 => ?_
  obtain ⟨oD, esD, epD, hoD, hdD, hcD⟩ := hn2.count (PySem.Within.cons name v hw)
  refine wpAny_bind (wpAny_lookBehind hoD (by rw [hdD]; exact pastItsLine_dict (Nat.le_trans hcD (by rw [List.length_cons]; omega))) ?_)
  exact wpAny_pure (h _ ⟨(hs2.2 _ (Ne.symm I.ne)).trans I.obj, hn2, I.ne⟩ hs2)

/-- C(..): the dict at the heap's end, the instance behind it; then its __init__ -/
theorem make_map {R : Result → Shared → Prop} {vs : List Value} {kw : List (Str × Value)} (X : K.In s.heap) (hm : PySem.W.makesIn K C = true)
    (hi : PySem.W.findIn K (.ref C) "__init__" = some (some (.ref f))) (hf : PySem.W.typeIn K (.ref f) = some (.type "function"))
    (h : codeAny (model prog w) (A.under (.builtin "type.__call__" ⟨.ref C :: vs, kw⟩)) (.call (.ref f) ⟨.ref (s.heap.objs.size + 1) :: vs, kw⟩) (PySem.W.InitBack (s.heap.objs.size + 1) R)
      { s with heap := (s.heap.push PySem.W.emptyDict).push (PySem.W.instObj C s.heap.objs.size) }) :
    codeAny (model prog w) A (.call (.ref C) ⟨vs, kw⟩) R s := by
  obtain ⟨hh, g, d, t, os⟩ := s
  exact PySem.W.make_core (PySem.W.makes_of X hm) (PySem.W.looks_findIn X hi) (fun self => PySem.W.bind_fn X self hf) (.inl rfl) h
end

/-! ### the attributes as a list of pairs -/
def putF (f : Str) (v : V) : List (Str × V) → List (Str × V)
  | [] => [(f, v)]
  | (g, x) :: r => if g = f then (g, v) :: r else (g, x) :: putF f v r
theorem lookup_putF (f g : Str) (v : V) : ∀ fs : List (Str × V), (putF f v fs).lookup g = if g = f then some v else fs.lookup g
  | [] => by
    show List.lookup g [(f, v)] = _
    by_cases h : g = f
    · have hb : (g == f) = true := beq_iff_eq.mpr h
      simp only [List.lookup, hb, if_pos h]
    · have hb : (g == f) = false := beq_eq_false_iff_ne.mpr h
      simp only [List.lookup, hb, if_neg h]
  | (k, x) :: r => by
    have ih := lookup_putF f g v r
    rw [show putF f v ((k, x) :: r) = (if k = f then (k, v) :: r else (k, x) :: putF f v r) from rfl]
    by_cases hk : k = f
    · rw [if_pos hk]
      by_cases h : g = k
      · have hb : (g == k) = true := beq_iff_eq.mpr h
        simp only [List.lookup, hb, if_pos (h.trans hk)]
      · have hb : (g == k) = false := beq_eq_false_iff_ne.mpr h
        simp only [List.lookup, hb, if_neg (fun e : g = f => h (e.trans hk.symm))]
    · rw [if_neg hk]
      by_cases h : g = k
      · have hb : (g == k) = true := beq_iff_eq.mpr h
        simp only [List.lookup, hb, if_neg (fun e : g = f => hk (h.symm.trans e))]
      · have hb : (g == k) = false := beq_eq_false_iff_ne.mpr h
        simp only [List.lookup, hb]
        exact ih
theorem keys_putF (f : Str) (v : V) : ∀ fs : List (Str × V), f ∈ (putF f v fs).map (·.1) ∧ ∀ g, g ∈ fs.map (·.1) → g ∈ (putF f v fs).map (·.1)
  | [] => ⟨by simp [putF], fun g h => by simp at h⟩
  | (k, x) :: r => by
    obtain ⟨i1, i2⟩ := keys_putF f v r
    rw [show putF f v ((k, x) :: r) = (if k = f then (k, v) :: r else (k, x) :: putF f v r) from rfl]
    by_cases hk : k = f
    · rw [if_pos hk]
      subst hk
      exact ⟨by simp, fun g h => by simpa using h⟩
    · rw [if_neg hk]
      refine ⟨?_, fun g h => ?_⟩
      · rw [List.map_cons]
        exact List.mem_cons_of_mem _ i1
      · rw [List.map_cons] at h ⊢
        rcases List.mem_cons.mp h with e | e
        · exact List.mem_cons.mpr (.inl e)
        · exact List.mem_cons_of_mem _ (i2 g e)
theorem length_putF (f : Str) (v : V) : ∀ fs : List (Str × V), (putF f v fs).length ≤ fs.length + 1
  | [] => by simp [putF]
  | (k, x) :: r => by
    have ih := length_putF f v r
    rw [show putF f v ((k, x) :: r) = (if k = f then (k, v) :: r else (k, x) :: putF f v r) from rfl]
    by_cases hk : k = f
    · rw [if_pos hk, List.length_cons, List.length_cons]; omega
    · rw [if_neg hk, List.length_cons, List.length_cons]; omega

theorem RelO.some_of {v : V} {o : Option Value} (r : RelO (some v) o) : ∃ u, o = some u ∧ RelV v u := by
  cases o with
  | none => exact (show False from r).elim
  | some u => exact ⟨u, rfl, r⟩
theorem RelO.none_of {o : Option Value} (r : RelO none o) : o = none := by
  cases o with
  | none => rfl
  | some u => exact (show False from r).elim
theorem handed_of {v : V} {u : Value} (r : RelV v u) : PySem.W.handedIn u = true := by
  cases v with
  | non => cases (show u = Value.none from r); rfl
  | bl b => cases (show u = Value.bool b from r); rfl
  | int i => obtain ⟨t, e⟩ := (show ∃ t, u = Value.int i t from r); cases e; rfl
  | str x => obtain ⟨t, e⟩ := (show ∃ t, u = Value.str x t from r); cases e; rfl
  | byt b => obtain ⟨t, e⟩ := (show ∃ t, u = Value.bytes b t from r); cases e; rfl
  | flt b => obtain ⟨t, e⟩ := (show ∃ t, u = Value.float b t from r); cases e; rfl
  | ref a => cases (show u = Value.ref a from r); rfl
  | ty n => cases (show u = Value.type n from r); rfl

section
variable {P : Program} {w : World} {H H' : Hp} {h h' : Heap} {a C dx : Addr} {fs fs' : List (Str × V)}
theorem ins_get (hok : HOk P w H h) (e : H a = some (.ins C dx fs)) : ∃ mA, ObjM h a dx C mA ∧ (∀ f, RelO (fs.lookup f) (mA f)) ∧ PySem.Within mA (fs.map (·.1)) ∧ fs.length ≤ 1000 ∧ H dx = some (.own a) := by
  obtain ⟨d, z, ne, ob, mA, n, r, q⟩ := (show ObjOk P w H h a (.ins C dx fs) from hok a _ e)
  exact ⟨mA, ⟨ob, n, ne⟩, r, q, z, d⟩
end

/-! ### what of the text a class must have -/
structure Cls (K : PySem.W.Frag) (C : Addr) : Prop where
  pg : PySem.W.plainGet K C Str.empty = true
  hd : PySem.W.hasDictIn K C = true
  po : PySem.W.plainOver K C = true
  sa : PySem.W.findIn K (.ref C) "__setattr__" = some (some (.builtin "object.__setattr__"))
theorem Cls.get {K : PySem.W.Frag} {C : Addr} (c : Cls K C) (f : Str) : PySem.W.plainGet K C f = true := c.pg
/-- no class of it has the name -/
def NoAttr (K : PySem.W.Frag) (C : Addr) (f : Str) : Prop := PySem.W.findIn K (.ref C) f = some none
theorem NoAttr.taker {K : PySem.W.Frag} {C : Addr} {f : Str} (n : NoAttr K C f) : PySem.W.takerIn K C f = some none := by
  unfold PySem.W.takerIn
  rw [show PySem.W.findIn K (.ref C) f = some none from n]
  rfl
/-- a constant of the class -/
structure Con (K : PySem.W.Frag) (C : Addr) (f : Str) (v : V) (u : Value) : Prop where
  at_ : PySem.W.findIn K (.ref C) f = some (some u)
  rel : RelV v u
  get : PySem.W.specialIn K u "__get__" = some none
  cp : PySem.W.copiedNames.contains f = false
/-- a method: a plain def of the class or of one above it -/
structure Meth (K : PySem.W.Frag) (C : Addr) (m : Str) (f : Addr) : Prop where
  at_ : PySem.W.findIn K (.ref C) m = some (some (.ref f))
  fn : PySem.W.isFn K (.ref f) = true
  kp : PySem.W.keepIn K (.ref f) = true

section
variable {X : Cx} {pins : List (Addr × Obj)} {σ : St} {H : Hp} {s : Shared} {a C dx : Addr} {fs : List (Str × V)} {f : Str} {v : V} {A : Around} {E : Value → Shared → Prop}

theorem getattr_ok {b : Bool} {Q : Value → Shared → Prop} (I : Inv X pins σ H s) (e : H a = some (.ins C dx fs)) (c : Cls X.K C) (n : NoAttr X.K C f) (l : fs.lookup f = some v)
    (h : ∀ u s', Inv X pins σ H s' → RelV v u → Q u s') : wpAny (model X.prog X.w) A (getAttr (.ref a) f b) Q E s := by
  obtain ⟨mA, O, r, _, _, _⟩ := ins_get I.hok e
  obtain ⟨u, hu, ru⟩ := RelO.some_of (v := v) (o := mA f) (by rw [← l]; exact r f)
  exact get_map I.kIn O (c.get f) c.hd n hu (handed_of ru) (h u _ (I.tok _) ru)

theorem getmeth_ok {m : Str} {g : Addr} {pl : Sem Bool} {Q : Value × List Value → Shared → Prop} (I : Inv X pins σ H s) (e : H a = some (.ins C dx fs)) (c : Cls X.K C) (k : Meth X.K C m g) (l : fs.lookup m = none)
    (h : Q (.ref g, [.ref a]) s) : wpAny (model X.prog X.w) A (getMethod (.ref a) m pl) Q E s := by
  obtain ⟨mA, O, r, _, _, _⟩ := ins_get I.hok e
  have hn : mA m = none := RelO.none_of (by rw [← l]; exact r m)
  exact get_meth I.kIn O (c.get m) k.at_ k.fn hn h

theorem setattr_ok {y : V} {u : Value} {Q : Unit → Shared → Prop} (I : Inv X pins σ H s) (e : H a = some (.ins C dx fs)) (c : Cls X.K C) (n : NoAttr X.K C f) (hl : fs.length < 1000) (ry : RelV y u)
    (h : ∀ s', Inv X pins σ (upd H a (.ins C dx (putF f y fs))) s' → Q () s') : wpAny (model X.prog X.w) A (setAttr (.ref a) f u) Q E s := by
  obtain ⟨mA, O, r, wi, _, ho⟩ := ins_get I.hok e
  have hz : (fs.map (·.1)).length ≤ sizeLine := by rw [List.length_map, sizeLine_eq]; omega
  refine set_map I.kIn O c.sa c.po n.taker c.hd wi hz fun h' O' sb => h _ ?_
  have hd : ∃ o, h'.get? dx = some o := let ⟨o, _, _, e', _⟩ := O'.ns; ⟨o, e'⟩
  refine I.write (x := a) (e := dx) (by rw [e]; exact True.intro) (.inr ho) (fun b q hb z => (sb.2 b hb).trans z) hd ?_
  refine ⟨by rw [upd_ne O.ne]; exact ho, ?_, O.ne, O'.obj, _, O'.ns, fun g => ?_, fun g hg => ?_⟩
  · have := length_putF f y fs; omega
  · show RelO ((putF f y fs).lookup g) (if g = f then some u else mA g)
    rw [lookup_putF]
    by_cases q : g = f
    · rw [if_pos q, if_pos q]; exact ry
    · rw [if_neg q, if_neg q]; exact r g
  · by_cases q : g = f
    · rw [q]; exact (keys_putF f y fs).1
    · refine (keys_putF f y fs).2 g (wi g fun z => hg ?_)
      show (if g = f then some u else mA g) = none
      rw [if_neg q]; exact z

/-- a new instance, tracked, without attributes -/
theorem Inv.made (I : Inv X pins σ H s) : Inv X pins σ (upd (upd H s.heap.objs.size (.own (s.heap.objs.size + 1))) (s.heap.objs.size + 1) (.ins C s.heap.objs.size []))
    { s with heap := (s.heap.push PySem.W.emptyDict).push (PySem.W.instObj C s.heap.objs.size) } := by
  have e1 : (s.heap.push PySem.W.emptyDict).get? s.heap.objs.size = some PySem.W.emptyDict := Heap.get?_push_size s.heap rfl
  have e2 : ((s.heap.push PySem.W.emptyDict).push (PySem.W.instObj C s.heap.objs.size)).get? (s.heap.objs.size + 1) = some (PySem.W.instObj C s.heap.objs.size) := by
    have := Heap.get?_push_size (s.heap.push PySem.W.emptyDict) (o := PySem.W.instObj C s.heap.objs.size) rfl
    rwa [Heap.size_push] at this
  have e3 : (s.heap.push PySem.W.emptyDict).Ns s.heap.objs.size (fun _ => none) := ⟨PySem.W.emptyDict, #[], _, e1, rfl, (fun e he => absurd he (by simp)), fun _ => rfl⟩
  have I1 := I.laid (a := s.heap.objs.size) (o := .own (s.heap.objs.size + 1)) (h' := s.heap.push PySem.W.emptyDict) (t' := s.toks) (fun b u q => Heap.get?_push_of_some _ q) (Nat.le_refl _) ⟨_, e1⟩
  refine I1.laid (a := s.heap.objs.size + 1) (o := .ins C s.heap.objs.size []) (t' := s.toks) (fun b u q => Heap.get?_push_of_some _ q) (Nat.le_of_eq (Heap.size_push _ _)) ?_
  have ne : s.heap.objs.size ≠ s.heap.objs.size + 1 := Nat.ne_of_lt (Nat.lt_succ_self _)
  refine ⟨by rw [upd_ne ne, upd_same], Nat.zero_le _, ne, e2, fun _ => none, (Heap.Ns1.of_empty e3).at fun o q => Heap.get?_push_of_some _ q, fun _ => True.intro, fun y hy => absurd rfl hy⟩

/-- e.f where nothing but the object is asked: through attributeBase (super) and the last hold -/
theorem attr_of {prog : Program} {w : World} {env : Env} {e : Expr} {f : Str} {pos : Pos} {s : Shared} {Q : Value → Shared → Prop} (hb : attributeBase e f env (eval e env) = eval e env)
    (h : wpAny (model prog w) A (eval e env) (fun o s₁ => wpAny (model prog w) A (getAttr o f true) Q E s₁) E s) : wpAny (model prog w) A (eval (.Attribute e f pos) env) Q E s :=
  Attribute_any_ h (by rw [arm_eval_Attribute, hb])
end

/-! ### readings and rules -/
/-- e.f, an attribute of the instance -/
def tFld (K : PySem.W.Frag) (ta : TE) (f : Str) : TE := fun σ H Q => ta σ H fun x H1 => ∃ a C dx fs v, x = .ref a ∧ H1 a = some (.ins C dx fs) ∧ Cls K C ∧ NoAttr K C f ∧ fs.lookup f = some v ∧ Q v H1
/-- e.f, a constant of the class -/
def tCon (K : PySem.W.Frag) (ta : TE) (f : Str) : TE := fun σ H Q => ta σ H fun x H1 => ∃ a C dx fs v u, x = .ref a ∧ H1 a = some (.ins C dx fs) ∧ Cls K C ∧ Con K C f v u ∧ fs.lookup f = none ∧ Q v H1
/-- e.f = value -/
def sFld (K : PySem.W.Frag) (ta tv : TE) (f : Str) : TS := fun D σ H => tv σ H fun y H1 => ta σ H1 fun x H2 => ∃ a C dx fs, x = .ref a ∧ H2 a = some (.ins C dx fs) ∧ Cls K C ∧ NoAttr K C f ∧ fs.length < 1000 ∧
  D.nx σ (upd H2 a (.ins C dx (putF f y fs)))
/-- an augmented operator on two values -/
def InOp (X : Cx) (op : Operator) (rd : V → V → Hp → VK → Prop) : Prop :=
  ∀ (pins : List (Addr × Obj)) (s : Shared) (σ : St) (H : Hp) (x y : V) (u v : Value) (Q : VK), Inv X pins σ H s → RelV x u → RelV y v → rd x y H Q → wpAny (model X.prog X.w) X.A (inplaceOp op u v) (EP X pins σ Q) X.xe s
/-- e.f op= value -/
def sFldAug (K : PySem.W.Frag) (ta tv : TE) (rd : V → V → Hp → VK → Prop) (f : Str) : TS := fun D σ H => ta σ H fun x H1 => ∃ a C dx fs v, x = .ref a ∧ H1 a = some (.ins C dx fs) ∧ Cls K C ∧ NoAttr K C f ∧ fs.lookup f = some v ∧
  tv σ H1 fun y H2 => rd v y H2 fun z H3 => ∃ dx' fs', H3 a = some (.ins C dx' fs') ∧ fs'.length < 1000 ∧ D.nx σ (upd H3 a (.ins C dx' (putF f z fs')))

section
variable {X : Cx} {o e value : Expr} {f : Str} {pos pos' tpos : Pos} {ta tv : TE}
theorem pe_fld (he : PE X e ta) (hb : attributeBase e f X.env (eval e X.env) = eval e X.env) : PE X (.Attribute e f pos) (tFld X.K ta f) := by
  intro pins s σ H Q I h
  refine attr_of hb (thn (he pins s σ H _ I h) fun u s1 ⟨x, H1, I1, rx, a, C, dx, fs, v, ex, ea, c, n, l, q⟩ => ?_)
  subst ex
  obtain rfl : u = Value.ref a := rx
  exact getattr_ok I1 ea c n l fun u' s2 I2 ru => ⟨v, H1, I2, ru, q⟩
theorem ps_fld (ha : PE X o ta) (hv : PE X value tv) (hs : swapsWith value (some (.Attribute o f pos')) pos.line X.env = pure false) : PS X (.Assign [.Attribute o f pos'] value pos) (sFld X.K ta tv f) := by
  intro pins s σ H D I h
  refine plainObj_wpAny_Assign_Attribute (thn (hv pins s σ H _ I h) fun u s1 ⟨y, H1, I1, ry, q⟩ => thn (ha pins s1 σ H1 _ I1 q) fun ov s2 ⟨x, H2, I2, rx, a, C, dx, fs, ex, ea, c, n, l, q2⟩ => ?_) hs
  subst ex
  obtain rfl : ov = Value.ref a := rx
  exact setattr_ok I2 ea c n l ry fun s3 I3 => ⟨σ, _, I3, q2⟩
def rAdd : V → V → Hp → VK → Prop := fun x y H Q => ∃ i j, x = .int i ∧ y = .int j ∧ Q (.int (i + j)) H
def rSub : V → V → Hp → VK → Prop := fun x y H Q => ∃ i j, x = .int i ∧ y = .int j ∧ Q (.int (i - j)) H
/-- what is between an instance and its method: the tree of a method call -/
theorem methcall_of {pl : Sem Bool} {m : Str} {apos : Pos} {args : List Expr} {pins : List (Addr × Obj)} {s : Shared} {σ : St} {H : Hp} {Q : Value → Shared → Prop} {te : TE} (he : PE X e te) (I : Inv X pins σ H s)
    (h : te σ H fun x H1 => ∃ a C dx fs g, x = .ref a ∧ H1 a = some (.ins C dx fs) ∧ Cls X.K C ∧ Meth X.K C m g ∧ fs.lookup m = none ∧
      ∀ s1, Inv X pins σ H1 s1 → wpAny (model X.prog X.w) X.A (callWith pos (.ref g) [.ref a] (backTo pos (starEach args X.env)) (backToKw pos (keywordEach [] X.env))) Q X.xe s1)
    (ht : eval (.Call (.Attribute e m apos) args [] pos) X.env = (do
      let ov ← eval e X.env
      standAt apos.atName
      let (f, first) ← holding [ov] (getMethod ov m pl)
      callWith pos f first (backTo pos (starEach args X.env)) (backToKw pos (keywordEach [] X.env)))) :
    wpAny (model X.prog X.w) X.A (eval (.Call (.Attribute e m apos) args [] pos) X.env) Q X.xe s := by
  refine PySem.W.methodCall_KW (pl := pl) (thn (he pins s σ H _ I h) fun u s1 ⟨x, H1, I1, rx, a, C, dx, fs, g, ex, ea, c, k, l, q⟩ => ?_) ht
  subst ex
  obtain rfl : u = Value.ref a := rx
  exact getmeth_ok I1 ea c k l (q s1 I1)
end

/-! ### isinstance -/
section
variable {X : Cx} {pins : List (Addr × Obj)} {σ : St} {H : Hp} {s : Shared} {A : Around} {E : Value → Shared → Prop} {Q : Value → Shared → Prop} {c : Value} {b : Bool}
/-- the type of a value, as the fragment's deciders take it; for an instance its class -/
inductive TyOf (K : PySem.W.Frag) (H : Hp) : V → Value → Prop where
  | non : TyOf K H .non (.type "NoneType")
  | bl (x : Bool) : TyOf K H (.bl x) (.type "bool")
  | int (i : Int) : TyOf K H (.int i) (.type "int")
  | str (x : Str) : TyOf K H (.str x) (.type "str")
  | flt (x : UInt64) : TyOf K H (.flt x) (.type "float")
  | lst {a : Addr} {xs : List V} (e : H a = some (.lst xs)) : TyOf K H (.ref a) (.type "list")
  | frz {a : Addr} {o : Obj} {xs : List V} (e : H a = some (.frz o (.lst xs))) : TyOf K H (.ref a) (.type "list")
  | tup {a : Addr} {xs : List V} (e : H a = some (.tup xs)) : TyOf K H (.ref a) (.type "tuple")
  | dK {a : Addr} {kvs : List (Key × V)} (e : H a = some (.dK kvs)) : TyOf K H (.ref a) (.type "dict")
  | dT {a : Addr} {kvs : List (List Key × V)} (e : H a = some (.dT kvs)) : TyOf K H (.ref a) (.type "dict")
  | ins {a C dx : Addr} {fs : List (Str × V)} (e : H a = some (.ins C dx fs)) (cl : Cls K C) (ha : PySem.W.findIn K (.ref C) "__class__" = some (some (.builtin "object.__class__")))
      (hn : PySem.W.specialIn K (.builtin "object.__class__") "__get__" = some (some (.builtin "getset_descriptor.__get__"))) (htk : PySem.W.takesIn K (.builtin "object.__class__") = some true)
      (hm : PySem.W.mroIn K C (.type "object") = some true) : TyOf K H (.ref a) (.ref C)
/-- isinstance(x, c) for one class c, a built-in or an own one: kitOne's answer -/
theorem isinst_ok {x : V} {u t : Value} (I : Inv X pins σ H s) (rx : RelV x u) (ty : TyOf X.K H x t) (e : PySem.W.kitOne X.K t c = some b) (h : ∀ tk, Q (.bool b) { s with toks := tk }) :
    wpAny (model X.prog X.w) A (call (.builtin "isinstance") [u, c]) Q E s := by
  cases ty with
  | non => cases (show u = Value.none from rx); exact PySem.W.kia_one PySem.W.kitx_none I.kIn True.intro e (fun z => nomatch z) h
  | bl y => cases (show u = Value.bool y from rx); exact PySem.W.kia_one PySem.W.kitx_bool I.kIn True.intro e (fun z => nomatch z) h
  | int i => obtain ⟨t, q⟩ := (show ∃ t, u = Value.int i t from rx); cases q; exact PySem.W.kia_one PySem.W.kitx_int I.kIn True.intro e (fun z => nomatch z) h
  | str y => obtain ⟨t, q⟩ := (show ∃ t, u = Value.str y t from rx); cases q; exact PySem.W.kia_one PySem.W.kitx_str I.kIn True.intro e (fun z => nomatch z) h
  | flt y => obtain ⟨t, q⟩ := (show ∃ t, u = Value.float y t from rx); cases q; exact PySem.W.kia_one PySem.W.kitx_float I.kIn True.intro e (fun z => nomatch z) h
  | @lst a xs ea =>
    cases (show u = Value.ref a from rx)
    obtain ⟨_, _, n, _, h1⟩ := (show ObjOk X.prog X.w H s.heap a (.lst xs) from I.hok a _ ea)
    exact PySem.W.kia_one PySem.W.kitx_list I.kIn ⟨_, h1, rfl⟩ e (fun z => nomatch z) h
  | @frz a ob xs ea =>
    cases (show u = Value.ref a from rx)
    obtain ⟨_, _, _, n, _, h1⟩ := (show ObjOk X.prog X.w H s.heap a (.frz ob (.lst xs)) from I.hok a _ ea)
    exact PySem.W.kia_one PySem.W.kitx_list I.kIn ⟨_, h1, rfl⟩ e (fun z => nomatch z) h
  | @tup a xs ea =>
    cases (show u = Value.ref a from rx)
    obtain ⟨_, _, _, p⟩ := (show ObjOk X.prog X.w H s.heap a (.tup xs) from I.hok a _ ea)
    obtain ⟨o, h1, h2, _⟩ := p
    exact PySem.W.kia_one PySem.W.kitx_tuple I.kIn ⟨o, h1, h2⟩ e (fun z => nomatch z) h
  | @dK a kvs ea =>
    cases (show u = Value.ref a from rx)
    obtain ⟨_, _, vs, _, p⟩ := (show ObjOk X.prog X.w H s.heap a (.dK kvs) from I.hok a _ ea)
    obtain ⟨o, es, ep, h1, h2, _⟩ := p
    exact PySem.W.kia_one PySem.W.kitx_dict I.kIn ⟨o, h1, h2.1⟩ e (fun z => nomatch z) h
  | @dT a kvs ea =>
    cases (show u = Value.ref a from rx)
    obtain ⟨_, _, xs, _, o, es, ep, h1, h2, _⟩ := (show ObjOk X.prog X.w H s.heap a (.dT kvs) from I.hok a _ ea)
    exact PySem.W.kia_one PySem.W.kitx_dict I.kIn ⟨o, h1, h2.1⟩ e (fun z => nomatch z) h
  | @ins a C dx fs ea cl ha hn htk hm =>
    cases (show u = Value.ref a from rx)
    obtain ⟨mA, O, _⟩ := ins_get I.hok ea
    obtain ⟨od, J, _⟩ := O.look
    exact PySem.W.kia_one (PySem.W.kitx_own (cl.get _) cl.hd ha hn htk hm) I.kIn J e (fun z => nomatch z) h
end
end L2

namespace L2
open PySem PySem.Spec PyProof.Rows

/-! ### room -/
structure Room (k : Nat) (A : Around) : Prop where
  hd : A.handled = none
  dp : A.depth + 3 * k + 5 < recursionLimit
  un : A.units + 16 * k + 200 < cLine
theorem Room.mono {j k : Nat} {A : Around} (r : Room k A) (h : j ≤ k) : Room j A := ⟨r.hd, by have := r.dp; omega, by have := r.un; omega⟩
theorem Room.deeper {k : Nat} {A : Around} (r : Room (k + 1) A) (env : Env) : Room k (A.deeper env) :=
  ⟨r.hd, by have := r.dp; show A.depth + 1 + 3 * k + 5 < _; omega, by have := r.un; show A.units + 3 + 16 * k + 200 < _; omega⟩
theorem make_depth {A : Around} {C : Addr} {us : List Value} {kw : List (Str × Value)} : (A.under (.builtin "type.__call__" ⟨.ref C :: us, kw⟩)).depth = A.depth + 1 := by
  first | rfl | simp [Around.under, Code.weight, Code.isCreation, Code.isGuard, Code.isCaller, Code.frames, Code.isFrame, guardIds]
theorem make_units {A : Around} {C : Addr} {us : List Value} {kw : List (Str × Value)} : (A.under (.builtin "type.__call__" ⟨.ref C :: us, kw⟩)).units = A.units + 1 := by
  first | rfl | simp [Around.under, Code.cUnits, Code.frames, Code.isFrame]
theorem Room.make {k : Nat} {A : Around} (r : Room (k + 1) A) (C : Addr) (us : List Value) (kw : List (Str × Value)) : Room k (A.under (.builtin "type.__call__" ⟨.ref C :: us, kw⟩)) :=
  ⟨r.hd, by have := r.dp; rw [make_depth]; omega, by have := r.un; rw [make_units]; omega⟩
theorem Room.depth {k : Nat} {A : Around} (r : Room k A) : A.depth < recursionLimit := by have := r.dp; omega
theorem Room.units {k : Nat} {A : Around} (r : Room k A) : A.units + 64 < cLine := by have := r.un; omega
/-! ### argument lists and displays -/
def tNil : TA := fun _ H Q => Q [] H
def tCons (ta : TE) (tr : TA) : TA := fun σ H Q => ta σ H fun x H1 => tr σ H1 fun xs H2 => Q (x :: xs) H2
section
variable {X : Cx} {e : Expr} {es : List Expr} {te : TE} {t : TA} {pos : Pos}
theorem pa_nil : PA X [] tNil := fun _ _ _ _ H Q I h => Calls.spliced_nil ⟨[], H, I, .nil, h⟩
theorem pa_cons (ha : PE X e te) (hr : PA X es t) (hs : starEach (e :: es) X.env = (false, eval e X.env) :: starEach es X.env := by rfl) : PA X (e :: es) (tCons te t) := by
  intro pos pins s σ H Q I h
  rw [hs]
  show wpAny _ _ (spliced ((false, eval e X.env) :: backTo pos (starEach es X.env))) _ _ s
  refine Calls.spliced_cons (thn (ha pins s σ H _ I h) fun u s1 ⟨x, H1, I1, r1, q1⟩ => ?_)
  exact thn (hr pos pins s1 σ H1 _ I1 q1) fun us s2 ⟨xs, H2, I2, r2, q2⟩ => ⟨x :: xs, H2, I2, .cons r1 r2, q2⟩

/-- a tuple, a list of written items -/
def tTup (t : TA) : TE := fun σ H Q => t σ H fun xs H1 => xs.length ≤ sizeLine ∧ ∀ p, H1 p = none → Q (.ref p) (upd H1 p (.tup xs))
def tLst (t : TA) : TE := fun σ H Q => t σ H fun xs H1 => xs.length ≤ sizeLine ∧ ∀ p, H1 p = none → Q (.ref p) (upd H1 p (.lst xs))
theorem pe_tup {x1} (h : PA X es t) : PE X (.Tuple es x1 pos) (tTup t) := by
  intro pins s σ H Q I hq
  refine wpAny_Tuple_spliced (thn (h pos pins s σ H _ I hq) fun us s1 ⟨xs, H1, I1, r, z, q⟩ => ⟨by rw [← r.length]; exact z, ?_⟩)
  have hf : H1 s1.heap.objs.size = none := I1.hok.fresh (Nat.le_refl _)
  refine ⟨.ref s1.heap.objs.size, upd H1 s1.heap.objs.size (.tup xs), I1.laid (t' := s1.toks) (fun b u e => Heap.get?_push_of_some _ e) (Nat.le_refl _) ?_, rfl, q _ hf⟩
  exact ⟨z, us, r, ⟨_, Heap.get?_push_size _ rfl, rfl, _, rfl⟩⟩
theorem pe_lst (h : PA X es t) : PE X (.List es pos) (tLst t) := by
  intro pins s σ H Q I hq
  refine wpAny_List_spliced (thn (h pos pins s σ H _ I hq) fun us s1 ⟨xs, H1, I1, r, z, q⟩ => ⟨by rw [← r.length]; exact z, ?_⟩)
  have hf : H1 s1.heap.objs.size = none := I1.hok.fresh (Nat.le_refl _)
  refine ⟨.ref s1.heap.objs.size, upd H1 s1.heap.objs.size (.lst xs), I1.laid (t' := s1.toks) (fun b u e => Heap.get?_push_of_some _ e) (Nat.le_refl _) ?_, rfl, q _ hf⟩
  exact ⟨z, us, 0, r, Heap.get?_push_size _ rfl⟩
end

/-! ### what a def promises -/
/-- a def's promise: the bound arguments in the parameters' order, the heap, the wanted end, the wanted exception -/
abbrev Sp := List V → Hp → VK → XK → Prop
/-- how an exception lies behind a call (file 08 gives it): the callers' frames, abstract heap and state ahead of the call, the wish, the exception, the state -/
abbrev CXT := List Env → Hp → Shared → XK → Value → Shared → Prop

/-- the state at a call -/
structure Env0 (P : Program) (w : World) (K : PySem.W.Frag) (mg : Str → Option Value) (base : Heap) (A : Around) (outer : List Env) (s : Shared) (H : Hp) : Prop where
  frames : A.frames = some outer
  mod : Mod K mg base
  bs : ∀ b o, base.get? b = some o → s.heap.get? b = some o ∧ H b = none
  bsz : base.objs.size ≤ s.heap.objs.size
  funs : s.heap.FunFrames base outer
  frf : ∀ b ∈ frs outer, H b = none
  hok : HOk P w H s.heap
  bare : AllBare s.gens
/-- a call's end -/
def CE (outer : List Env) (P : Program) (w : World) (H : Hp) (s : Shared) (Q : VK) (u : Value) (s' : Shared) : Prop :=
  ∃ v H', s'.os = s.os ∧ AllBare s'.gens ∧ Un (frs outer) [] H H' s.heap s'.heap ∧ HOk P w H' s'.heap ∧ RelV v u ∧ Q v H'
def CR (CX : CXT) (outer : List Env) (P : Program) (w : World) (H : Hp) (s : Shared) (Q : VK) (E : XK) (r : Result) (s' : Shared) : Prop :=
  match r with
  | .ok (.ret u) => CE outer P w H s Q u s'
  | .ok _ => False
  | .error e => CX outer H s E e s'
structure FnOk (P : Program) (w : World) (K : PySem.W.Frag) (mg : Str → Option Value) (base : Heap) (CX : CXT) (k : Nat) (f : Addr) (fd : FuncData) (ps : List Str) (sp : Sp) : Prop where
  len : ∀ vs H Q E, sp vs H Q E → vs.length = ps.length
  run : ∀ (A : Around) (outer : List Env) (s : Shared) (H : Hp) (args : Args) (us : List Value) (vs : List V) (Q : VK) (E : XK), Room k A → Env0 P w K mg base A outer s H → BindsTo s fd args (ps.zip us) → Vals vs us → sp vs H Q E →
    codeAny (model P w) A (.call (.ref f) args) (CR CX outer P w H s Q E) s
theorem Env0.make {P : Program} {w : World} {K : PySem.W.Frag} {mg : Str → Option Value} {base : Heap} {A : Around} {outer : List Env} {s : Shared} {H : Hp} (e : Env0 P w K mg base A outer s H) (C : Addr) (us : List Value) (kw : List (Str × Value)) :
    Env0 P w K mg base (A.under (.builtin "type.__call__" ⟨.ref C :: us, kw⟩)) outer s H := ⟨by first | exact e.frames | (simpa [Around.under, Code.envs, Code.isFrame, pushEnvs] using e.frames), e.mod, e.bs, e.bsz, e.funs, e.frf, e.hok, e.bare⟩
section
variable {X : Cx} {pins : List (Addr × Obj)} {σ : St} {H : Hp} {s s' : Shared}
/-- from a body: what a callee wants -/
theorem Inv.env0 (I : Inv X pins σ H s) : Env0 X.prog X.w X.K X.mg X.base X.A X.stack s H :=
  ⟨I.ok.frames, I.ok.mod, I.bs, Nat.le_trans I.ok.bsz I.sz, I.stack, I.stkFree, I.hok, I.bare⟩
/-- behind a call -/
theorem Inv.after {Q : VK} {u : Value} (I : Inv X pins σ H s) (h : CE X.stack X.prog X.w H s Q u s') : EP X pins σ Q u s' := by
  obtain ⟨v, H', os, bare, un, hok, r, q⟩ := h
  obtain ⟨hh, g, d, t, os'⟩ := s'
  obtain rfl : os' = s.os := os
  exact ⟨v, H', I.call (h' := hh) (g' := g) (d' := d) (t' := t) (ch := []) un hok bare (fun b z => absurd z (by simp)), r, q⟩
end

/-! ### calls -/
/-- f(..): the written arguments, then the defaults dvs; E: what is wanted of an exception -/
def tCall (sp : Sp) (dvs : List V) (E : XK) (t : TA) : TE := fun σ H Q => t σ H fun vs H1 => sp (vs ++ dvs) H1 Q E
/-- o.m(..) of an instance of the class at C -/
def tMeth (C : Addr) (m : Str) (sp : Sp) (dvs : List V) (E : XK) (ta : TE) (t : TA) : TE := fun σ H Q => ta σ H fun x H1 => ∃ a dx fs, x = .ref a ∧ H1 a = some (.ins C dx fs) ∧ fs.lookup m = none ∧
  t σ H1 fun vs H2 => sp (x :: (vs ++ dvs)) H2 Q E
/-- C(..): a new instance and its dict, then __init__ -/
def tMake (C : Addr) (sp : Sp) (dvs : List V) (E : XK) (t : TA) : TE := fun σ H Q => t σ H fun vs H1 => ∀ x dx, H1 x = none → H1 dx = none → dx ≠ x →
  sp (.ref x :: (vs ++ dvs)) (upd (upd H1 dx (.own x)) x (.ins C dx [])) (fun v H2 => v = .non ∧ Q (.ref x) H2) E

/-- how the parameters are bound: us the positional arguments, kw the keywords' values by name, ds the defaults that fill up -/
def Binds (K : PySem.W.Frag) (fd : FuncData) (ps : List Str) (ds : List Value) : Prop :=
  ∀ (s : Shared) (us : List Value), K.In s.heap → (us ++ ds).length = ps.length → BindsTo s fd ⟨us, []⟩ (ps.zip (us ++ ds))
/-- every parameter is given -/
theorem Binds.all {K : PySem.W.Frag} {fd : FuncData} {ps : List Str} (h : ∀ us : List Value, us.length = ps.length → bindArgs fd ⟨us, []⟩ = pure (ps.zip us)) : Binds K fd ps [] := fun s us _ hl => by
  rw [List.append_nil] at hl ⊢
  exact .of_eq (h us hl)

/-- an exception of a callee reaches what this body wants of exceptions -/
def Passes (CX : CXT) (X : Cx) (E : XK) : Prop := ∀ (pins : List (Addr × Obj)) (σ : St) (H : Hp) (s : Shared) (e : Value) (s' : Shared), Inv X pins σ H s → CX X.stack H s E e s' → X.xe e s'

section
variable {X : Cx} {CX : CXT} {k : Nat} {f C : Addr} {fd : FuncData} {ps : List Str} {sp : Sp} {dvs : List V} {ds : List Value} {E : XK} {x m : Str} {p pos apos : Pos} {e o : Expr} {es : List Expr} {ta : TE} {t : TA}

/-- the callee runs -/
theorem run_fn {pins : List (Addr × Obj)} {σ : St} {H : Hp} {s : Shared} {Q : VK} {us : List Value} {vs : List V} (F : FnOk X.prog X.w X.K X.mg X.base CX k f fd ps sp) (hr : Room k X.A) (hb : Binds X.K fd ps ds) (hd : Vals dvs ds) (hx : Passes CX X E)
    (I : Inv X pins σ H s) (r : Vals vs us) (h : sp (vs ++ dvs) H Q E) : wpAny (model X.prog X.w) X.A (call (.ref f) us) (EP X pins σ Q) X.xe s := by
  have r2 : Vals (vs ++ dvs) (us ++ ds) := r.append hd
  have hl : (us ++ ds).length = ps.length := by rw [← r2.length]; exact F.len _ _ _ _ h
  refine wpAny_call (codeAny_mono (F.run X.A X.stack s H ⟨us, []⟩ (us ++ ds) (vs ++ dvs) Q E hr I.env0 (hb s us I.kIn hl) r2 h) fun r s' hq => ?_)
  cases r with
  | error e => exact hx pins σ H s e s' I hq
  | ok fl =>
    cases fl with
    | ret u => exact I.after hq
    | next => exact False.elim hq
    | brk => exact False.elim hq
    | cont => exact False.elim hq

theorem pe_call (F : FnOk X.prog X.w X.K X.mg X.base CX k f fd ps sp) (hr : Room k X.A) (hg : Gl X x) (hm : X.mg x = some (.ref f)) (hk : PySem.W.keepIn X.K (.ref f) = true) (hb : Binds X.K fd ps ds) (hd : Vals dvs ds) (hx : Passes CX X E)
    (ha : PA X (e :: es) t) (hdb : (x == ("__debug__" : Str)) = false := by decide) (he : starEach (e :: es) X.env = (false, eval e X.env) :: starEach es X.env := by rfl) (hpl : (backTo pos (starEach es X.env)).any (·.1) = false := by rfl) :
    PE X (.Call (.Name x p) (e :: es) [] pos) (tCall sp dvs E t) := by
  intro pins s σ H Q I h
  refine wpAny_Call_Name_kw (ld_glob I hg hm ?_ hdb)
  refine PySem.W.callWith_K (h₀ := X.base) I.ok.mod.kin hk (thn (ha pos pins s σ H _ I h) fun us s1 ⟨vs, H1, I1, r, q⟩ => ⟨I1.kIn, ?_⟩) he hpl
  exact run_fn F hr hb hd hx I1 r q
/-- o.m(e, ..) -/
theorem pe_meth {pl : Sem Bool} (he : PE X o ta) (c : Cls X.K C) (hm : Meth X.K C m f) (F : FnOk X.prog X.w X.K X.mg X.base CX k f fd ps sp) (hr : Room k X.A) (hb : Binds X.K fd ps ds) (hd : Vals dvs ds) (hx : Passes CX X E) (ha : PA X (e :: es) t)
    (hst : starEach (e :: es) X.env = (false, eval e X.env) :: starEach es X.env := by rfl) (hpl : (backTo pos (starEach es X.env)).any (·.1) = false := by rfl)
    (ht : eval (.Call (.Attribute o m apos) (e :: es) [] pos) X.env = (do
      let ov ← eval o X.env
      standAt apos.atName
      let (f, first) ← holding [ov] (getMethod ov m pl)
      callWith pos f first (backTo pos (starEach (e :: es) X.env)) (backToKw pos (keywordEach [] X.env))) := by rfl) :
    PE X (.Call (.Attribute o m apos) (e :: es) [] pos) (tMeth C m sp dvs E ta t) := by
  intro pins s σ H Q I h
  refine PySem.W.methodCall_KW (pl := pl) (thn (he pins s σ H _ I h) fun u s1 ⟨x, H1, I1, rx, a, dx, fs, ex, ea, l, q⟩ => ?_) ht
  subst ex
  obtain rfl : u = Value.ref a := rx
  refine getmeth_ok I1 ea c hm l ?_
  refine PySem.W.callWith_K (first := [.ref a]) (h₀ := X.base) I.ok.mod.kin hm.kp (thn (ha pos pins s1 σ H1 _ I1 q) fun us s2 ⟨vs, H2, I2, r, q2⟩ => ⟨I2.kIn, ?_⟩) hst hpl
  exact run_fn (us := .ref a :: us) (vs := .ref a :: vs) F hr hb hd hx I2 (.cons rfl r) q2
/-- o.m() -/
theorem pe_meth0 {pl : Sem Bool} (he : PE X o ta) (c : Cls X.K C) (hm : Meth X.K C m f) (F : FnOk X.prog X.w X.K X.mg X.base CX k f fd ps sp) (hr : Room k X.A) (hb : Binds X.K fd ps ds) (hd : Vals dvs ds) (hx : Passes CX X E)
    (ht : eval (.Call (.Attribute o m apos) [] [] pos) X.env = (do
      let ov ← eval o X.env
      standAt apos.atName
      let (f, first) ← holding [ov] (getMethod ov m pl)
      callWith pos f first (backTo pos (starEach [] X.env)) (backToKw pos (keywordEach [] X.env))) := by rfl) :
    PE X (.Call (.Attribute o m apos) [] [] pos) (tMeth C m sp dvs E ta tNil) := by
  intro pins s σ H Q I h
  refine PySem.W.methodCall_KW (pl := pl) (thn (he pins s σ H _ I h) fun u s1 ⟨x, H1, I1, rx, a, dx, fs, ex, ea, l, q⟩ => ?_) ht
  subst ex
  obtain rfl : u = Value.ref a := rx
  refine getmeth_ok I1 ea c hm l ?_
  exact PySem.W.callWith_K0 (first := [.ref a]) I1.kIn hm.kp (run_fn (us := [.ref a]) (vs := [.ref a]) F hr hb hd hx I1 (.cons rfl .nil) q)

/-- what a class must have to be made -/
structure Mk (K : PySem.W.Frag) (C f : Addr) : Prop where
  makes : PySem.W.makesIn K C = true
  init : PySem.W.findIn K (.ref C) "__init__" = some (some (.ref f))
  fn : PySem.W.isFn K (.ref f) = true
  kp : PySem.W.keepIn K (.ref C) = true

theorem run_make {pins : List (Addr × Obj)} {σ : St} {H : Hp} {s : Shared} {Q : VK} {us : List Value} {vs : List V} (M : Mk X.K C f) (F : FnOk X.prog X.w X.K X.mg X.base CX k f fd ps sp) (hr : Room (k + 1) X.A) (hb : Binds X.K fd ps ds) (hd : Vals dvs ds)
    (hx : Passes CX X E) (I : Inv X pins σ H s) (r : Vals vs us)
    (h : ∀ x dx, H x = none → H dx = none → dx ≠ x → sp (.ref x :: (vs ++ dvs)) (upd (upd H dx (.own x)) x (.ins C dx [])) (fun v H2 => v = .non ∧ Q (.ref x) H2) E) :
    wpAny (model X.prog X.w) X.A (call (.ref C) us) (EP X pins σ Q) X.xe s := by
  have hq := h (s.heap.objs.size + 1) s.heap.objs.size (I.hok.fresh (Nat.le_succ _)) (I.hok.fresh (Nat.le_refl _)) (Nat.ne_of_lt (Nat.lt_succ_self _))
  have I2 := Inv.made (C := C) I
  have r2 : Vals (V.ref (s.heap.objs.size + 1) :: (vs ++ dvs)) (Value.ref (s.heap.objs.size + 1) :: (us ++ ds)) := .cons rfl (r.append hd)
  have hl : (Value.ref (s.heap.objs.size + 1) :: us ++ ds).length = ps.length := by
    have e := r2.length
    rw [F.len _ _ _ _ hq] at e
    exact e.symm
  refine wpAny_call (make_map (f := f) I.kIn M.makes M.init (beq_iff_eq.mp M.fn) (codeAny_mono (F.run _ X.stack _ _ ⟨Value.ref (s.heap.objs.size + 1) :: us, []⟩ (Value.ref (s.heap.objs.size + 1) :: (us ++ ds)) _ _ E (hr.make C us [])
    (I2.env0.make C us []) (hb _ (Value.ref (s.heap.objs.size + 1) :: us) I2.kIn hl) r2 hq) fun r s' hq' => ?_))
  cases r with
  | error e => exact hx pins σ _ _ e s' I2 hq'
  | ok fl =>
    cases fl with
    | ret u =>
      obtain ⟨v, H', I3, rv, ev, q3⟩ := I2.after hq'
      subst ev
      exact ⟨rv, ⟨V.ref (s.heap.objs.size + 1), H', I3, rfl, q3⟩⟩
    | next => exact False.elim hq'
    | brk => exact False.elim hq'
    | cont => exact False.elim hq'
theorem pe_make0 (M : Mk X.K C f) (F : FnOk X.prog X.w X.K X.mg X.base CX k f fd ps sp) (hr : Room (k + 1) X.A) (hg : Gl X x) (hm : X.mg x = some (.ref C)) (hb : Binds X.K fd ps ds) (hd : Vals dvs ds) (hx : Passes CX X E)
    (hdb : (x == ("__debug__" : Str)) = false := by decide) : PE X (.Call (.Name x p) [] [] pos) (tMake C sp dvs E tNil) := by
  intro pins s σ H Q I h
  refine wpAny_Call_Name_kw (ld_glob I hg hm ?_ hdb)
  exact PySem.W.callWith_K0 I.kIn M.kp (run_make (us := []) M F hr hb hd hx I .nil h)
end

/-! ### keywords -/
/-- the values of the keywords, from the left -/
def PK (X : Cx) (kws : List Keyword) (t : TA) : Prop :=
  ∀ (pos : Pos) (pins : List (Addr × Obj)) (s : Shared) (σ : St) (H : Hp) (Q : List V → Hp → Prop), Inv X pins σ H s → t σ H Q → wpAny (model X.prog X.w) X.A (evalAll ((backToKw pos (keywordEach kws X.env)).map (·.2))) (AP X pins σ Q) X.xe s
section
variable {X : Cx} {CX : CXT} {k : Nat} {f C : Addr} {fd : FuncData} {ps ks : List Str} {sp : Sp} {E : XK} {x m : Str} {p pos apos kpos : Pos} {e o : Expr} {es : List Expr} {kws : List Keyword} {te ta : TE} {t tk : TA} {nm : Option Str}
/-- how a call with keywords binds: g puts the positional values us and the keywords' values ws (names ks) in the parameters' order, defaults among them -/
structure KBinds (K : PySem.W.Frag) (fd : FuncData) (ps ks : List Str) (g : List Value → List Value → List Value) (gV : List V → List V → List V) : Prop where
  to : ∀ (s : Shared) (us ws : List Value), K.In s.heap → (g us ws).length = ps.length → BindsTo s fd ⟨us, ks.zip ws⟩ (ps.zip (g us ws))
  rel : ∀ {vs : List V} {us : List Value} {zs : List V} {ws : List Value}, Vals vs us → Vals zs ws → Vals (gV vs zs) (g us ws)
def tCallK (sp : Sp) (gV : List V → List V → List V) (E : XK) (t tk : TA) : TE := fun σ H Q => t σ H fun vs H1 => tk σ H1 fun zs H2 => sp (gV vs zs) H2 Q E
variable {g : List Value → List Value → List Value} {gV : List V → List V → List V}
end

/-! ### a def's body keeps its promise -/
/-- names: the parameters first -/
structure FnScope (N P : List Str) (sc : Scope) : Prop where
  kind : sc.kind = .function
  co : sc.isCoroutine = false
  gen : sc.isGenerator = false
  nd : N.Nodup
  pre : N.take P.length = P
  par : ∀ x ∈ P, sc.names.lookup x = some .local ∨ sc.names.lookup x = some .cell
  nofree : ∀ y ∈ sc.names, y.2 ≠ .free

theorem bindL_out {kindOf : Str → Option NameKind} {x : Str} : ∀ {binds : List (Str × Value)} {m : Str → Option Value}, (∀ v, (x, v) ∉ binds) → bindL kindOf binds m x = m x
  | [], _, _ => rfl
  | (n, v) :: r, m, h => by
    unfold bindL
    rw [bindL_out fun w hw => h w (List.mem_cons_of_mem _ hw)]
    split
    · have : x ≠ n := by rintro rfl; exact h v List.mem_cons_self
      simp [this]
    · rfl
theorem bindC_out {kindOf : Str → Option NameKind} {x : Str} : ∀ {binds : List (Str × Value)} {m : Str → Option Value}, (∀ v, (x, v) ∉ binds) → bindC kindOf binds m x = m x
  | [], _, _ => rfl
  | (n, v) :: r, m, h => by
    unfold bindC
    rw [bindC_out fun w hw => h w (List.mem_cons_of_mem _ hw)]
    split
    · rfl
    · have : x ≠ n := by rintro rfl; exact h v List.mem_cons_self
      simp [this]
theorem bindL_get {kindOf : Str → Option NameKind} {x : Str} {v : Value} : ∀ {P : List Str} {vs : List Value} {i : Nat} {m : Str → Option Value}, P.Nodup → P[i]? = some x → vs[i]? = some v → kindOf x = some .local →
    bindL kindOf (P.zip vs) m x = some v
  | [], _, _, _, _, h, _, _ => by simp at h
  | _ :: _, [], _, _, _, _, h, _ => by simp at h
  | p :: P, w :: vs, 0, m, nd, h1, h2, hk => by
    simp at h1 h2; subst h1; subst h2
    show bindL kindOf ((p, w) :: P.zip vs) m p = _
    unfold bindL
    rw [bindL_out fun v hv => (List.nodup_cons.mp nd).1 (List.of_mem_zip hv).1, if_pos hk]
    simp
  | p :: P, w :: vs, i + 1, m, nd, h1, h2, hk => by
    show bindL kindOf ((p, w) :: P.zip vs) m x = _
    unfold bindL
    exact bindL_get (i := i) (List.nodup_cons.mp nd).2 (by simpa using h1) (by simpa using h2) hk
theorem bindC_get {kindOf : Str → Option NameKind} {x : Str} {v : Value} : ∀ {P : List Str} {vs : List Value} {i : Nat} {m : Str → Option Value}, P.Nodup → P[i]? = some x → vs[i]? = some v → kindOf x ≠ some .local →
    bindC kindOf (P.zip vs) m x = some v
  | [], _, _, _, _, h, _, _ => by simp at h
  | _ :: _, [], _, _, _, _, h, _ => by simp at h
  | p :: P, w :: vs, 0, m, nd, h1, h2, hk => by
    simp at h1 h2; subst h1; subst h2
    show bindC kindOf ((p, w) :: P.zip vs) m p = _
    unfold bindC
    rw [bindC_out fun v hv => (List.nodup_cons.mp nd).1 (List.of_mem_zip hv).1, if_neg hk]
    simp
  | p :: P, w :: vs, i + 1, m, nd, h1, h2, hk => by
    show bindC kindOf ((p, w) :: P.zip vs) m x = _
    unfold bindC
    exact bindC_get (i := i) (List.nodup_cons.mp nd).2 (by simpa using h1) (by simpa using h2) hk

/-- the names' values at the entry -/
def start (N : List Str) (vs : List V) : St := vs.map some ++ List.replicate (N.length - vs.length) none

/-- the context of a def's body, at its entry; an exception leaves the frame, then lies as CX says -/
def cxOf (CX : CXT) (P : Program) (w : World) (K : PySem.W.Frag) (mg : Str → Option Value) (base : Heap) (N : List Str) (qual : Str) (scope : Scope) (f : Addr) (cd : Value) (A : Around) (outer : List Env) (s : Shared) (H : Hp) (E : XK) : Cx where
  prog := P
  w := w
  K := K
  mg := mg
  base := base
  A := A.deeper (envOfC qual scope s.heap.objs.size f cd)
  N := N
  s₀ := s
  H₀ := H
  env := envOfC qual scope s.heap.objs.size f cd
  outer := outer
  stack := envOfC qual scope s.heap.objs.size f cd :: outer
  ex := []
  calm := true
  fn := fun _ => true
  pn := []
  xe := fun e s' => wpAny (model P w) (A.deeper (envOfC qual scope s.heap.objs.size f cd)) (leaving (envOfC qual scope s.heap.objs.size f cd) e) (fun _ s'' => CX outer H s E e s'') (fun e' s'' => CX outer H s E e' s'') s'

theorem cell_has {sc : Scope} {n : Nat} {x : Str} (h : sc.names.lookup x = some .cell) : ∃ c, (cellsFrom n sc.names []).lookup x = some c := by
  have q := PySem.W.cellsFrom_some sc.names n [] (.inl h)
  exact Option.isSome_iff_exists.mp q

theorem inv_start {CX : CXT} {P : Program} {w : World} {K : PySem.W.Frag} {mg : Str → Option Value} {base : Heap} {N ps : List Str} {qual : Str} {scope : Scope} {f : Addr} {cd : Value} {A : Around} {outer : List Env} {s s1 : Shared} {H : Hp} {E : XK} {us : List Value} {vs : List V}
    (S : FnScope N ps scope) (hd : A.handled = none) (e0 : Env0 P w K mg base A outer s H) (hl : vs.length = ps.length) (r : Vals vs us)
    (x : InCallC s s.heap.objs.size (bindL (envOfC qual scope s.heap.objs.size f cd).kindOf (ps.zip us) fun _ => none) (cellsFrom (s.heap.objs.size + 1) scope.names []) (bindC (envOfC qual scope s.heap.objs.size f cd).kindOf (ps.zip us) fun _ => none) s1) :
    Inv (cxOf CX P w K mg base N qual scope f cd A outer s H E) [] (start N vs) H s1 := by
  have hpl : ps.length ≤ N.length := by have := congrArg List.length S.pre; rw [List.length_take] at this; omega
  obtain ⟨h1, tk, rfl, hk⟩ := x.done
  have noA : ∀ b : Addr, b ∉ (cxOf CX P w K mg base N qual scope f cd A outer s H E).ex := fun b z => absurd (show b ∈ ([] : List Addr) from z) (by simp)
  refine ⟨⟨e0.mod, S.kind, rfl, rfl, Nat.le_refl _, fun y z c h1 h2 => ?_, fun y hy => ?_, fun y c _ h => ?_, fun _ => hd, Around.frames_deeper e0.frames, .inr ⟨rfl, rfl⟩, fun b z => absurd z (noA b), e0.bs, e0.bsz, fun b _ _ => noA b, fun b z => absurd z (noA b), e0.funs, e0.frf⟩,
    rfl, e0.bare, Un.kept hk, ⟨_, x.toInCall.ns, fun i y v h1 h2 h3 => ?_⟩, fun y c h => ⟨_, x.cell y c h⟩, e0.hok.fresh (Nat.le_refl _), fun y c h => ?_, fun p hp => absurd (show p ∈ ([] : List (Addr × Obj)) from hp) (by simp), e0.hok.kept hk, ?_⟩
  · exact name_of_addr x.apart (PySem.mem_of_lookup h1) (PySem.mem_of_lookup h2)
  · have hy : scope.names.lookup y = some .cell ∨ scope.names.lookup y = some .free := hy
    rcases hy with hy | hy
    · exact cell_has hy
    · exact absurd rfl (S.nofree _ (PySem.mem_of_lookup hy))
  · exact Nat.le_of_lt (x.above y c (PySem.mem_of_lookup h))
  · have hi : i < vs.length := by
      unfold start at h2
      by_cases hi : i < vs.length
      · exact hi
      · rw [List.getElem?_append_right (by simpa using hi)] at h2
        rw [List.getElem?_replicate] at h2
        split at h2 <;> cases h2
    have ha : vs[i]? = some v := by
      unfold start at h2
      rw [List.getElem?_append_left (by simpa using hi), List.getElem?_map] at h2
      cases e : vs[i]? with
      | none => rw [e] at h2; cases h2
      | some a => rw [e] at h2; cases h2; rfl
    obtain ⟨u, hu, rv⟩ := r.get ha
    have hp : ps[i]? = some y := by
      rw [← S.pre, List.getElem?_take_of_lt (by omega)]; exact h1
    have ndP : ps.Nodup := by rw [← S.pre]; exact S.nd.sublist (List.take_sublist _ _)
    refine ⟨u, rv, ?_⟩
    rcases S.par y (List.mem_of_getElem? hp) with k | k
    · exact .inl ⟨k, bindL_get ndP hp hu k⟩
    · obtain ⟨c, e⟩ := cell_has (n := s.heap.objs.size + 1) k
      refine .inr ⟨.inl k, c, e, ?_⟩
      have q := x.cell y c e
      rw [bindC_get ndP hp hu (by show scope.names.lookup y ≠ _; rw [k]; decide)] at q
      exact q
  · exact e0.hok.fresh (Nat.le_of_lt (x.above y c (PySem.mem_of_lookup h)))
  · unfold start
    show _ = N.length
    rw [List.length_append, List.length_map, List.length_replicate]
    omega

/-- THE RULE: a def (or a method) of the text, by its body. The body's reading t is chosen for each entry; it is run at the parameters' values -/
theorem fn_of {CX : CXT} {P : Program} {w : World} {K : PySem.W.Frag} {mg : Str → Option Value} {base : Heap} {k : Nat} {f : Addr} {name qual : Str} {params : Arguments} {body : List Stmt} {scope : Scope} {dV kV doc pm cdv ct oc : Value} {an od : Option Addr}
    {osl : Array (Option Value)} {N ps : List Str} {sp : Sp} (lk : K.lookup f = some ⟨oc, od, .func (PySem.W.fnOf name qual params body scope dV kV doc pm an cdv ct), osl⟩) (hcd : PySem.W.codeIn K cdv qual = true) (S : FnScope N ps scope)
    (len : ∀ vs H Q E, sp vs H Q E → vs.length = ps.length)
    (hbody : ∀ (A : Around) (outer : List Env) (s : Shared) (H : Hp) (vs : List V) (Q : VK) (E : XK), Room k (A.deeper (envOfC qual scope s.heap.objs.size f cdv)) → sp vs H Q E →
      ∃ t, PSs (cxOf CX P w K mg base N qual scope f cdv A outer s H E) body t ∧ t { nx := fun _ H' => Q .non H', rt := Q } (start N vs) H) :
    FnOk P w K mg base CX (k + 1) f (PySem.W.fnOf name qual params body scope dV kV doc pm an cdv ct) ps sp := by
  refine ⟨len, fun A outer s H args us vs Q E hr e0 hb r hsp => ?_⟩
  have hl := len _ _ _ _ hsp
  have KX : K.In s.heap := e0.mod.kin.keeps fun b o e => (e0.bs b o e).1
  have lim : s.heap.NoLimit := e0.mod.nolimit.keeps fun b o e => (e0.bs b o e).1
  have hkind : ∀ y ∈ ps.zip us, scope.names.lookup y.1 = some .local ∨ (scope.names.lookup y.1 = some .cell ∧ ((cellsFrom (s.heap.objs.size + 1) scope.names []).lookup y.1).isSome = true) := fun ⟨n, v⟩ hy => by
    rcases S.par n (List.of_mem_zip hy).1 with q | q
    · exact .inl q
    · exact .inr ⟨q, PySem.W.cellsFrom_some _ _ _ (.inl q)⟩
  refine codeAny_call_function hr.depth (KX _ _ lk) rfl S.co S.gen rfl (PySem.W.codeRec_of KX hcd) (hb _ _ _ _ ?_)
  refine wpAny_newFunctionEnv_cells S.kind hkind fun env he s1 x => ?_
  subst he
  refine ⟨lim.keeps x.toInCall.keep, codeAny_func ?_⟩
  obtain ⟨t, ht, hq⟩ := hbody A outer s H vs Q E (hr.deeper _) hsp
  have I : Inv (cxOf CX P w K mg base N qual scope f cdv A outer s H E) [] (start N vs) H s1 := inv_start S hr.hd e0 hl r x
  refine wpAny_mono (ht [] s1 (start N vs) H _ I hq) (fun fl s' hs => ?_) fun e s' hs => hs
  have fin : ∀ {σ' : St} {H' : Hp} {v : V} {u : Value}, Inv (cxOf CX P w K mg base N qual scope f cdv A outer s H E) [] σ' H' s' → RelV v u → Q v H' → CE outer P w H s Q u s' :=
    fun {σ' H' v u} J rv q => ⟨v, H', J.os, J.bare, J.base, J.hok, rv, q⟩
  cases fl with
  | ret u =>
    obtain ⟨v, σ', H', J, rv, q⟩ := hs
    exact fin J rv q
  | next =>
    obtain ⟨σ', H', J, q⟩ := hs
    exact fin (v := V.non) (u := Value.none) J rfl q
  | brk =>
    obtain ⟨_, _, _, q⟩ := hs
    exact False.elim q
  | cont =>
    obtain ⟨_, _, _, q⟩ := hs
    exact False.elim q
end L2

namespace L2
open PySem PySem.Spec PyProof.Rows
section
variable {X : Cx} {x : Str} {p pos : Pos} {e : Expr} {es : List Expr} {t : TA} {id T : String} {r : List V → Hp → VK → Prop}

def tCB (r : List V → Hp → VK → Prop) (t : TA) : TE := fun σ H Q => t σ H fun vs H1 => r vs H1 Q
/-- f(e, ..), f a built-in function -/
theorem pe_callB (hc : CallR X (.builtin id) r) (hg : Gl X x) (hm : X.mg x = none) (hv : bootBuiltins x = some (.builtin id)) (ha : PA X (e :: es) t) (hn : x ≠ "__name__" := by decide) (hdb : (x == ("__debug__" : Str)) = false := by decide)
    (he : starEach (e :: es) X.env = (false, eval e X.env) :: starEach es X.env := by rfl) (hpl : (backTo pos (starEach es X.env)).any (·.1) = false := by rfl) : PE X (.Call (.Name x p) (e :: es) [] pos) (tCB r t) := by
  intro pins s σ H Q I h
  refine wpAny_Call_Name_kw (ld_blt I hg hm hv ?_ hn hdb)
  exact PyProof.Rows.callWith_builtin1 (thn (ha pos pins s σ H _ I h) fun us s1 ⟨vs, H1, I1, r1, q1⟩ => hc pins s1 σ H1 vs us Q I1 r1 q1) he hpl
/-- T(e, ..), T a built-in type -/
theorem pe_callTy (hc : CallR X (.type T) r) (hg : Gl X x) (hm : X.mg x = none) (hv : bootBuiltins x = some (.type T)) (ha : PA X (e :: es) t) (hn : x ≠ "__name__" := by decide) (hdb : (x == ("__debug__" : Str)) = false := by decide)
    (he : starEach (e :: es) X.env = (false, eval e X.env) :: starEach es X.env := by rfl) (hpl : (backTo pos (starEach es X.env)).any (·.1) = false := by rfl) : PE X (.Call (.Name x p) (e :: es) [] pos) (tCB r t) := by
  intro pins s σ H Q I h
  refine wpAny_Call_Name_kw (ld_blt I hg hm hv ?_ hn hdb)
  exact PyProof.Rows.callWith_type1 (thn (ha pos pins s σ H _ I h) fun us s1 ⟨vs, H1, I1, r1, q1⟩ => hc pins s1 σ H1 vs us Q I1 r1 q1) he hpl
end
end L2

namespace HT
open PySem PyProof.Rows

/-- t < u of tuples of ints -/
def lexLt : List Int → List Int → Bool
  | [], [] => false
  | [], _ :: _ => true
  | _ :: _, [] => false
  | x :: xs, y :: ys => if x = y then lexLt xs ys else decide (x < y)
section
open PySem.SeqAt
open PySem.AutoSeq1 (wpAny_loadPart')
open PySem.MeetsSeq PySem.MeetsSeq2 PySem.MeetsSeq3

end

section
variable {prog : Program} {w : World} {A : Around} {E : Value → Shared → Prop} {s : Shared}

/-! ### t[a:b], not the whole -/
/-- a slice's bound as a place among n (d where it is left out) -/
def sIx (n d : Nat) : Option Int → Nat
  | none => d
  | some v => if v < 0 then (v + (n : Int)).toNat else min v.toNat n
theorem sIx_none (n d : Nat) : sIx n d none = d := rfl
theorem sIx_nat (n d k : Nat) : sIx n d (some (k : Int)) = min k n := by
  show (if (k : Int) < 0 then ((k : Int) + (n : Int)).toNat else min (k : Int).toNat n) = min k n
  rw [if_neg (by omega), Int.toNat_natCast]
theorem sIx_le (n d : Nat) (hd : d ≤ n) (o : Option Int) : sIx n d o ≤ n := by
  cases o with
  | none => exact hd
  | some v =>
    show (if v < 0 then (v + (n : Int)).toNat else min v.toNat n) ≤ n
    by_cases hv : v < 0
    · rw [if_pos hv]; omega
    · rw [if_neg hv]; exact Nat.min_le_right _ _
theorem clip_eq (v : Int) (n d : Nat) : (if v < 0 then max (v + (n : Int)) 0 else min v (n : Int)) = ((sIx n d (some v) : Nat) : Int) := by
  show (if v < 0 then max (v + (n : Int)) 0 else min v (n : Int)) = (((if v < 0 then (v + (n : Int)).toNat else min v.toNat n) : Nat) : Int)
  by_cases hv : v < 0
  · simp only [if_pos hv]; omega
  · simp only [if_neg hv]; omega
theorem adjust_gen (lo hi : Option Int) (n : Nat) : Builtin.Slice.sliceAdjust lo hi 1 (n : Int) = (((sIx n 0 lo : Nat) : Int), ((sIx n n hi : Nat) : Int)) := by
  have h1 : ¬ ((1 : Int) < 0) := by omega
  unfold Builtin.Slice.sliceAdjust
  simp only [h1, if_false]
  refine Prod.ext ?_ ?_
  · cases lo with
    | none => rfl
    | some v => exact clip_eq v n 0
  · cases hi with
    | none => rfl
    | some v => exact clip_eq v n n
theorem places_gen (i j : Nat) : Builtin.Slice.slicePlaces (i : Int) (j : Int) 1 = j - i := by
  unfold Builtin.Slice.slicePlaces
  have h1 : (1 : Int) > 0 := by omega
  simp only [h1, if_true, Int.ediv_one]
  split <;> omega
theorem slicePart_ {v : Value} {o : Option Int} {Q : Option Int → Shared → Prop} (p : IsPart v o) (h : Q o s) : wpAny (model prog w) A (Builtin.Slice.slicePartIndex v) Q E s := by
  cases p with
  | none => exact slicePart_none h
  | int i t => exact slicePart_int h
theorem sliceApplied_gen {sl : Addr} {vl vu : Value} {lo hi : Option Int} {n : Nat} {Q : Int × Int × Nat → Shared → Prop} (hs : s.heap.IsSliceOf sl vl vu .none) (pl : IsPart vl lo) (pu : IsPart vu hi)
    (h : Q (((sIx n 0 lo : Nat) : Int), 1, sIx n n hi - sIx n 0 lo) s) : wpAny (model prog w) A (Builtin.Slice.sliceApplied (.ref sl) (pure (n : Int))) Q E s := by
  obtain ⟨os, hos, hcs, hds⟩ := id hs
  unfold Builtin.Slice.sliceApplied Builtin.Slice.sliceFields
  refine wpAny_bind (wpAny_bind (wpAny_field hos hds (x := vl) rfl (wpAny_bind (wpAny_field hos hds (x := vu) rfl (wpAny_bind (wpAny_field hos hds (x := .none) rfl (wpAny_pure ?_)))))))
  refine wpAny_bind (slicePart_none ?_)
  show wpAny _ _ (if ((1 : Int) == 0) = true then _ else _) _ _ s
  rw [if_neg (by decide)]
  refine wpAny_bind (slicePart_ pl (wpAny_bind (slicePart_ pu (wpAny_bind (wpAny_pure ?_)))))
  show wpAny _ _ (match Builtin.Slice.sliceAdjust lo hi 1 (n : Int) with | (lo, hi) => pure (lo, (1 : Int), Builtin.Slice.slicePlaces lo hi 1)) _ _ s
  rw [adjust_gen lo hi n]
  show wpAny _ _ (pure (((sIx n 0 lo : Nat) : Int), (1 : Int), Builtin.Slice.slicePlaces ((sIx n 0 lo : Nat) : Int) ((sIx n n hi : Nat) : Int) 1)) _ _ s
  rw [places_gen]
  exact wpAny_pure h
theorem pick_gen (xs : Array Value) (i k : Nat) : ((List.range k).filterMap fun (m : Nat) => xs[((i : Int) + (m : Int) * 1).toNat]?).toArray = ((xs.toList.drop i).take k).toArray := by
  have e : (fun (m : Nat) => xs[((i : Int) + (m : Int) * 1).toNat]?) = fun m => xs[i + m]? := by
    funext m
    have : ((i : Int) + (m : Int) * 1).toNat = i + m := by omega
    rw [this]
  rw [e]
  have := pick_run xs i k
  rw [List.filterMap_map] at this
  have e2 : ((fun x => xs[x]?) ∘ fun x => i + x) = fun m => xs[i + m]? := rfl
  rw [e2] at this
  rw [this]

theorem getItem_tuple_cut {t sl : Addr} {items : Array Value} {vl vu : Value} {lo hi : Option Int} {Q : Value → Shared → Prop} (ht : IsTup s.heap t items) (hs : s.heap.IsSliceOf sl vl vu .none) (pl : IsPart vl lo) (pu : IsPart vu hi)
    (hw : ¬ (sIx items.size 0 lo = 0 ∧ sIx items.size items.size hi = items.size))
    (h : Q (.ref s.heap.objs.size) { s with heap := s.heap.push { cls := .type "tuple", data := .seq ((items.toList.drop (sIx items.size 0 lo)).take (sIx items.size items.size hi - sIx items.size 0 lo)).toArray } })
    (hsz : items.size ≤ sizeLine) : wpAny (model prog w) A (getItem (.ref t) (.ref sl)) Q E s := by
  have htake : sizeOk (.seq ((items.toList.drop (sIx items.size 0 lo)).take (sIx items.size items.size hi - sIx items.size 0 lo)).toArray) := by
    show ((items.toList.drop (sIx items.size 0 lo)).take (sIx items.size items.size hi - sIx items.size 0 lo)).toArray.size ≤ sizeLine
    rw [List.size_toArray, List.length_take, List.length_drop, Array.length_toList]
    omega
  have hj : sIx items.size items.size hi ≤ items.size := sIx_le _ _ (Nat.le_refl _) hi
  obtain ⟨os, hos, hcs, hds⟩ := id hs
  have hTs : s.TypeIs (.ref sl) "slice" := ⟨os, hos, hcs⟩
  unfold getItem
  try with_reducible refine wpAny_holding ?_
  first | refine wpAny_bind (wpAny_pure ?_) | skip
  refine wpAny_bind (wpAny_sequenceKey ht.typeIs (by decide) ?_)
  refine wpAny_bind (wpAny_callSpecial?_slot (name := Str.ofString "__getitem__") ht.typeIs PyProof.Rows.slot_tuple_getitem
    (wpAny_call_entry PyProof.Rows.slot_tuple_getitem ht.typeIs entry_tuple_getitem ?_ (args_tuple_getitem _ _)))
  show wpAny _ _ (Builtin.Tuple.tupleItemsOf (.ref t) >>= _) _ _ s
  refine wpAny_bind (tupleItemsOf_ ht ?_)
  refine wpAny_bind (wpAny_typeOf hTs ?_)
  rw [if_pos (by decide)]
  refine wpAny_bind (sliceApplied_gen hs pl pu ?_)
  have hno : ¬ ((((sIx items.size 0 lo : Nat) : Int) == 0 && (1 : Int) == 1 && (sIx items.size items.size hi - sIx items.size 0 lo) == items.size) = true) := by
    intro q
    rw [Bool.and_eq_true, Bool.and_eq_true] at q
    have q1 : ((sIx items.size 0 lo : Nat) : Int) = 0 := eq_of_beq q.1.1
    have q2 : sIx items.size items.size hi - sIx items.size 0 lo = items.size := eq_of_beq q.2
    exact hw ⟨by omega, by omega⟩
  show wpAny _ _ (if (((sIx items.size 0 lo : Nat) : Int) == 0 && (1 : Int) == 1 && (sIx items.size items.size hi - sIx items.size 0 lo) == items.size) = true then _ else _) _ _ s
  rw [if_neg hno, pick_gen]
  first
    | exact wpAny_bind (m := Builtin.Tuple.tupleExact _) (wpAny_newObj_type (wpAny_pure ⟨_, rfl, wpAny_pure h⟩) htake)
    | exact wpAny_bind (m := Builtin.Tuple.tupleExact _) (wpAny_newObj_type (wpAny_bind (wpAny_pure (wpAny_pure ⟨_, rfl, wpAny_pure h⟩))) htake)
    | exact wpAny_bind (wpAny_bind (m := Builtin.Tuple.tupleExact _) (wpAny_newObj_type (wpAny_pure (wpAny_pure ⟨_, rfl, wpAny_pure h⟩)) htake))
    | exact wpAny_bind (wpAny_bind (m := Builtin.Tuple.tupleExact _) (wpAny_newObj_type (wpAny_pure ⟨_, rfl, wpAny_pure h⟩) htake))
end
end HT

namespace L2
open PySem PySem.Spec PyProof.Rows

/-! ### the parts of a slice -/
abbrev TO := St → Hp → (Option Int → Hp → Prop) → Prop
/-- a slice's part (left out, or an int) -/
def PO (X : Cx) (e : Option Expr) (t : TO) : Prop :=
  ∀ (pins : List (Addr × Obj)) (s : Shared) (σ : St) (H : Hp) (Q : Option Int → Hp → Prop), Inv X pins σ H s → t σ H Q →
    wpAny (model X.prog X.w) X.A (evalPart e X.env) (fun u s' => ∃ o H', Inv X pins σ H' s' ∧ IsPart u o ∧ Q o H') X.xe s
def tNoPart : TO := fun _ H Q => Q none H
def tPart (t : TE) : TO := fun σ H Q => t σ H fun x H1 => ∃ i, x = .int i ∧ Q (some i) H1

theorem intsAre_of {ns : List Int} : ∀ {us : List Value}, Vals (ns.map V.int) us → IntsAre us ns := by
  induction ns with
  | nil => intro us r; rw [List.map_nil] at r; cases r; exact .nil
  | cons n ns ih =>
    intro us r
    rw [List.map_cons] at r
    cases r with
    | cons r1 r2 =>
      obtain ⟨t, e⟩ := r1
      subst e
      exact .cons n t (ih r2)

section
variable {X : Cx} {e : Expr} {te : TE} {lo hi : Option Expr} {tl th : TO} {pos p2 : Pos}

theorem po_none : PO X none tNoPart := by
  intro pins s σ H Q I h
  rw [evalPart_none]
  exact wpAny_pure ⟨none, H, I, .none, h⟩
theorem po_some (h : PE X e te) : PO X (some e) (tPart te) := by
  intro pins s σ H Q I hw
  rw [evalPart_some]
  refine thn (h pins s σ H _ I hw) fun u s1 ⟨x, H1, I1, r1, q1⟩ => ?_
  obtain ⟨i, rfl, q⟩ := q1
  obtain ⟨t, rfl⟩ := r1
  exact ⟨some i, H1, I1, .int i t, q⟩

/-- what a slice of a value is, by values: the slice object stands at sl -/
def SlR (X : Cx) (r : V → Option Int → Option Int → Hp → VK → Prop) : Prop :=
  ∀ (pins : List (Addr × Obj)) (s : Shared) (σ : St) (H : Hp) (x : V) (v vl vu : Value) (lo hi : Option Int) (sl : Addr) (Q : VK), Inv X pins σ H s → RelV x v → s.heap.IsSliceOf sl vl vu .none → IsPart vl lo → IsPart vu hi → r x lo hi H Q →
    ∃ T id, typeLookup (.type T) "__getitem__" = pure (some (.builtin id)) ∧ s.TypeIs v T ∧ wpAny (model X.prog X.w) X.A (getItem v (.ref sl)) (EP X pins σ Q) X.xe s
def tSl (r : V → Option Int → Option Int → Hp → VK → Prop) (te : TE) (tl th : TO) : TE := fun σ H Q => te σ H fun x H1 => tl σ H1 fun l H2 => th σ H2 fun u H3 => r x l u H3 Q
/-- a[lo:hi], any a -/
theorem pe_slice {r : V → Option Int → Option Int → Hp → VK → Prop} (hr : SlR X r) (he : PE X e te) (hl : PO X lo tl) (hu : PO X hi th) : PE X (.Subscript e (.Slice lo hi none p2) pos) (tSl r te tl th) := by
  intro pins s σ H Q I h
  refine Subscript_ (thn (he pins s σ H _ I h) fun v s1 ⟨x, H1, I1, r1, q1⟩ => ?_)
  refine wpAny_Slice (thn (hl pins s1 σ H1 _ I1 q1) fun vl s2 ⟨l, H2, I2, pl, q2⟩ => thn (hu pins s2 σ H2 _ I2 q2) fun vu s3 ⟨u, H3, I3, pu, q3⟩ => ?_)
  rw [evalPart_none]
  refine wpAny_pure ?_
  have I4 : Inv X pins σ H3 { s3 with heap := s3.heap.push { cls := .type "slice", data := .fields #[vl, vu, .none] } } := I3.kept (t' := s3.toks) fun b ob q => Heap.get?_push_of_some _ q
  obtain ⟨T, id, hT, ht, hg⟩ := hr pins { s3 with heap := s3.heap.push { cls := .type "slice", data := .fields #[vl, vu, .none] } } σ H3 x v vl vu l u s3.heap.objs.size Q I4 r1 (Heap.IsSliceOf.new ..) pl pu q3
  show wpAny (model X.prog X.w) X.A (subscriptTail e (.Slice lo hi none p2) v (.ref s3.heap.objs.size)) (EP X pins σ Q) X.xe { s3 with heap := s3.heap.push { cls := .type "slice", data := .fields #[vl, vu, .none] } }
  exact tail_any (ops := [.ref s3.heap.objs.size, v]) ht hT hg (by with_unfolding_all rfl)

/-- the items of xs[lo:hi] -/
def cutV (xs : List V) (lo hi : Option Int) : List V := (xs.drop (HT.sIx xs.length 0 lo)).take (HT.sIx xs.length xs.length hi - HT.sIx xs.length 0 lo)
theorem cutV_length (xs : List V) (lo hi : Option Int) : (cutV xs lo hi).length ≤ xs.length := by
  unfold cutV
  rw [List.length_take, List.length_drop]
  omega
/-- t[lo:hi], not the whole of it (the whole would be t itself) -/
def rSlT (K : PySem.W.Frag) : V → Option Int → Option Int → Hp → VK → Prop := fun x lo hi H Q => ∃ a xs, x = .ref a ∧ SqT K H a xs ∧
  ¬ (HT.sIx xs.length 0 lo = 0 ∧ HT.sIx xs.length xs.length hi = xs.length) ∧ ∀ p, H p = none → Q (.ref p) (upd H p (.tup (cutV xs lo hi)))
theorem sl_tup : SlR X (rSlT X.K) := by
  intro pins s σ H x v vl vu lo hi sl Q I rx hs pl pu h
  obtain ⟨a, xs, rfl, hx, hw, q⟩ := h
  cases rx
  obtain ⟨its, r, ht, hz⟩ := I.tuple hx
  have hlen : its.toArray.size = xs.length := by rw [List.size_toArray]; exact r.length.symm
  refine ⟨"tuple", _, PyProof.Rows.slot_tuple_getitem.lookup, ht.typeIs, ?_⟩
  refine HT.getItem_tuple_cut ht hs pl pu (by rw [hlen]; exact hw) ?_ (by rw [hlen]; exact hz)
  rw [hlen]
  refine ⟨.ref s.heap.objs.size, _, I.laid (t' := s.toks) (o := .tup (cutV xs lo hi)) (fun b ob q => Heap.get?_push_of_some _ q) (Nat.le_refl _) ?_, rfl, q _ (I.hok.fresh (Nat.le_refl _))⟩
  exact ⟨Nat.le_trans (cutV_length xs lo hi) hz, _, (r.drop (HT.sIx xs.length 0 lo)).take (HT.sIx xs.length xs.length hi - HT.sIx xs.length 0 lo), IsTup.new _ _⟩

/-! ### t < u, t + u -/
def rLtT (K : PySem.W.Frag) : R2 := fun x y H Q => ∃ a b ns ms, x = .ref a ∧ y = .ref b ∧ SqT K H a (ns.map V.int) ∧ SqT K H b (ms.map V.int) ∧ Q (.bl (HT.lexLt ns ms)) H
/-- t + u, t not empty: u empty gives t itself -/
def rCatT (K : PySem.W.Frag) : R2 := fun x y H Q => ∃ a b xs ys, x = .ref a ∧ y = .ref b ∧ SqT K H a xs ∧ SqT K H b ys ∧ xs ≠ [] ∧ xs.length + ys.length ≤ sizeLine ∧
  (ys = [] → Q (.ref a) H) ∧ (ys ≠ [] → ∀ p, H p = none → Q (.ref p) (upd H p (.tup (xs ++ ys))))
end
end L2

namespace L2
open PySem PySem.Spec PyProof.Rows

/-! ### places -/
/-- the place that an index of any sign means -/
def ixN (n : Nat) (i : Int) : Option Nat := if 0 ≤ i then (if i < n then some i.toNat else none) else if -(n : Int) ≤ i then some (i + n).toNat else none
def atI {α : Type} (xs : List α) (i : Int) : Option α := (ixN xs.length i).bind fun j => xs[j]?
theorem ixN_seq {n : Nat} {i : Int} {j : Nat} (h : ixN n i = some j) : seqIndex? i n = some j ∧ j < n ∧ -(n : Int) ≤ i ∧ i < n := by
  unfold ixN at h
  by_cases h0 : 0 ≤ i
  · rw [if_pos h0] at h
    by_cases h1 : i < n
    · rw [if_pos h1] at h
      have e : i.toNat = j := Option.some.inj h
      exact ⟨by rw [seqIndex_of h0 h1, e], by omega, by omega, h1⟩
    · rw [if_neg h1] at h; cases h
  · rw [if_neg h0] at h
    by_cases h1 : -(n : Int) ≤ i
    · rw [if_pos h1] at h
      have e : (i + n).toNat = j := Option.some.inj h
      exact ⟨by rw [seqIndex_neg (by omega) h1, e], by omega, h1, by omega⟩
    · rw [if_neg h1] at h; cases h
theorem atI_get {α : Type} {xs : List α} {i : Int} {v : α} (h : atI xs i = some v) : ∃ j, seqIndex? i xs.length = some j ∧ xs[j]? = some v ∧ j < xs.length ∧ -(xs.length : Int) ≤ i ∧ i < xs.length := by
  unfold atI at h
  cases e : ixN xs.length i with
  | none => rw [e] at h; cases h
  | some j =>
    rw [e] at h
    obtain ⟨h1, h2, h3, h4⟩ := ixN_seq e
    exact ⟨j, h1, h, h2, h3, h4⟩
theorem atI_nat {α : Type} {xs : List α} {j : Nat} {v : α} (h : xs[j]? = some v) : atI xs (j : Int) = some v := by
  have hj : j < xs.length := (List.getElem?_eq_some_iff.mp h).1
  have e : ixN xs.length (j : Int) = some j := by
    unfold ixN
    rw [if_pos (by omega), if_pos (by omega)]; simp
  unfold atI; rw [e]; exact h
/-! ### what may be subscripted -/
/-- what stands as an index of a plain subscript -/
def PlainIx (b : Expr) : Prop := ∀ o i, subscripted b false o i = operate [o, i] (getItem o i)
/-- a subscript by values -/
def IxR (X : Cx) (r : R2) : Prop :=
  ∀ (value slice : Expr) (pins : List (Addr × Obj)) (s : Shared) (σ : St) (H : Hp) (x y : V) (v u : Value) (Q : VK), Inv X pins σ H s → RelV x v → RelV y u → r x y H Q →
    subscripted slice false v u = operate [v, u] (getItem v u) → wpAny (model X.prog X.w) X.A (subscriptTail value slice v u) (EP X pins σ Q) X.xe s
/-- a call of a builtin's method by values: the receiver, the arguments -/
def MtR (X : Cx) (id : String) (r : V → List V → Hp → VK → Prop) : Prop :=
  ∀ (pins : List (Addr × Obj)) (s : Shared) (σ : St) (H : Hp) (x : V) (xs : List V) (v : Value) (us : List Value) (Q : VK), Inv X pins σ H s → RelV x v → Vals xs us → r x xs H Q →
    wpAny (model X.prog X.w) X.A (call (.builtin id) (v :: us)) (EP X pins σ Q) X.xe s
section
variable {X : Cx} {a b : Expr} {ta tb : TE} {pos : Pos}
/-- a[b] -/
theorem pe_ix {r : R2} (hr : IxR X r) (ha : PE X a ta) (hb : PE X b tb) (hs : PlainIx b) : PE X (.Subscript a b pos) (tOp r ta tb) := by
  intro pins s σ H Q I h
  exact Subscript_ (binT ha hb I h fun v u s2 x y H2 I2 rx ry q => hr a b pins s2 σ H2 x y v u Q I2 rx ry q (hs _ _))

def rIxL (K : PySem.W.Frag) : R2 := fun x y H Q => ∃ p xs i v, x = .ref p ∧ y = .int i ∧ SqL K H p xs ∧ atI xs i = some v ∧ Q v H
def rIxT (K : PySem.W.Frag) : R2 := fun x y H Q => ∃ p xs i v, x = .ref p ∧ y = .int i ∧ SqT K H p xs ∧ atI xs i = some v ∧ Q v H
def rIxS : R2 := fun x y H Q => ∃ z i c, x = .str z ∧ y = .int i ∧ z.length ≤ sizeLine ∧ atI z.cps.toList i = some c ∧ Q (.str ⟨#[c]⟩) H
theorem ix_list : IxR X (rIxL X.K) := by
  intro value slice pins s σ H x y v u Q I rx ry h hs
  obtain ⟨p, xs, i, z, rfl, rfl, hq, he, q⟩ := h
  cases rx
  obtain ⟨t, rfl⟩ := ry
  obtain ⟨its, r, pl, hz⟩ := I.list hq
  obtain ⟨j, h1, h2, h3, h4, h5⟩ := atI_get he
  obtain ⟨w, ew, rw'⟩ := r.get h2
  have hl := r.length
  have hn := line63
  have fin : EP X pins σ Q w s := ⟨z, H, I, rw', q⟩
  by_cases h0 : 0 ≤ i
  · have hj : i.toNat = j := by
      rw [seqIndex_of h0 h5] at h1
      exact Option.some.inj h1
    exact item_listR pl.isList h0 (by omega) (by rw [hj]; simpa using ew) fin hs
  · have hj : (i + (its.toArray.size : Int)).toNat = j := by
      rw [seqIndex_neg (by omega) h4] at h1
      rw [List.size_toArray, ← hl]
      exact Option.some.inj h1
    exact subscriptTail_builtinR (x := w) pl.isList.typeIs slot_list_getitem.lookup
      (wpAny_getItem_list_neg (Q := fun r s' => r = w ∧ EP X pins σ Q r s') pl.isList (by omega) (by rw [List.size_toArray] <;> omega) (by omega) (by rw [hj]; simpa using ew) ⟨rfl, fin⟩) hs
theorem ix_tup : IxR X (rIxT X.K) := by
  intro value slice pins s σ H x y v u Q I rx ry h hs
  obtain ⟨p, xs, i, z, rfl, rfl, hq, he, q⟩ := h
  cases rx
  obtain ⟨t, rfl⟩ := ry
  obtain ⟨its, r, pl, hz⟩ := I.tuple hq
  obtain ⟨j, h1, h2, h3, h4, h5⟩ := atI_get he
  obtain ⟨w, ew, rw'⟩ := r.get h2
  have hl := r.length
  have hn := line63
  have fin : EP X pins σ Q w s := ⟨z, H, I, rw', q⟩
  exact subscriptTail_builtinR (x := w) pl.typeIs slot_tuple_getitem.lookup
    (getItem_tuple (j := j) (Q := fun r s' => r = w ∧ EP X pins σ Q r s') pl (by omega) (by omega) (by rw [List.size_toArray, ← hl]; exact h1) (by simpa using ew) ⟨rfl, fin⟩) hs
/-- list, tuple or str -/
def rIx (K : PySem.W.Frag) : R2 := fun x y H Q => rIxL K x y H Q ∨ rIxT K x y H Q ∨ rIxS x y H Q
/-! ### xs[i] = v, any sign -/
def rSetL : V → V → V → Hp → (Hp → Prop) → Prop := fun o i v H Q => ∃ p xs k j, o = .ref p ∧ i = .int k ∧ H p = some (.lst xs) ∧ ixN xs.length k = some j ∧ Q (upd H p (.lst (xs.set j v)))
/-! ### slices -/
theorem slice_bounds (lo hi : Option Int) (n : Nat) : (sliceBounds lo hi none n).1 = ((HT.sIx n 0 lo : Nat) : Int) ∧ (sliceBounds lo hi none n).2.1 = ((HT.sIx n n hi : Nat) : Int) ∧ (sliceBounds lo hi none n).2.2 = 1 := by
  refine ⟨?_, ?_, rfl⟩
  · cases lo with
    | none => simp [sliceBounds, HT.sIx]
    | some i =>
      simp only [sliceBounds, HT.sIx, Option.getD_none, show (1 : Int) > 0 by decide, if_true]
      by_cases h : i < 0
      · simp only [h, if_true] <;> omega
      · simp only [h, if_false] <;> omega
  · cases hi with
    | none => simp [sliceBounds, HT.sIx]
    | some i =>
      simp only [sliceBounds, HT.sIx, Option.getD_none, show (1 : Int) > 0 by decide, if_true]
      by_cases h : i < 0
      · simp only [h, if_true] <;> omega
      · simp only [h, if_false] <;> omega
theorem slicePick_cut (its : List Value) (lo hi : Option Int) : slicePick its.toArray lo hi none = ((its.drop (HT.sIx its.length 0 lo)).take (HT.sIx its.length its.length hi - HT.sIx its.length 0 lo)).toArray := by
  obtain ⟨h1, h2, h3⟩ := slice_bounds lo hi its.toArray.size
  unfold slicePick
  rw [h1, h2, h3]
  simp only [sliceRange_one, pick_run, List.size_toArray] <;> rfl
/-- xs[lo:hi] of a list: a new list -/
def rSlL (K : PySem.W.Frag) : V → Option Int → Option Int → Hp → VK → Prop := fun x lo hi H Q => ∃ a xs, x = .ref a ∧ SqL K H a xs ∧ ∀ p, H p = none → Q (.ref p) (upd H p (.lst (cutV xs lo hi)))
theorem sl_list : SlR X (rSlL X.K) := by
  intro pins s σ H x v vl vu lo hi sl Q I rx hs pl pu h
  obtain ⟨a, xs, rfl, hx, q⟩ := h
  cases rx
  obtain ⟨its, r, ht, hz⟩ := I.list hx
  have hlen := r.length
  refine ⟨"list", _, slot_list_getitem.lookup, ht.isList.typeIs, ?_⟩
  refine wpAny_getItem_list_slice ht.isList hs pl pu .none (by simp) ?_ (by rw [List.size_toArray] <;> omega)
  rw [slicePick_cut, ← hlen]
  refine ⟨.ref s.heap.objs.size, _, I.laid (t' := s.toks) (o := .lst (cutV xs lo hi)) (fun b ob q => Heap.get?_push_of_some _ q) (Nat.le_refl _) ?_, rfl, q _ (I.hok.fresh (Nat.le_refl _))⟩
  exact ⟨Nat.le_trans (cutV_length xs lo hi) hz, _, 0, (r.drop (HT.sIx xs.length 0 lo)).take (HT.sIx xs.length xs.length hi - HT.sIx xs.length 0 lo), Heap.get?_push_size _ rfl⟩

/-! ### in, not in: flat items -/
def flatV : V → Bool
  | .non => true
  | .bl _ => true
  | .int _ => true
  | .str _ => true
  | _ => false
/-- == of flat values -/
def eqV : V → V → Bool
  | .non, .non => true
  | .bl a, .bl b => a == b
  | .bl a, .int b => (if a then 1 else 0) == b
  | .int a, .bl b => a == (if b then 1 else 0)
  | .int a, .int b => a == b
  | .str a, .str b => a == b
  | _, _ => false
/-- the items' answers, read off the values (a value's own answer does not lean on its token) -/
def eqU (x : V) (u : Value) : Bool := match u with
  | .none => eqV .non x
  | .bool b => eqV (.bl b) x
  | .int i _ => eqV (.int i) x
  | .str z _ => eqV (.str z) x
  | _ => false
def inV (x : V) (xs : List V) : Bool := xs.any fun y => eqV y x
/-- x in a list or tuple of flat items -/
def rIn (K : PySem.W.Frag) (neg : Bool) : R2 := fun x y H Q => ∃ p xs, y = .ref p ∧ (SqL K H p xs ∨ SqT K H p xs) ∧ flatV x = true ∧ xs.all flatV = true ∧ Q (.bl (if neg then !inV x xs else inV x xs)) H
/-! ### len, list(x), tuple(x) of any list or tuple that is read -/
theorem call_len_seq : CallR X (.builtin "len") (fun xs H Q => ∃ p ys, xs = [.ref p] ∧ (SqL X.K H p ys ∨ SqT X.K H p ys) ∧ Q (.int ys.length) H) := by
  intro pins s σ H xs us Q I r h
  obtain ⟨p, ys, rfl, hq, q⟩ := h
  obtain ⟨u, rfl, rx⟩ := vals1 r
  cases rx
  have hn := line63
  rcases hq with hq | hq
  · obtain ⟨its, r', pl, hz⟩ := I.list hq
    have hlen := r'.length
    exact Calls.call_len_list pl.isList (by simp only [List.size_toArray] <;> omega) ⟨.int ys.length, H, I.tok _, ⟨s.toks + 1, by rw [List.size_toArray, hlen]⟩, q⟩
  · obtain ⟨its, r', pl, hz⟩ := I.tuple hq
    have hlen := r'.length
    exact len_tuple pl (by simp only [List.size_toArray] <;> omega) ⟨.int ys.length, H, I.tok _, ⟨s.toks + 1, by rw [List.size_toArray, hlen]⟩, q⟩
theorem call_list_of : CallR X (.type "list") (fun xs H Q => ∃ p ys, xs = [.ref p] ∧ (SqL X.K H p ys ∨ SqT X.K H p ys) ∧ ∀ l, H l = none → Q (.ref l) (upd H l (.lst ys))) := by
  intro pins s σ H xs us Q I r h
  obtain ⟨p, ys, rfl, hq, q⟩ := h
  obtain ⟨u, rfl, rx⟩ := vals1 r
  cases rx
  have fin : ∀ (its : List Value), Vals ys its → ys.length ≤ sizeLine → ∀ (h' : Heap) (c' : Nat), (∀ b o', s.heap.get? b = some o' → h'.get? b = some o') →
      h'.get? s.heap.objs.size = some { cls := .type "list", dict := none, data := .seq its.toArray c', slots := #[] } → EP X pins σ Q (.ref s.heap.objs.size) { s with heap := h' } := fun its r' hz h' c' kp e =>
    ⟨.ref s.heap.objs.size, _, I.laid (t' := s.toks) kp (Nat.le_refl _) (show ObjOk X.prog X.w _ h' _ (.lst ys) from ⟨hz, its, c', r', e⟩), rfl, q _ (I.hok.fresh (Nat.le_refl _))⟩
  rcases hq with hq | hq
  · obtain ⟨its, r', pl, hz⟩ := I.list hq
    have hlen := r'.length
    obtain ⟨o, ho, hc, n, hd⟩ := pl.isList
    exact call_list_seq p (.inl rfl) ho hc hd (fun h' c' kp e => fin its r' hz h' c' kp e) (by simp only [List.size_toArray] <;> omega)
  · obtain ⟨its, r', pl, hz⟩ := I.tuple hq
    have hlen := r'.length
    obtain ⟨o, ho, hc, n, hd⟩ := pl
    exact call_list_seq p (.inr rfl) ho hc hd (fun h' c' kp e => fin its r' hz h' c' kp e) (by simp only [List.size_toArray] <;> omega)
/-! ### the call of a builtin's method: o.m(..) -/
/-- the value is of that builtin type -/
def tyV (K : PySem.W.Frag) (T : String) (x : V) (H : Hp) : Prop := match x with
  | .str _ => T = "str"
  | .int _ => T = "int"
  | .ref p => (T = "list" ∧ ∃ xs, SqL K H p xs) ∨ (T = "tuple" ∧ ∃ o, K.lookup p = some o ∧ o.cls = .type "tuple" ∧ o.dict = none) ∨
      (T = "dict" ∧ ((∃ kvs, H p = some (.dK kvs)) ∨ ∃ kvs, H p = some (.dT kvs))) ∨ (T = "set" ∧ ∃ S n, H p = some (.set S n))
  | _ => False
theorem tyV_is {pins : List (Addr × Obj)} {σ : St} {H : Hp} {s : Shared} {T : String} {x : V} {v : Value} (I : Inv X pins σ H s) (r : RelV x v) (ty : tyV X.K T x H) :
    s.TypeIs v T ∧ ∀ a, v = .ref a → ∃ ob, s.heap.get? a = some ob ∧ ob.dict = none := by
  cases x with
  | str z =>
    obtain ⟨t, rfl⟩ := r
    cases (show T = "str" from ty)
    exact ⟨typeIs_str s z t, fun _ e => nomatch e⟩
  | int i =>
    obtain ⟨t, rfl⟩ := r
    cases (show T = "int" from ty)
    exact ⟨typeIs_int s i t, fun _ e => nomatch e⟩
  | ref p =>
    cases r
    rcases ty with ⟨rfl, xs, hq⟩ | ⟨rfl, o, hk, hc, hd⟩ | ⟨rfl, hk⟩ | ⟨rfl, S, n, hk⟩
    · obtain ⟨its, _, pl, _⟩ := I.list hq
      refine ⟨pl.isList.typeIs, fun a e => ?_⟩
      cases e
      obtain ⟨o, n, e, c, hd, _⟩ := pl
      exact ⟨o, e, hd⟩
    · refine ⟨⟨o, I.kIn p o hk, hc⟩, fun a e => ?_⟩
      cases e
      exact ⟨o, I.kIn _ o hk, hd⟩
    · have z : ∃ o, s.heap.get? p = some o ∧ o.ExactDict := by
        rcases hk with ⟨kvs, hk⟩ | ⟨kvs, hk⟩
        · obtain ⟨_, _, _, _, o, _, _, e, ex, _⟩ := I.hok p _ hk
          exact ⟨o, e, ex⟩
        · obtain ⟨_, _, _, _, o, _, _, e, ex, _⟩ := I.hok p _ hk
          exact ⟨o, e, ex⟩
      obtain ⟨o, e, ex⟩ := z
      refine ⟨⟨o, e, ex.1⟩, fun a e2 => ?_⟩
      cases e2
      exact ⟨o, e, ex.2.1⟩
    · obtain ⟨o, _, _, _, e, ex, _⟩ := I.hok p _ hk
      refine ⟨⟨o, e, ex.1⟩, fun a e2 => ?_⟩
      cases e2
      exact ⟨o, e, ex.2.1⟩
  | _ => exact False.elim ty
def tBM0 (K : PySem.W.Frag) (T : String) (r : V → List V → Hp → VK → Prop) (to : TE) : TE := fun σ H Q => to σ H fun x H1 => tyV K T x H1 ∧ r x [] H1 Q
def tBM (K : PySem.W.Frag) (T : String) (r : V → List V → Hp → VK → Prop) (to : TE) (t : TA) : TE := fun σ H Q => to σ H fun x H1 => tyV K T x H1 ∧ t σ H1 fun xs H2 => r x xs H2 Q
variable {o e : Expr} {es : List Expr} {to : TE} {t : TA} {name : Str} {apos cpos : Pos} {T id : String} {r : V → List V → Hp → VK → Prop}
theorem pe_bm (pa : PlainAttrs T) (slot : Slot T name id) (hty : typeOf (.builtin id) = pure (.type "method_descriptor")) (hm : MtR X id r) (ho : PE X o to) (ha : PA X (e :: es) t)
    (hbase : attributeBase o name X.env (eval o X.env) = eval o X.env := by rfl)
    (hfew : ((backTo cpos (starEach (e :: es) X.env)).all (fun x => !x.1) && (backToKw cpos (keywordEach [] X.env)).all (fun x => x.1.isSome)
      && decide ((e :: es).length + ([] : List Keyword).length + (if ([] : List Keyword).isEmpty then 0 else 1) < 30)) = true := by rfl)
    (hline : (apos.endLine == cpos.line) = true := by rfl) (hs : starEach (e :: es) X.env = (false, eval e X.env) :: starEach es X.env := by rfl) (hplain : (backTo cpos (starEach es X.env)).any (·.1) = false := by rfl) :
    PE X (.Call (.Attribute o name apos) (e :: es) [] cpos) (tBM X.K T r to t) := by
  intro pins s σ H Q I h
  refine wpAny_Call_method_late hbase hfew hline rfl (thn (ho pins s σ H _ I h) fun v s1 ⟨x, H1, I1, r1, ty, q1⟩ => ?_)
  obtain ⟨h1, h2⟩ := tyV_is I1 r1 ty
  refine ⟨T, id, pa, slot, hty, h1, h2, ?_⟩
  have hA := ha cpos pins s1 σ H1 _ I1 q1
  rw [hs] at hA ⊢
  refine Calls.callWith_builtin (by show (false || (backTo cpos (starEach es X.env)).any (·.1)) = false; rw [hplain] <;> rfl) (Calls.evalArgs_plain ?_)
  exact thn hA fun us s2 ⟨vs, H2, I2, r2, q2⟩ => hm pins s2 σ H2 x vs v us Q I2 r1 r2 q2
/- xs.append(e), list.index on a module's tuple .. are MtR facts of 06m -/
end
end L2

namespace L2
open PySem PySem.Spec PyProof.Rows

def MtM (X : Cx) (id : String) (r : V → List V → Hp → VK → Prop) : Prop :=
  ∀ (pins : List (Addr × Obj)) (s : Shared) (σ : St) (H : Hp) (x : V) (xs : List V) (v : Value) (us : List Value) (Q : VK), Inv X pins σ H s → RelV x v → Vals xs us → r x xs H Q →
    wpAny (model X.prog X.w) X.A (call (.builtin id) (v :: us)) (EP X pins σ Q) X.xe s

/-! ### lists of values -/
theorem Vals.one : ∀ {x : V} {us : List Value}, Vals [x] us → ∃ u, us = [u] ∧ RelV x u
  | _, _, .cons r .nil => ⟨_, rfl, r⟩
theorem Vals.two : ∀ {x y : V} {us : List Value}, Vals [x, y] us → ∃ u v, us = [u, v] ∧ RelV x u ∧ RelV y v
  | _, _, _, .cons r (.cons q .nil) => ⟨_, _, rfl, r, q⟩
section
variable {X : Cx} {pins : List (Addr × Obj)} {σ : St} {H : Hp} {s : Shared} {l b : Addr} {xs ys zs : List V}

/-! ### the two steps: a tracked list is rewritten, a new list is laid -/
theorem Inv.lset {its its' : List Value} {n : Nat} {f : Array Value → Array Value} {t' : Nat} (I : Inv X pins σ H s) (hH : H l = some (.lst xs))
    (e : s.heap.get? l = some { cls := .type "list", data := .seq its.toArray n }) (hf : f its.toArray = its'.toArray) (hv : Vals ys its') (hz : ys.length ≤ sizeLine) :
    Inv X pins σ (upd H l (.lst ys)) { s with heap := s.heap.update l (Obj.mapSeq f), toks := t' } := by
  have q := PySem.IsL.update e f
  rw [hf] at q
  refine I.write (x := l) (e := l) (by rw [hH]; exact trivial) (.inl rfl) (fun b' u hb hu => (Heap.get?_update_other s.heap (Obj.mapSeq f) (Ne.symm hb)).trans hu) ⟨_, q⟩ ?_
  exact ⟨hz, its', _, hv, q⟩
theorem Inv.lnew {its : List Value} {t' : Nat} (I : Inv X pins σ H s) (hv : Vals ys its) (hz : ys.length ≤ sizeLine) :
    Inv X pins σ (upd H s.heap.objs.size (.lst ys)) { s with heap := s.heap.push { cls := .type "list", data := .seq its.toArray }, toks := t' } :=
  I.laid (fun _ _ q => Heap.get?_push_of_some _ q) (Nat.le_refl _) ⟨hz, its, 0, hv, Heap.get?_push_size _ rfl⟩
theorem Inv.fresh (I : Inv X pins σ H s) : H s.heap.objs.size = none := I.hok.fresh (Nat.le_refl _)
theorem Inv.lstM (I : Inv X pins σ H s) (hH : H l = some (.lst xs)) : xs.length ≤ sizeLine ∧ ∃ (its : List Value) (n : Nat), Vals xs its ∧ xs.length = its.length ∧ s.heap.get? l = some { cls := .type "list", data := .seq its.toArray n } := by
  obtain ⟨z, its, n, r, e⟩ := I.hok l _ hH
  exact ⟨z, its, n, r, r.length, e⟩

theorem notLongL {n : Nat} (h : n ≤ sizeLine) : Builtin.List.listTooLong n = false := by
  unfold Builtin.List.listTooLong
  exact decide_eq_false (by omega)
end

section
variable {X : Cx}

/-! ### methods -/
def rAppend : V → List V → Hp → VK → Prop := fun x vs H Q => ∃ l xs y, x = .ref l ∧ vs = [y] ∧ H l = some (.lst xs) ∧ xs.length < sizeLine ∧ Q .non (upd H l (.lst (xs ++ [y])))
theorem mt_append : MtM X "list.append" rAppend := by
  intro pins s σ H x vs v us Q I rx rv h
  obtain ⟨l, xs, y, rfl, rfl, hH, hz, q⟩ := h
  cases rx
  obtain ⟨u, rfl, ru⟩ := rv.one
  obtain ⟨z, its, n, r, hl, e⟩ := I.lstM hH
  refine call_meets F.slot_list_append ⟨_, e, rfl⟩ F.entry_list_append (F.args_list_append_2 _ _) (PySem.list_append l its.toArray n u (by rw [List.size_toArray]; omega)) ⟨e, ?_⟩
  refine ⟨.non, _, I.lset (its' := its ++ [u]) hH e (by simp) (r.append (.cons ru .nil)) ?_, rfl, q⟩
  rw [List.length_append, List.length_singleton]
  omega

def rExtend : V → List V → Hp → VK → Prop := fun x vs H Q => ∃ l b xs zs, x = .ref l ∧ vs = [.ref b] ∧ H l = some (.lst xs) ∧ H b = some (.lst zs) ∧ xs.length + zs.length ≤ sizeLine ∧ Q .non (upd H l (.lst (xs ++ zs)))
theorem mt_extend : MtM X "list.extend" rExtend := by
  intro pins s σ H x vs v us Q I rx rv h
  obtain ⟨l, b, xs, zs, rfl, rfl, hH, hB, hz, q⟩ := h
  cases rx
  obtain ⟨u, rfl, ru⟩ := rv.one
  cases ru
  obtain ⟨z, its, n, r, hl, e⟩ := I.lstM hH
  obtain ⟨z2, its2, n2, r2, hl2, e2⟩ := I.lstM hB
  have hsz : its.toArray.size + its2.toArray.size ≤ sizeLine := by rw [List.size_toArray, List.size_toArray]; omega
  have hlong : ¬ (!its.toArray.isEmpty && Builtin.List.listTooLong (its.toArray.size + its2.toArray.size)) = true := by
    rw [notLongL hsz, Bool.and_false]
    exact Bool.false_ne_true
  refine call_meets F.slot_list_extend ⟨_, e, rfl⟩ F.entry_list_extend (F.args_list_extend_2 _ _)
    (AutoSeq1.list_extend_list_list_0 l its.toArray n b its2.toArray n2 hlong (by rw [List.size_toArray]; omega) (by omega)) ⟨e, e2, ?_⟩
  refine ⟨.non, _, I.lset (its' := its ++ its2) hH e (by simp) (r.append r2) ?_, rfl, q⟩
  rw [List.length_append]
  omega

def rPop : V → List V → Hp → VK → Prop := fun x vs H Q => ∃ l xs y, x = .ref l ∧ vs = [] ∧ H l = some (.lst xs) ∧ xs[xs.length - 1]? = some y ∧ Q y (upd H l (.lst xs.dropLast))
def rPopAt : V → List V → Hp → VK → Prop := fun x vs H Q => ∃ l xs i k y, x = .ref l ∧ vs = [.int i] ∧ H l = some (.lst xs) ∧ -(2 ^ 63) ≤ i ∧ i < 2 ^ 63 ∧ seqIndex? i xs.length = some k ∧ xs[k]? = some y ∧ Q y (upd H l (.lst (xs.eraseIdx k)))
def rReverse : V → List V → Hp → VK → Prop := fun x vs H Q => ∃ l xs, x = .ref l ∧ vs = [] ∧ H l = some (.lst xs) ∧ Q .non (upd H l (.lst xs.reverse))
def rClear : V → List V → Hp → VK → Prop := fun x vs H Q => ∃ l xs, x = .ref l ∧ vs = [] ∧ H l = some (.lst xs) ∧ Q .non (upd H l (.lst []))
/-! ### list + list, list += list, list * int -/
def rCat : R2 := fun x y H Q => ∃ l b xs zs, x = .ref l ∧ y = .ref b ∧ H l = some (.lst xs) ∧ H b = some (.lst zs) ∧ xs.length + zs.length ≤ sizeLine ∧ ∀ p, H p = none → Q (.ref p) (upd H p (.lst (xs ++ zs)))
theorem op_cat : OpR X (binaryOp .Add) rCat := by
  intro pins s σ H x y v u Q I rx ry h
  obtain ⟨l, b, xs, zs, rfl, rfl, hH, hB, hz, q⟩ := h
  cases rx
  cases ry
  obtain ⟨z, its, n, r, hl, e⟩ := I.lstM hH
  obtain ⟨z2, its2, n2, r2, hl2, e2⟩ := I.lstM hB
  refine PySem.P.add_list e e2 ?_ (by rw [List.size_toArray, List.size_toArray]; omega)
  have ea : its.toArray ++ its2.toArray = (its ++ its2).toArray := by simp
  rw [ea]
  exact ⟨.ref _, _, I.lnew (t' := s.toks) (r.append r2) (by rw [List.length_append]; omega), rfl, q _ I.fresh⟩
/-- a list times an int (a negative one is nothing) -/
def rRep : R2 := fun x y H Q => ∃ l k xs, x = .ref l ∧ y = .int k ∧ H l = some (.lst xs) ∧ -(2 ^ 63) ≤ k ∧ k < 2 ^ 63 ∧ xs.length * k.toNat ≤ sizeLine ∧
  ∀ p, H p = none → Q (.ref p) (upd H p (.lst (List.replicate k.toNat xs).flatten))
/-! ### del xs[i] -/
end

/-! ### xs[a:b] = ys -/
section
variable {prog : Program} {w : World} {A : Around} {E : Value → Shared → Prop} {s : Shared}
end

section
variable {X : Cx}
end
end L2

namespace Att
open PySem PySem.W PySem.Calls PyProof.Rows

/-! ### the script -/
theorem ints_of_wellAll {P : Params} {h : Heap} : ∀ (ns : List Int) (vs : List Value), WellAll P h vs (ns.map WData.int) → IntsAre vs ns := by
  intro ns
  induction ns with
  | nil =>
    intro vs w
    rw [List.map_nil] at w
    cases w
    exact .nil
  | cons n ns ih =>
    intro vs w
    rw [List.map_cons] at w
    cases w with
    | cons a b =>
      cases a
      exact .cons _ _ (ih _ b)

theorem script_of {l : OpenLaw} {n : Nat} (hn : l.most = some n) {P : Params} {h : Heap} {args : List WData} {vals : List Value}
    (hpre : l.row.toRowW.claim.pre args = true) (hwl : WellAll P h vals args) :
    ∃ a vs ns, vals = [Value.ref a] ∧ args = [WData.list (ns.map WData.int)] ∧ h.get? a = some { cls := .type "list", data := .seq vs.toArray } ∧ IntsAre vs ns ∧ ns.length ≤ n := by
  have hsh : WShape.hasAll [] args [.list .int] = true := (pre_splitW hpre).1
  have hc : l.pre.holds [] { args := args } = true := (pre_splitW hpre).2
  obtain ⟨d, r, rfl, h1, h2⟩ := hasAllW_cons hsh
  obtain rfl := hasAllW_nil h2
  obtain ⟨xs, rfl, h3⟩ := hasW_list h1
  obtain ⟨ns, rfl⟩ := items_int h3
  have hlen : ns.length ≤ n := by
    unfold OpenLaw.pre at hc
    have h4 : (WTm.not (.lt (.lit (.int (n : Int))) (.len (.arg 0)))).holds [] { args := [.list (ns.map .int)] } = true := by
      have h4 := (holds_andW hc).1
      rw [hn] at h4
      exact h4
    have h5 := condW_of h4 (w_not (w_lt w_lit (w_len_list (w_arg rfl))))
    rw [List.length_map] at h5
    refine Nat.le_of_not_lt fun q => ?_
    have q' : (n : Int) < ((ns.length : Nat) : Int) := by omega
    first
      | (rw [decide_eq_true q'] at h5; exact absurd h5 (by decide))
      | (simp at h5; omega)
  cases hwl with
  | cons w1 w2 =>
    cases w2
    cases w1 with
    | list ho hall => exact ⟨_, _, ns, rfl, rfl, ho, ints_of_wellAll ns _ hall, hlen⟩

theorem post_true (l : OpenLaw) (args : List WData) : l.row.toRowW.claim.post args (.bool true) args = true :=
  postW_of (r := l.row.toRowW) (X := (true == true))
    (show WShape.has [] (.bool true) .bool = true by first | rfl | decide | simp [WShape.has, WShape.arms, WShape.armsAll])
    (show (WTm.eq .res (.lit (.bool true))).value [] { args := args, res := some (.bool true), after := args } = some (.bool (true == true)) from w_eq_bool (w_res rfl) w_lit) rfl

/-! ### the attachment: holds_open's last premise (the goal 'hc' behind k_head) from a wpAny of the law's body -/
/-- the same from a codeAny of the CALL (for a layer whose function contracts speak of calls) -/
theorem attach_call {l : OpenLaw} {n : Nat} {q : Program} {loose : List Str} {XP : (Str → Option Value) → Heap → Prop} {YP : World → Heap → Prop} {d : DefRec}
    (hn : l.most = some n) (hdf : d.params.defaults = [])
    (call : ∀ (w : World) (s₀ s₁ : Shared) (mg mb : Str → Option Value) (fa : Addr) (o : Obj) (pm cd doc : Value) (a : Addr) (vs : List Value) (ns : List Int),
      Ground q loose [] XP w s₀ mg mb s₁.heap → YP w s₁.heap →
      s₁.heap.get? fa = some o → o.data = .func (docDef d.name d.params d.body d.scope pm cd doc) → s₁.heap.CodeRec cd d.name → mg d.name = some (.ref fa) →
      s₁.heap.get? a = some { cls := .type "list", data := .seq vs.toArray } → IntsAre vs ns → ns.length ≤ n → s₁.gens = #[] →
      codeAny (model l.prog w) callerA (.call (.ref fa) ⟨[.ref a], []⟩) (fun r s' => r = .ok (.ret (.bool true)) ∧ OldK s₁.heap s'.heap ∧ s'.os = s₁.os ∧ AllBare s'.gens) s₁) :
    WalkO q loose XP YP l.row.toRowW d [] (fun f vs => PySem.call f vs) := by
  intro w s₀ s₁ mg mb G Y fa o pm cd doc dV kV ho hd hcd hD hmg hg args vals as hpre hlay hrd hwl hlo
  obtain rfl : dV = .none := Dflts.none hD hdf
  obtain rfl : kV = .none := Dflts.noKw hD
  obtain ⟨a, vs, ns, rfl, rfl, hobj, hints, hlen⟩ := script_of hn hpre hwl
  refine enter_call (codeAny_mono (call w s₀ s₁ mg mb fa o pm cd doc a vs ns G Y ho (fd_plain hd) hcd hmg hobj hints hlen hg) fun r s' hq => ?_)
  obtain ⟨rfl, h2, h3, h4⟩ := hq
  exact ⟨.inl ⟨.bool true, .bool true, [], rfl, fun _ => rfl, .bool true, post_true l _, fun _ => ⟨List.Pairwise.nil, fun _ hm => (nomatch hm)⟩⟩, h2, h3, h4⟩

/-! ### rules over ANY heap (no ledger) from facts about the written part K: the library's own take a ledger (News) for what they write -/
section
variable {prog : Program} {w : World} {A : Around} {E : Value → Shared → Prop} {s : Shared} {K : Frag}

/-! the whole heap as the ledger: makes every rule that writes through a ledger a rule over any heap -/
def noObjs (h : Heap) : Heap := { h with objs := #[] }
def ledger (h : Heap) (L d : Addr) : List (Addr × Obj) := (List.range h.objs.size).filterMap fun a => if a = L ∨ a = d then none else (h.get? a).map fun o => (a, o)
end
end Att

namespace L2
open PySem PySem.Spec PyProof.Rows

theorem vals_ints : ∀ {vs : List Value} {ns : List Int}, IntsAre vs ns → Vals (ns.map V.int) vs
  | _, _, .nil => .nil
  | _, _, .cons n t h => .cons ⟨t, rfl⟩ (vals_ints h)

/-- nothing is tracked but the script, known to the object (or it is an object of the module) -/
def Only (H : Hp) : Prop := ∀ b, H b = none ∨ ∃ o xs, H b = some (.frz o (.lst xs))

/-- THE HEAD: the law's promise, at the heap behind the top. F, the promise of the law's def, may use that base is part of the heap (so K.In base, base.Ns mainGlobals mg stand in Mod) -/
theorem law_call {P : Program} {w : World} {K : PySem.W.Frag} {mg mb : Str → Option Value} {CX : CXT} {k : Nat} {fa a : Addr} {fd : FuncData} {x : Str} {sp : Sp} {s₁ : Shared} {vs : List Value} {ns : List Int}
    (KX : K.In s₁.heap) (hns : s₁.heap.Ns mainGlobals mg) (hb : s₁.heap.Ns builtinsNs mb) (hbb : ∀ x : Str, x ≠ "__name__" → mb x = bootBuiltins x) (hlim : s₁.heap.NoLimit) (hg : s₁.gens = #[])
    (ha : s₁.heap.get? a = some { cls := .type "list", data := .seq vs.toArray }) (hi : IntsAre vs ns) (hl : ns.length ≤ sizeLine) (hr : Room k callerA)
    (F : ∀ base : Heap, K.In base → base.Ns mainGlobals mg → FnOk P w K mg base CX k fa fd [x] sp) (hbind : ∀ (s : Shared) (u : Value), BindsTo s fd ⟨[u], []⟩ [(x, u)])
    (hsp : ∀ H : Hp, Only H → SqL K H a (ns.map V.int) → sp [.ref a] H (fun v _ => v = .bl true) fun _ _ _ => False)
    (hCX : ∀ H e s', CX [] H s₁ (fun _ _ _ => False) e s' → False) :
    codeAny (model P w) callerA (.call (.ref fa) ⟨[.ref a], []⟩) (fun r s' => r = .ok (.ret (.bool true)) ∧ OldK s₁.heap s'.heap ∧ s'.os = s₁.os ∧ AllBare s'.gens) s₁ := by
  have rv := vals_ints hi
  have lenV := hi.length
  -- from an abstract heap in which nothing but the script may be tracked
  have core : ∀ H : Hp, Only H → SqL K H a (ns.map V.int) → HOk P w H s₁.heap → (∀ b, H b ≠ none → b = a) → (H a ≠ none → K.lookup a = none) →
      codeAny (model P w) callerA (.call (.ref fa) ⟨[.ref a], []⟩) (fun r s' => r = .ok (.ret (.bool true)) ∧ OldK s₁.heap s'.heap ∧ s'.os = s₁.os ∧ AllBare s'.gens) s₁ := by
    intro H hO hS hok hA hK
    have base_of : ∀ {b : Addr} {o : Obj}, s₁.heap.get? b = some o → H b = none → (hidT s₁.heap H).get? b = some o := fun e n => hidT_get e n
    have noA : ∀ {b : Addr} {o : Obj} {es : Array DictEntry} {ep : Nat}, s₁.heap.get? b = some o → o.data = .dict es ep → H b = none := fun {b o es ep} e d => by
      cases q : H b with
      | none => rfl
      | some u =>
        have e' : b = a := hA b (by rw [q]; simp)
        subst e'
        rw [ha] at e; cases e
        have d' : Data.seq vs.toArray _ = Data.dict es ep := d
        cases d'
    have nsK : ∀ {b : Addr} {m : Str → Option Value}, s₁.heap.Ns b m → (hidT s₁.heap H).Ns b m := fun {b m} ⟨o, es, ep, e, d, r⟩ => ⟨o, es, ep, base_of e (noA e d), d, r⟩
    have hKb : K.In (hidT s₁.heap H) := fun b o e => base_of (KX b o e) (by
      cases q : H b with
      | none => rfl
      | some u =>
        have e' : b = a := hA b (by rw [q]; simp)
        subst e'
        rw [hK (by rw [q]; simp)] at e; cases e)
    have hM : Mod K mg (hidT s₁.heap H) := ⟨hKb, nsK hns, ⟨mb, nsK hb, hbb⟩, let ⟨mc, h1, h2⟩ := hlim; ⟨mc, nsK h1, h2⟩⟩
    have e0 : Env0 P w K mg (hidT s₁.heap H) callerA [] s₁ H := ⟨rfl, hM, fun b o e => of_hidT e, Nat.le_of_eq (hidT_size _ _), trivial, fun b hb => absurd (show b ∈ ([] : List Addr) from hb) (by simp), hok, .of_eq hg⟩
    refine codeAny_mono ((F _ hKb (nsK hns)).run callerA [] s₁ H ⟨[.ref a], []⟩ [.ref a] [.ref a] _ _ hr e0 (hbind s₁ (.ref a)) (.cons rfl .nil) (hsp H hO hS)) fun r s' h => ?_
    cases r with
    | error e => exact (hCX H e s' h).elim
    | ok fl =>
      cases fl with
      | next => exact False.elim h
      | brk => exact False.elim h
      | cont => exact False.elim h
      | ret u =>
        obtain ⟨v, H', os, bare, un, hok', r', q⟩ := h
        have q' : v = .bl true := q
        subst q'
        obtain rfl : u = Value.bool true := r'
        refine ⟨rfl, OldK.of_keep fun b o e => ?_, os, bare⟩
        cases q : H b with
        | none => exact un.keep b o e q (by intro z; exact absurd (show b ∈ ([] : List Addr) from z) (by simp)) (by simp)
        | some u =>
          rcases hO b with z | ⟨ob, xs, z⟩
          · rw [q] at z; cases z
          · have z2 := un.frzs b ob _ z
            obtain ⟨e1, _⟩ := hok b _ z
            obtain ⟨e2, _⟩ := hok' b _ z2
            rw [e] at e1; cases e1
            exact e2
  cases hk : K.lookup a with
  | some o =>
    -- the script is one of the module's own objects
    have e := KX a o hk
    rw [ha] at e
    cases e
    refine core (fun _ => none) (fun _ => .inl rfl) (.inr ⟨_, vs.toArray, _, hk, rfl, rfl, rfl, by rw [List.size_toArray, lenV]; exact hl, by simpa using rv⟩) (fun b u z => by have z' : (none : Option HO) = some u := z; cases z') (fun b z => absurd rfl z) fun z => absurd rfl z
  | none =>
    refine core (fun b => if b = a then some (.frz { cls := .type "list", data := .seq vs.toArray } (.lst (ns.map V.int))) else none) (fun b => ?_) (.inl (.inr ⟨{ cls := .type "list", data := .seq vs.toArray }, if_pos rfl⟩)) (fun b u z => ?_) (fun b z => ?_) fun _ => hk
    · by_cases hb : b = a
      · exact .inr ⟨_, _, if_pos hb⟩
      · exact .inl (if_neg hb)
    · by_cases hb : b = a
      · have z' := (if_pos hb).symm.trans z
        cases z'
        subst hb
        exact ⟨ha, by rw [List.length_map]; exact hl, vs, _, rv, ha⟩
      · have z' := (if_neg hb).symm.trans z
        cases z'
    · by_cases hb : b = a
      · exact hb
      · exact absurd (if_neg hb) z
end L2

namespace L2
open PySem PySem.Spec PyProof.Rows

abbrev KOf {K : PySem.W.Frag} {h : Heap} (_ : K.In h) : PySem.W.Frag := K

/-- the goal that k_head leaves (case hc), from the law's promise. F gives the function object fd (K's own) once, then the promise over every base -/
theorem walk_of {l : PySem.W.OpenLaw} {n k : Nat} {q : Program} {loose : List Str} {XP : (Str → Option Value) → Heap → Prop} {YP : World → Heap → Prop} {d : DefRec} {K : Params → PySem.W.Frag} {CX : World → CXT} {sp : World → Sp} {x : Str}
    (hn : l.most = some n) (hn2 : n ≤ sizeLine) (hdf : d.params.defaults = []) (hr : Room k callerA)
    (hY : ∀ (w : World) (h : Heap), YP w h → (K w.params).In h)
    (F : ∀ (w : World) (mg : Str → Option Value) (fa : Addr) (h : Heap), (K w.params).In h → h.Ns mainGlobals mg → mg d.name = some (.ref fa) →
      ∃ fd : FuncData, (∀ (s : Shared) (u : Value), BindsTo s fd ⟨[u], []⟩ [(x, u)]) ∧
        ∀ base : Heap, (K w.params).In base → base.Ns mainGlobals mg → FnOk l.prog w (K w.params) mg base (CX w) k fa fd [x] (sp w))
    (hsp : ∀ (w : World) (H : Hp) (a : Addr) (ns : List Int), ns.length ≤ n → Only H → SqL (K w.params) H a (ns.map V.int) → sp w [.ref a] H (fun v _ => v = .bl true) fun _ _ _ => False)
    (hCX : ∀ (w : World) (H : Hp) (s : Shared) (e : Value) (s' : Shared), CX w [] H s (fun _ _ _ => False) e s' → False) :
    PySem.W.WalkO q loose XP YP l.row.toRowW d [] (fun f vs => PySem.call f vs) := by
  refine Att.attach_call hn hdf fun w s₀ s₁ mg mb fa o pm cd doc a vs ns G Y ho hd hcd hmg hobj hints hlen hg => ?_
  have KX := hY w _ Y
  obtain ⟨fd, hb, hF⟩ := F w mg fa _ KX G.T.g hmg
  exact law_call KX G.T.g G.T.b G.T.builtins G.T.nolimit hg hobj hints (Nat.le_trans hlen hn2) hr hF hb (fun H hO hS => hsp w H a ns hlen hO hS) fun H e s' => hCX w H s₁ e s'
end L2

/- THE LAST THEOREM (shape; LID, My.* are yours):
   My.Adr: a structure of the addresses that your layer names (classes, functions); My.Txt K t: a structure (Prop) of the equations over K;
   My.txt_mk : {K} {implicit addresses ..} (e1 : nsIn K mainGlobals "law" = some (some (.ref f))) (e2 : K.lookup f = some ⟨oc, od, .func (fnOf "law" "law" params body scope dV kV doc pm an cdv ct), sl⟩) (e3 : codeIn K cdv "law" = true) .. : ∃ t, My.Txt K t

set_option maxRecDepth 100000 in
set_option maxHeartbeats 0 in
theorem PySem.Challenge.cw_LID_holds : PySem.Challenge.rw_LID.Holds := by
  w_on; o_law; k_head; (case hw => w_witness2)
  k_fill
  refine L2.walk_of (l := PySem.Challenge.rw_LID) (n := 63) (k := 40) (x := "script") (CX := fun w => ..) (sp := fun _ => My.sp_law) rfl (by decide) rfl ⟨rfl, by decide, by decide⟩ (fun w h Y => PySem.W.kIn_of Y) ?F ?S ?C
  case F =>
    intro w mg fa h KX G hmg
    have T : ∃ t, My.Txt (L2.KOf KX) t := by
      dsimp only [L2.KOf]                          -- K must stand as «<heap const> w.params» for k_is
      refine' My.txt_mk ?e1 ?e2 ?e3 ..
      (case e1 => PySem.W.k_is)                    -- in the order: a name -> its address -> its object -> its parts
      (case e2 => PySem.W.k_is)
      ..
    obtain ⟨t, T⟩ := T
    have e0 := hmg.symm.trans (PySem.W.mg_of KX G T.law)
    cases e0                                       -- fa is the law's own address
    exact ⟨_, fun s u => .of_eq rfl, fun base kb nb => My.law_fn T kb nb⟩     -- if «.of_eq rfl» comes too early: refine' ⟨_, ?b, fun base kb nb => My.law_fn T kb nb⟩; exact fun s u => .of_eq rfl
  case S => exact fun w H a ns hl hO hS => ..
  case C => exact ..
(the tactic k_is has no namespace: write k_is) -/

/-! SHORT WORDS over the layer: a def of the text, its body, what a loop and a test want. -/
namespace L2
open PySem PySem.Spec PyProof.Rows

/-! ### the text by places -/
/-- the j-th statement of a class's body -/
def inClass (s : Stmt) (j : Nat) : Stmt := match s with
  | .ClassDef _ _ _ body _ _ _ _ _ _ _ => body.getD j (.Pass ⟨0, 0, 0, 0⟩)
  | _ => .Pass ⟨0, 0, 0, 0⟩
def defArgs (s : Stmt) : Arguments := match s with
  | .FunctionDef _ a _ _ _ _ _ _ _ _ => a
  | _ => { posonlyargs := [], args := [], vararg := none, kwonlyargs := [], kw_defaults := [], kwarg := none, defaults := [] }
def defBody (s : Stmt) : List Stmt := match s with
  | .FunctionDef _ _ b _ _ _ _ _ _ _ => b
  | _ => []
def defScope (s : Stmt) : Scope := match s with
  | .FunctionDef _ _ _ _ _ _ sc _ _ _ => sc
  | _ => { kind := .function, names := [], isGenerator := false, isCoroutine := false }

/-! ### no exception leaves a def -/
abbrev CX0 : CXT := fun _ _ _ _ _ _ => False
abbrev E0 : XK := fun _ _ _ => False
theorem pass0 {X : Cx} : Passes CX0 X E0 := fun _ _ _ _ _ _ _ h => h.elim

/-! ### a def (or method) of the text as it stands behind the top -/
structure Fun (K : PySem.W.Frag) (x qual : Str) (st : Stmt) (f : Addr) (fd : FuncData) : Prop where
  ex : ∃ (oc : Value) (od : Option Addr) (kV doc pm : Value) (an : Option Addr) (cdv ct : Value) (osl : Array (Option Value)),
    fd = PySem.W.fnOf x qual (defArgs st) (defBody st) (defScope st) .none kV doc pm an cdv ct ∧ K.lookup f = some ⟨oc, od, .func fd, osl⟩ ∧ PySem.W.codeIn K cdv qual = true
  kp : PySem.W.keepIn K (.ref f) = true
section
variable {P : Program} {w : World} {K : PySem.W.Frag} {mg : Str → Option Value} {base : Heap}
/-- THE RULE for a def: its body as a term of rules, and the reading of that term -/
theorem Fun.ok {x qual : Str} {st : Stmt} {f : Addr} {fd : FuncData} {N ps : List Str} {k : Nat} {sp : Sp} (F : Fun K x qual st f fd) (S : FnScope N ps (defScope st)) (len : ∀ vs H Q E, sp vs H Q E → vs.length = ps.length)
    (hbody : ∀ (cdv : Value) (A : Around) (outer : List Env) (s : Shared) (H : Hp) (vs : List V) (Q : VK) (E : XK), Room k (A.deeper (envOfC qual (defScope st) s.heap.objs.size f cdv)) → sp vs H Q E →
      ∃ t, PSs (cxOf CX0 P w K mg base N qual (defScope st) f cdv A outer s H E).nox (defBody st) t ∧ t { nx := fun _ H' => Q .non H', rt := Q } (start N vs) H) : FnOk P w K mg base CX0 (k + 1) f fd ps sp := by
  obtain ⟨oc, od, kV, doc, pm, an, cdv, ct, osl, rfl, lk, hcd⟩ := F.ex
  refine fn_of lk hcd S len fun A outer s H vs Q E hr hsp => ?_
  obtain ⟨t, h, q⟩ := hbody cdv A outer s H vs Q E hr hsp
  exact ⟨t, h.nox, q⟩
/-- how its arguments bind (no defaults): h is «fun _ _ _ _ _ _ us hl => match us, hl with | [_, _], _ => rfl», one _ a parameter -/
theorem Fun.binds {x qual : Str} {st : Stmt} {f : Addr} {fd : FuncData} {ps : List Str} (F : Fun K x qual st f fd)
    (h : ∀ (kV doc pm : Value) (an : Option Addr) (cdv ct : Value) (us : List Value), us.length = ps.length → bindArgs (PySem.W.fnOf x qual (defArgs st) (defBody st) (defScope st) .none kV doc pm an cdv ct) ⟨us, []⟩ = pure (ps.zip us)) : Binds K fd ps [] := by
  obtain ⟨oc, od, kV, doc, pm, an, cdv, ct, osl, rfl, lk, hcd⟩ := F.ex
  exact .all (h kV doc pm an cdv ct)
theorem fun_mk {x qual : Str} {st : Stmt} {f : Addr} {oc : Value} {od an : Option Addr} {osl : Array (Option Value)} {kV doc pm cdv ct : Value} (l : K.lookup f = some ⟨oc, od, .func (PySem.W.fnOf x qual (defArgs st) (defBody st) (defScope st) .none kV doc pm an cdv ct), osl⟩)
    (c : PySem.W.codeIn K cdv qual = true) (k : PySem.W.keepIn K (.ref f) = true) : Fun K x qual st f (PySem.W.fnOf x qual (defArgs st) (defBody st) (defScope st) .none kV doc pm an cdv ct) := ⟨⟨oc, od, kV, doc, pm, an, cdv, ct, osl, rfl, l, c⟩, k⟩
end
theorem small1000 {n : Nat} (h : n ≤ 1000) : n < sizeLine := Nat.lt_of_le_of_lt h (by decide)

/-! ### expressions in short: the name that stands in the i-th slot -/
section
variable {X : Cx}
end

/-! ### tests -/
theorem iteF {A B : Prop} (h : B) : if false = true then A else B := by
  rw [if_neg Bool.false_ne_true]
  exact h
theorem ite2 {c A B : Prop} [Decidable c] (h1 : c → A) (h2 : ¬ c → B) : if c then A else B := by
  by_cases h : c
  · rw [if_pos h]
    exact h1 h
  · rw [if_neg h]
    exact h2 h
theorem iteNS {c A B : Prop} [Decidable c] (hc : c) (h : B) : if (!decide c) = true then A else B := by
  rw [decide_eq_true hc]
  exact iteF h

/-! ### heaps -/
/-- all that was tracked is as it was -/
def Same (H H' : Hp) : Prop := ∀ b o, H b = some o → H' b = some o
theorem Same.refl (H : Hp) : Same H H := fun _ _ h => h
theorem Same.trans {H H1 H2 : Hp} (a : Same H H1) (b : Same H1 H2) : Same H H2 := fun c o h => b c o (a c o h)
theorem Same.seq {K : PySem.W.Frag} {H H' : Hp} {a : Addr} {xs : List V} (e : Same H H') (h : SqL K H a xs) : SqL K H' a xs := by
  rcases h with (h | ⟨o, h⟩) | h
  · exact .inl (.inl (e _ _ h))
  · exact .inl (.inr ⟨o, e _ _ h⟩)
  · exact .inr h

end L2

/-! MORE RULES over the layer: great ints, bit_length, isinstance, min, max .. -/
namespace L2
open PySem PySem.Spec PyProof.Rows
theorem bt_len : bootBuiltins "len" = some (.builtin "len") := by decide +kernel
theorem bt_max : bootBuiltins "max" = some (.builtin "max") := by decide +kernel
theorem bt_isinstance : bootBuiltins "isinstance" = some (.builtin "isinstance") := by decide +kernel
theorem bt_list : bootBuiltins "list" = some (.type "list") := by decide +kernel
theorem bt_bool : bootBuiltins "bool" = some (.type "bool") := by decide +kernel
/-! ### bits of a natural number -/
theorem bits_leI {i : Int} {n : Nat} (h : i.natAbs < 2 ^ n) : Builtin.Int.intBits i ≤ n := by
  unfold Builtin.Int.intBits
  split
  · exact Nat.zero_le _
  · rename_i h0
    have h1 : i.natAbs ≠ 0 := by
      intro q
      apply h0
      have : i = 0 := by omega
      subst this; rfl
    exact (Nat.log2_lt h1).mpr h
/-- the size that a great number may have here -/
def Big : Nat := 2 ^ 4000
def IsBig (i : Int) : Prop := i.natAbs < 2 ^ 4000
section
variable {X : Cx}
/-- natural numbers in, a natural number out -/
def rN (C : Nat → Nat → Prop) (g : Nat → Nat → Nat) : R2 := fun x y H Q => ∃ a b : Nat, x = .int a ∧ y = .int b ∧ C a b ∧ Q (.int ((g a b : Nat) : Int)) H
/-- any ints of a bounded size -/
def CShl (i j : Int) : Prop := 0 ≤ j ∧ j ≤ 4000 ∧ i.natAbs < 2 ^ 4000
def CMulB (i j : Int) : Prop := i.natAbs < 2 ^ 4000 ∧ j.natAbs < 2 ^ 4000
theorem CMulB.ok {i j : Int} (h : CMulB i j) : IntMulOk i j := by
  unfold IntMulOk
  have h1 := bits_leI h.1
  have h2 := bits_leI h.2
  have h3 : Builtin.Int.intTooBig ((Builtin.Int.intBits i : Int) + (Builtin.Int.intBits j : Int)) = false := by
    unfold Builtin.Int.intTooBig
    apply decide_eq_false
    have : (8000 : Int) ≤ bitsLine := by decide
    omega
  simp only [h3, Bool.and_false]
  decide
theorem op_mulB : OpR X (binaryOp .Mult) (rI CMulB fun i j => .int (i * j)) := opI fun _ _ _ _ _ _ _ hc q => mul_int q hc.ok
/-- isinstance(x, C), C one class -/
def clsV : V → Option Value
  | .ref a => some (.ref a)
  | .ty n => some (.type n)
  | _ => none
theorem clsV_is {c : V} {cv u : Value} (e : clsV c = some cv) (r : RelV c u) : u = cv := by
  cases c <;> simp only [clsV] at e <;> first | (cases e; exact r) | cases e
theorem call_isi : CallR X (.builtin "isinstance") (fun xs H Q => ∃ x c cv t b, xs = [x, c] ∧ clsV c = some cv ∧ TyOf X.K H x t ∧ PySem.W.kitOne X.K t cv = some b ∧ Q (.bl b) H) := by
  intro pins s σ H xs us Q I rv h
  obtain ⟨x, c, cv, t, b, rfl, ec, ty, e, q⟩ := h
  obtain ⟨u, v, rfl, rx, rc⟩ := rv.two
  cases clsV_is ec rc
  exact isinst_ok I rx ty e fun tk => ⟨.bl b, H, I.tok _, rfl, q⟩
end
section
variable {K : PySem.W.Frag}
theorem isi_int_bool : PySem.W.kitOne K (.type "int") (.type "bool") = some false := by first | rfl | decide +kernel
theorem isi_bool_bool : PySem.W.kitOne K (.type "bool") (.type "bool") = some true := by rfl
theorem isi_list_list : PySem.W.kitOne K (.type "list") (.type "list") = some true := by rfl
end
/-! ### cuts: what is known in between -/
section
variable {X : Cx} {e : Expr} {te : TE} {st : Stmt} {ts : TS}
def tCut (t : TE) : TE := fun σ H Q => ∃ P : VK, t σ H P ∧ ∀ x H', P x H' → Q x H'
theorem pe_cut (h : PE X e te) : PE X e (tCut te) := by
  intro pins s σ H Q I hw
  obtain ⟨P, h1, h2⟩ := hw
  exact thn (h pins s σ H P I h1) fun v s1 ⟨x, H1, I1, r, q⟩ => ⟨x, H1, I1, r, h2 x H1 q⟩
def tCutS (t : TS) : TS := fun D σ H => ∃ N : St → Hp → Prop, t { D with nx := N } σ H ∧ ∀ σ' H', N σ' H' → D.nx σ' H'
theorem ps_cut (h : PS X st ts) : PS X st (tCutS ts) := by
  intro pins s σ H D I hw
  obtain ⟨N, h1, h2⟩ := hw
  refine thn (h pins s σ H { D with nx := N } I h1) fun f s1 q => ?_
  cases f with
  | next => obtain ⟨σ', H', I', q⟩ := q; exact ⟨σ', H', I', h2 σ' H' q⟩
  | ret v => exact q
  | brk => exact q
  | cont => exact q
end
theorem dec_true {p : Prop} [Decidable p] (h : decide p = true) : p := of_decide_eq_true h
theorem dec_false {p : Prop} [Decidable p] (h : ¬ decide p = true) : ¬ p := fun q => h (decide_eq_true q)
theorem big_of {z : Int} {n : Nat} (h : z.natAbs < 2 ^ n) (hn : n ≤ 4000 := by decide) : z.natAbs < 2 ^ 4000 := Nat.lt_of_lt_of_le h (Nat.pow_le_pow_right (by decide) hn)
theorem big64 {z : Int} (h0 : -18446744073709551616 < z) (h1 : z < 18446744073709551616) : z.natAbs < 2 ^ 4000 := big_of (n := 64) (by omega)
/-! ### the script's draw -/
def spLaw (K : PySem.W.Frag) : Sp := fun vs H Q _ => ∃ (a : Addr) (ns : List Int), vs = [.ref a] ∧ SqL K H a (ns.map V.int) ∧ ns.length ≤ 63 ∧ ∀ H', Q (.bl true) H'
def spDraw (K : PySem.W.Frag) : Sp := fun vs H Q _ => ∃ (a : Addr) (ns : List Int) (k m : Int), vs = [.ref a, .int k, .int m] ∧ SqL K H a (ns.map V.int) ∧ ns.length ≤ 63 ∧ 0 ≤ k ∧ k ≤ 100000 ∧ 0 < m ∧ ∀ d : Int, 0 ≤ d → d < m → Q (.int d) H
end L2

/-! AN EXCEPTION ON ITS WAY, ITS DICT KEPT: the stations of a flight, with what the object's own dict is. -/
namespace L2
open PySem PySem.Spec PyProof.Rows
theorem dict_mapF (g : Array Value → Array Value) (o : Obj) : (Obj.mapFields g o).dict = o.dict := by
  obtain ⟨c, d, x, sl⟩ := o
  cases x <;> rfl
/-- e is in flight: its class, its args, its dict, the frame that its last entry names -/
def TrD (h B : Heap) (e : Addr) (k a0 : Value) (od : Option Addr) (fl : Value) : Prop :=
  ∃ oe vs T oT ts, (h.get? e = some oe ∧ oe.cls = k ∧ oe.dict = od ∧ oe.data = .fields vs) ∧ (vs[0]? = some a0 ∧ vs[1]? = some (.ref T)) ∧ (B.get? T = none ∧ T ≠ e) ∧ h.get? T = some oT ∧ oT.data = .fields ts ∧ ts[3]? = some fl
def FlyD (B : Heap) (l : List Env) (e : Addr) (k a0 : Value) (od : Option Addr) (h : Heap) : Prop := (B.StaysIn h ∧ B.get? e = none) ∧ h.FunFrames B l ∧ TrD h B e k a0 od .none
def HeldD (B : Heap) (l : List Env) (e : Addr) (k a0 : Value) (od : Option Addr) (L : Addr) (h : Heap) : Prop := (B.StaysIn h ∧ B.get? e = none) ∧ h.FunFrames B l ∧ TrD h B e k a0 od (rawInt L)
theorem FlyD.obj {B h : Heap} {l : List Env} {e : Addr} {k a0 : Value} {od : Option Addr} (x : FlyD B l e k a0 od h) : ∃ oe vs, h.get? e = some oe ∧ oe.cls = k ∧ oe.dict = od ∧ oe.data = .fields vs := by
  obtain ⟨_, _, oe, vs, _, _, _, ⟨q1, q2, q3, q4⟩, _⟩ := x
  exact ⟨oe, vs, q1, q2, q3, q4⟩
theorem FlyD.tail {B h : Heap} {env : Env} {l : List Env} {e : Addr} {k a0 : Value} {od : Option Addr} (x : FlyD B (env :: l) e k a0 od h) : FlyD B l e k a0 od h :=
  let ⟨a, ⟨_, _, b⟩, c⟩ := x; ⟨a, b, c⟩
section
variable {M : Model} {A : Around} {E : Value → Shared → Prop} {s : Shared} {B : Heap} {env : Env} {outer l : List Env} {L e : Addr} {k a0 : Value} {od : Option Addr}
/-- one more entry is put at the head of the exception's traceback -/
theorem entryD {oe : Obj} {vs : Array Value} {hd0 : Value} {nxt : Bool} {Q : Unit → Shared → Prop} (fr : A.frames = some (env :: outer)) (ff : s.heap.FunFrames B (env :: outer)) (fL : env.frame = some L) (st : B.StaysIn s.heap ∧ B.get? e = none)
    (at_ : s.heap.get? e = some oe) (dat : oe.data = .fields vs) (sz : 1 < vs.size) (arg : vs[0]? = some a0)
    (next : ∀ h', HeldD B (env :: outer) e oe.cls a0 oe.dict L h' → s.heap.UpToSlots h' → Q () { s with heap := h' }) :
    wpAny M A (do let a ← frameOf env; let pl ← entryPlaceOf L nxt; let b ← EntryCells.newEntry hd0 a .none (rawInt L) .none pl; setField (.ref e) 1 b) Q E s := by
  have eF : e ∉ frs (env :: outer) := fun z => by
    obtain ⟨_, o, q, n⟩ := ff.mem z
    cases at_.symm.trans q
    exact n vs dat
  refine wpAny_bind (wpAny_frameOf_fun fr ff fL fun h1 so => wpAny_bind (wpAny_entryPlaceOf fun pl isp => ?_))
  unfold EntryCells.newEntry newFields
  refine wpAny_bind (wpAny_newObj_type ?_ (isp.sizeOk5 _ _ _ _ _))
  generalize htb : ([hd0, Value.ref L, Value.none, rawInt L, Value.none] ++ (if pl.isEmpty then List.replicate 6 Value.none else pl)).toArray = tb
  have tb3 : tb[3]? = some (rawInt L) := by
    subst htb
    rcases isp with rfl | ⟨_, _, _, _, _, _, _, rfl⟩ <;> simp
  clear htb isp
  have e1 : h1.get? e = some oe := (so.2.1 e eF).trans at_
  have B1 : B.StaysIn h1 := fun b o q => (so.2.1 b fun z => by have := (ff.mem z).1; rw [q] at this; cases this).trans (st.1 b o q)
  have tE : h1.objs.size ≠ e := Nat.ne_of_gt (Heap.lt_size e1)
  have e2 := Heap.get?_push_of_some (h := h1) { cls := .type "traceback", dict := none, data := .fields tb } e1
  refine wpAny_setField e2 dat sz (next _ ?_ ?_)
  all_goals
    have keep : ∀ b o, b ≠ e → h1.get? b = some o → ((h1.push { cls := .type "traceback", dict := none, data := .fields tb }).update e (Obj.mapFields (·.setIfInBounds 1 (Value.ref h1.objs.size)))).get? b = some o := fun b o n q => by
      rw [Heap.get?_update_other _ _ (Ne.symm n)]
      exact Heap.get?_push_of_some _ q
    have apart : ∀ b o, s.heap.get? b = some o → (∀ ws, o.data ≠ .fields ws) → b ≠ e := fun b o q n z => by
      subst z
      cases at_.symm.trans q
      exact n vs dat
  · have d3 := Obj.data_mapFields dat (·.setIfInBounds 1 (Value.ref h1.objs.size))
    have e3 := Heap.get?_update_self (Obj.mapFields (·.setIfInBounds 1 (Value.ref h1.objs.size))) e2 (Obj.isFreed_of_fields d3)
    have t3 := (Heap.get?_update_other (h1.push { cls := .type "traceback", dict := none, data := .fields tb }) (Obj.mapFields (·.setIfInBounds 1 (Value.ref h1.objs.size))) (Ne.symm tE)).trans (Heap.get?_push_size h1 rfl)
    refine ⟨⟨fun b o q => keep b o (fun z => by rw [z, st.2] at q; cases q) (B1 b o q), st.2⟩, ff.of_keeps fun b o q n => ?_, _, _, h1.objs.size, _, _, ⟨e3, Obj.cls_mapFields _ _, dict_mapF _ _, d3⟩, ⟨?_, by simp [sz]⟩, ⟨B1.fresh, tE⟩, t3, rfl, tb3⟩
    · obtain ⟨sl, q1⟩ := so.2.2 b o q
      exact ⟨_, keep b _ (apart b o q n) q1, rfl⟩
    · rw [Array.getElem?_setIfInBounds_ne (by decide)]
      exact arg
  · intro b o q n
    obtain ⟨sl, q1⟩ := so.2.2 b o q
    exact ⟨sl, keep b _ (apart b o q n) q1⟩
/-- the last entry lets its frame go -/
theorem landAnyD {fl : Value} {Q : Unit → Shared → Prop} (st : B.StaysIn s.heap ∧ B.get? e = none) (ff : s.heap.FunFrames B l) (tr : TrD s.heap B e k a0 od fl)
    (next : ∀ h', FlyD B l e k a0 od h' → s.heap.UpToSlots h' → Q () { s with heap := h' }) : wpAny M A (setFlight (.ref e) none) Q E s := by
  obtain ⟨oe, vs, T, oT, ts, ⟨q1, q2, q3, q4⟩, ⟨q5, q6⟩, ⟨q7, q8⟩, q9, q10, q11⟩ := tr
  have sz : 3 < ts.size := (Array.getElem?_eq_some_iff.mp q11).1
  have off : ∀ b, b ≠ T → (s.heap.update T (Obj.mapFields (·.setIfInBounds 3 ((none : Option Addr).elim Value.none fun f => rawInt f)))).get? b = s.heap.get? b := fun b n => Heap.get?_update_other _ _ (Ne.symm n)
  have apart : ∀ b o, s.heap.get? b = some o → (∀ ws, o.data ≠ .fields ws) → b ≠ T := fun b o q n z => by
    subst z
    cases q9.symm.trans q
    exact n ts q10
  unfold setFlight
  refine wpAny_bind (wpAny_field q1 q4 q6 ?_)
  rw [if_pos (show (Value.ref T != Value.none) = true by simp)]
  refine wpAny_setField q9 q10 sz (next _ ⟨⟨fun b o q => (off b fun z => by rw [z, q7] at q; cases q).trans (st.1 b o q), st.2⟩, ff.of_keeps fun b o q n => ⟨o, (off b (apart b o q n)).trans q, rfl⟩, ?_⟩ fun b o q n => ⟨o.slots, (off b (apart b o q n)).trans q⟩)
  exact ⟨oe, vs, T, _, _, ⟨(off e (Ne.symm q8)).trans q1, q2, q3, q4⟩, ⟨q5, q6⟩, ⟨q7, q8⟩, Heap.get?_update_self _ q9 (Obj.isFreed_of_fields (Obj.data_mapFields q10 _)), Obj.data_mapFields q10 _, by simp [sz]⟩
theorem landD {Q : Unit → Shared → Prop} (x : HeldD B l e k a0 od L s.heap) (next : ∀ h', FlyD B l e k a0 od h' → s.heap.UpToSlots h' → Q () { s with heap := h' }) : wpAny M A (setFlight (.ref e) none) Q E s :=
  landAnyD x.1 x.2.1 x.2.2 next
theorem landAgainD {Q : Unit → Shared → Prop} (x : FlyD B l e k a0 od s.heap) (next : ∀ h', FlyD B l e k a0 od h' → s.heap.UpToSlots h' → Q () { s with heap := h' }) : wpAny M A (setFlight (.ref e) none) Q E s :=
  landAnyD x.1 x.2.1 x.2.2 next
/-- the frame is noted, a second time or later -/
theorem lookOnD {Q : Unit → Shared → Prop} (fr : A.frames = some (env :: outer)) (fL : env.frame = some L) (x : FlyD B (env :: outer) e k a0 od s.heap)
    (next : ∀ h', HeldD B (env :: outer) e k a0 od L h' → s.heap.UpToSlots h' → Q () { s with heap := h' }) : wpAny M A (noteFrame (.ref e) env) Q E s := by
  obtain ⟨st, ff, oe, vs, T, oT, ts, ⟨q1, q2, q3, q4⟩, ⟨q5, q6⟩, ⟨q7, q8⟩, q9, q10, q11⟩ := x
  subst q2 q3
  have off : ∀ b, b ≠ T → (s.heap.update T (Obj.mapFields (·.setIfInBounds 3 Value.none))).get? b = s.heap.get? b := fun b n => Heap.get?_update_other _ _ (Ne.symm n)
  have apart : ∀ b o, s.heap.get? b = some o → (∀ ws, o.data ≠ .fields ws) → b ≠ T := fun b o q n z => by
    subst z
    cases q9.symm.trans q
    exact n ts q10
  unfold noteFrame
  simp only [fL]
  refine wpAny_bind (wpAny_field q1 q4 q6 ?_)
  rw [if_pos (show (Value.ref T != Value.none) = true by simp)]
  refine wpAny_bind (wpAny_field q9 q10 q11 ?_)
  rw [if_neg (show ¬ ((Value.none == rawInt L) = true) by simp [rawInt])]
  refine wpAny_bind (wpAny_setField q9 q10 (Array.getElem?_eq_some_iff.mp q11).1 ?_)
  refine entryD (B := B) fr (ff.of_keeps fun b o q n => ⟨o, (off b (apart b o q n)).trans q, rfl⟩) fL ⟨fun b o q => (off b fun z => by rw [z, q7] at q; cases q).trans (st.1 b o q), st.2⟩ ((off e (Ne.symm q8)).trans q1) q4 (Array.getElem?_eq_some_iff.mp q6).1 q5 fun h' x1 x2 => ?_
  exact next h' x1 fun b o q n => x2 b o ((off b (apart b o q n)).trans q) n
/-- it leaves the frame in which it was raised -/
theorem leaveFirstD {oe : Obj} {vs : Array Value} {Q : Unit → Shared → Prop} (fr : A.frames = some (env :: outer)) (fL : env.frame = some L) (st : B.StaysIn s.heap ∧ B.get? e = none) (ff : s.heap.FunFrames B (env :: outer))
    (at_ : s.heap.get? e = some oe) (dat : oe.data = .fields vs) (arg : vs[0]? = some a0) (bare : vs[1]? = some .none) (next : ∀ h', FlyD B outer e oe.cls a0 oe.dict h' → s.heap.UpToSlots h' → Q () { s with heap := h' }) :
    wpAny M A (leaving env (.ref e)) Q E s := by
  unfold leaving noteFrame
  simp only [fL]
  refine wpAny_bind (wpAny_bind (wpAny_field at_ dat bare ?_))
  rw [if_neg (by decide)]
  refine entryD (B := B) fr ff fL st at_ dat (Array.getElem?_eq_some_iff.mp bare).1 arg fun h1 x1 x2 => ?_
  exact landD x1 fun h2 x3 x4 => next h2 x3.tail (x2.trans x4)
/-- it leaves another one -/
theorem leaveOnD {Q : Unit → Shared → Prop} (fr : A.frames = some (env :: outer)) (fL : env.frame = some L) (x : FlyD B (env :: outer) e k a0 od s.heap)
    (next : ∀ h', FlyD B outer e k a0 od h' → s.heap.UpToSlots h' → Q () { s with heap := h' }) : wpAny M A (leaving env (.ref e)) Q E s := by
  unfold leaving
  exact wpAny_bind (lookOnD fr fL x fun h1 x1 x2 => landD x1 fun h2 x3 x4 => next h2 x3.tail (x2.trans x4))
end
end L2

/-! EXCEPTIONS over the layer: raised by a def of the text (own classes without __init__), handed on, caught by a try. -/
namespace L2
open PySem PySem.Spec PyProof.Rows
/-- what a class of the text that stands under ValueError is, read off the written part -/
theorem excObj {K : PySem.W.Frag} {h : Heap} {C : Addr} {bmB : List Value} {newId : String} (kin : K.In h) (hq : PySem.W.excIn K C bmB newId = true) :
    ∃ bm N nm qn bs hdct sn sub ab col dd k0 k1 k2 k3 k5 mN, h.get? C = some (excClassObj nm qn C N bs bm hdct sn sub ab col dd k0 k1 k2 k3 k5 newId) ∧ h.Ns N mN ∧ mN "__init__" = none ∧ OwnTail h bmB bm := by
  unfold PySem.W.excIn at hq
  split at hq
  · rename_i dd cdt slots look
    split at hq
    · rename_i C1 bm j0 j1 j2 j3 nid j5 em es
      simp only [Bool.and_eq_true, beq_iff_eq, Bool.not_eq_true'] at hq
      obtain ⟨⟨⟨⟨⟨e1, e2⟩, e3⟩, e4⟩, e5⟩, e6⟩ := hq
      subst e1 e2
      obtain ⟨c1, c2, c3, c4, c5, c6, c7, c8, c9, c10, c11⟩ := cdt
      dsimp only at em e3 e5 e6
      subst em e3
      have esl : slots = #[j0, j1, j2, j3, some (.builtin nid), j5] := by
        cases slots with
        | mk l =>
          have : l = _ := es
          rw [this]
      subst esl
      exact ⟨bm, c4, c1, c5, c2, c6, c7, c8, c9, c10, dd, j0, j1, j2, j3, j5, _, kin _ _ look, .of_isNs (PySem.W.isNs_of_in kin e5), PySem.W.nsMap_none_of_in kin e5 e6, PySem.W.tail_of_in kin e4⟩
    · cases hq
  · cases hq
/-- a tracked object is there -/
theorem ObjOk.there {P : Program} {w : World} {H : Hp} {h : Heap} {a : Addr} {o : HO} (x : ObjOk P w H h a o) : ∃ ob, h.get? a = some ob := by
  cases o with
  | lst xs => obtain ⟨_, _, _, _, e⟩ := x; exact ⟨_, e⟩
  | tup xs => obtain ⟨_, _, _, ob, e, _⟩ := x; exact ⟨_, e⟩
  | dK kvs => obtain ⟨_, _, _, _, o, _, _, e, _⟩ := x; exact ⟨_, e⟩
  | dT kvs => obtain ⟨_, _, _, _, o, _, _, e, _⟩ := x; exact ⟨_, e⟩
  | set S n => obtain ⟨o, _, _, _, e, _⟩ := x; exact ⟨_, e⟩
  | ins C dx fs => obtain ⟨_, _, _, e, _⟩ := x; exact ⟨_, e⟩
  | own y => exact x
  | xd fs => obtain ⟨_, ⟨_, _, _, e, _⟩, _⟩ := x; exact ⟨_, e⟩
  | rng lo hi => obtain ⟨_, _, _, e⟩ := x; exact ⟨_, e⟩
  | frz ob u => obtain ⟨e, _⟩ := x; exact ⟨_, e⟩
  | tbl ps => exact ⟨_, (show h.get? a = some _ from x)⟩
  | met f y => exact ⟨_, (show h.get? a = some _ from x)⟩
  | ext φ => obtain ⟨_, e, _⟩ := x; exact e
/-- an exception flies: a its object, B all else that stands still -/
structure Fly (P : Program) (w : World) (outer : List Env) (H H' : Hp) (s s' : Shared) (a t : Addr) (cls : Value) (od : Option Addr) (B : Heap) : Prop where
  os : s'.os = s.os
  bare : AllBare s'.gens
  un : Un (frs outer) [] H H' s.heap s'.heap
  hok : HOk P w H' s'.heap
  new : H' a = none
  fly : FlyD B outer a cls (.ref t) od s'.heap
  old : ∀ b o, s.heap.get? b = some o → H b = none → b ∉ frs outer → B.get? b = some o
  trk : ∀ b u, H' b = some u → ∃ o, s'.heap.get? b = some o ∧ B.get? b = some o
  all : ∀ b o, s.heap.get? b = some o → b ∉ frs outer → ∃ o', B.get? b = some o'
def CXR (P : Program) (w : World) : CXT := fun outer H s E e s' => ∃ (a t : Addr) (cls : Value) (od : Option Addr) (H' : Hp) (B : Heap), e = .ref a ∧ Fly P w outer H H' s s' a t cls od B ∧ E cls od H'
/-- how the tracked objects and the old ones come over from B -/
theorem HOk.fromB {P : Program} {w : World} {H : Hp} {h h' B : Heap} (ok : HOk P w H h) (trk : ∀ b u, H b = some u → ∃ o, h.get? b = some o ∧ B.get? b = some o) (st : B.StaysIn h') : HOk P w H h' := fun a u q =>
  (ok a u q).stay (fun b o hb e => by
    have : ∃ v, H b = some v := by
      rcases hb with rfl | hb
      · exact ⟨u, q⟩
      · exact ⟨_, hb⟩
    obtain ⟨v, hv⟩ := this
    obtain ⟨o', e1, e2⟩ := trk b v hv
    rw [e] at e1; cases e1
    exact st b o e2) (fun _ z => z) fun _ _ z => z
section
variable {P : Program} {w : World} {K : PySem.W.Frag} {mg : Str → Option Value} {base : Heap} {N : List Str} {qual : Str} {scope : Scope} {f : Addr} {cd : Value} {A : Around} {outer : List Env} {s : Shared} {H : Hp} {E : XK}
/-- the frames of the callers lie below this one -/
theorem notFrame {pins : List (Addr × Obj)} {σ : St} {H1 : Hp} {s1 : Shared} {CX : CXT} (I : Inv (cxOf CX P w K mg base N qual scope f cd A outer s H E) pins σ H1 s1) {b : Addr} {o : Obj} (e : s.heap.get? b = some o) (n : b ∉ frs outer) :
    b ∉ frs (cxOf CX P w K mg base N qual scope f cd A outer s H E).stack := fun hb => by
  have hb' := I.stkSub b hb
  rcases List.mem_cons.mp hb' with z | z
  · have lt := Heap.lt_size e
    have z' : b = s.heap.objs.size := z
    rw [z'] at lt
    exact Nat.lt_irrefl _ lt
  · exact n z
/-- an exception e, made and not tracked, leaves the def -/
theorem raise_leavesD {pins : List (Addr × Obj)} {σ : St} {H1 : Hp} {s1 : Shared} {e t : Addr} {oe : Obj} {vs : Array Value} (I : Inv (cxOf (CXR P w) P w K mg base N qual scope f cd A outer s H E) pins σ H1 s1)
    (he : s1.heap.get? e = some oe) (hd : oe.data = .fields vs) (h0 : vs[0]? = some (.ref t)) (h1 : vs[1]? = some .none) (new : s.heap.get? e = none) (free : H1 e = none) (hE : E oe.cls oe.dict H1) :
    (cxOf (CXR P w) P w K mg base N qual scope f cd A outer s H E).xe (.ref e) s1 := by
  have fr := I.ok.frames
  have ff := I.stack
  generalize hst : (cxOf (CXR P w) P w K mg base N qual scope f cd A outer s H E).stack = stk at fr ff
  have hst' : stk = (cxOf (CXR P w) P w K mg base N qual scope f cd A outer s H E).env :: outer := hst.symm
  have nfr : e ∉ frs stk := fun z => by
    obtain ⟨_, o, q, n⟩ := Heap.FunFrames.mem ff z
    cases he.symm.trans q
    exact n vs hd
  have hin : ∀ env ∈ stk, ∀ a, env.frame = some a → a ∈ e :: frs stk := fun env h a ha => List.mem_cons_of_mem _ (List.mem_filterMap.mpr ⟨env, h, ha⟩)
  have mk : ∀ b o, s1.heap.get? b = some o → b ∉ frs stk → b ≠ e → (PySem.W.hideAll s1.heap (e :: frs stk)).get? b = some o := fun b o q n z => PySem.W.hideAll_get _ q fun m => by
    rcases List.mem_cons.mp m with m | m
    · exact z m
    · exact n m
  have nf0 : ∀ b o, s.heap.get? b = some o → b ∉ frs outer → b ∉ frs stk := fun b o q n => by rw [← hst]; exact notFrame I q n
  have ne0 : ∀ b o, s.heap.get? b = some o → b ≠ e := fun b o q z => by rw [z, new] at q; cases q
  refine leaveFirstD (B := PySem.W.hideAll s1.heap (e :: frs stk)) (show _ = some ((cxOf (CXR P w) P w K mg base N qual scope f cd A outer s H E).stack) from hst ▸ fr) rfl ⟨fun b o q => PySem.W.of_hideAll _ q, PySem.W.hideAll_none _ (List.mem_cons_self ..)⟩ (show Heap.FunFrames _ _ (cxOf (CXR P w) P w K mg base N qual scope f cd A outer s H E).stack from by rw [hst]; exact PySem.W.funFrames_hide ff hin) he hd h0 h1 fun h2 x1 x4 => ?_
  have old : ∀ b o, s.heap.get? b = some o → H b = none → b ∉ frs outer → (PySem.W.hideAll s1.heap (e :: frs stk)).get? b = some o := fun b o q n nf =>
    mk b o (I.base.keep b o q n nf (fun z => by cases z)) (nf0 b o q nf) (ne0 b o q)
  have trk0 : ∀ b u, H1 b = some u → ∃ o, s1.heap.get? b = some o ∧ (PySem.W.hideAll s1.heap (e :: frs stk)).get? b = some o := fun b u q => by
    obtain ⟨o, eo⟩ := (I.hok b u q).there
    refine ⟨o, eo, mk b o eo (fun z => ?_) fun z => by rw [z, free] at q; cases q⟩
    rw [I.stkFree b (by rw [hst]; exact z)] at q
    cases q
  have slots : ∀ b o, s1.heap.get? b = some o → b ∈ frs outer → ∃ sl, h2.get? b = some { o with slots := sl } := fun b o q hb => by
    have hm : b ∈ frs stk := by
      obtain ⟨env, h, hf⟩ := List.mem_filterMap.mp hb
      rw [hst']
      exact List.mem_filterMap.mpr ⟨env, List.mem_cons_of_mem _ h, hf⟩
    obtain ⟨_, o', ho', nf⟩ := Heap.FunFrames.mem ff hm
    rw [q] at ho'; cases ho'
    exact x4 b o q nf
  refine ⟨e, t, oe.cls, oe.dict, H1, _, rfl, ⟨I.os, I.bare, ⟨?_, ?_, ?_, ?_, ?_, ?_, ?_⟩, HOk.fromB I.hok trk0 x1.1.1, free, x1, old, ?_, ?_⟩, hE⟩
  · exact fun b o q n nf _ => x1.1.1 b o (old b o q n nf)
  · intro b o q n hb nx
    obtain ⟨sl, q1⟩ := I.base.slot b o q n hb nx
    obtain ⟨sl', q2⟩ := slots b _ q1 hb
    exact ⟨sl', q2⟩
  · exact fun b o q n nx => I.base.free b o q n nx
  · intro b o q nx
    obtain ⟨o', q1⟩ := I.base.there b o q nx
    by_cases hb : b ∈ frs outer
    · obtain ⟨sl', q2⟩ := slots b _ q1 hb
      exact ⟨_, q2⟩
    · exact ⟨o', x1.1.1 b o' (mk b o' q1 (nf0 b o q hb) (ne0 b o q))⟩
  · exact I.base.tups
  · exact I.base.frzs
  · exact I.base.tbls
  · intro b u q
    obtain ⟨o, _, e2⟩ := trk0 b u q
    exact ⟨o, x1.1.1 b o e2, e2⟩
  · intro b o q nf
    obtain ⟨o', q1⟩ := I.base.there b o q (fun z => by cases z)
    exact ⟨o', mk b o' q1 (nf0 b o q nf) (ne0 b o q)⟩
theorem raise_leaves {pins : List (Addr × Obj)} {σ : St} {H1 : Hp} {s1 : Shared} {h' : Heap} {e : Addr} {cls : Value} {vs : List Value} (I : Inv (cxOf (CXR P w) P w K mg base N qual scope f cd A outer s H E) pins σ H1 s1)
    (hx : Heap.MadeExcOf s1.heap h' e cls vs) (hE : E cls none H1) : (cxOf (CXR P w) P w K mg base N qual scope f cd A outer s H E).xe (.ref e) { s1 with heap := h' } := by
  obtain ⟨t, he, _, _⟩ := hx.there
  have J : Inv (cxOf (CXR P w) P w K mg base N qual scope f cd A outer s H E) pins σ H1 { s1 with heap := h' } := I.kept hx.keeps
  refine raise_leavesD J (t := t) he rfl rfl rfl ?_ ?_ hE
  · cases q : s.heap.get? e with
    | none => rfl
    | some o =>
      obtain ⟨o', q1⟩ := I.base.there e o q (fun z => by cases z)
      rw [hx.new] at q1; cases q1
  · cases q : H1 e with
    | none => rfl
    | some u =>
      obtain ⟨o, eo⟩ := (I.hok e u q).there
      rw [hx.new] at eo; cases eo
/-- an exception of a callee is handed on -/
theorem passR {E1 : XK} (hE : ∀ cls od H', E1 cls od H' → E cls od H') : Passes (CXR P w) (cxOf (CXR P w) P w K mg base N qual scope f cd A outer s H E) E1 := by
  intro pins σ H1 s1 ev s2 I h
  obtain ⟨a, t, cls, od, H', B, rfl, F, q⟩ := h
  have fr := I.ok.frames
  refine leaveOnD fr rfl F.fly fun h2 x1 x2 => ?_
  have old : ∀ b o, s.heap.get? b = some o → H b = none → b ∉ frs outer → B.get? b = some o := fun b o e n nf =>
    F.old b o (I.base.keep b o e n nf (fun z => by cases z)) (I.base.free b o e n (fun z => by cases z)) (notFrame I e nf)
  have slots : ∀ b o, s2.heap.get? b = some o → b ∈ frs outer → ∃ sl, h2.get? b = some { o with slots := sl } := fun b o e hb => by
    have hm : b ∈ frs (cxOf (CXR P w) P w K mg base N qual scope f cd A outer s H E).stack := List.mem_filterMap.mpr (by
      obtain ⟨env, he, hf⟩ := List.mem_filterMap.mp hb
      exact ⟨env, List.mem_cons_of_mem _ he, hf⟩)
    obtain ⟨_, o', ho', nf⟩ := Heap.FunFrames.mem F.fly.2.1 hm
    rw [e] at ho'; cases ho'
    exact x2 b o e nf
  have hst : ∀ b, b ∈ frs outer → b ∈ frs (cxOf (CXR P w) P w K mg base N qual scope f cd A outer s H E).stack := fun b hb => List.mem_filterMap.mpr (by
      obtain ⟨env, he, hf⟩ := List.mem_filterMap.mp hb
      exact ⟨env, List.mem_cons_of_mem _ he, hf⟩)
  refine ⟨a, t, cls, od, H', B, rfl, ⟨F.os.trans I.os, F.bare, ⟨?_, ?_, ?_, ?_, ?_, ?_, ?_⟩, HOk.fromB F.hok F.trk x1.1.1, F.new, x1, old, ?_, ?_⟩, hE _ _ _ q⟩
  · exact fun b o e n nf _ => x1.1.1 b o (old b o e n nf)
  · intro b o e n hb nx
    obtain ⟨sl, q1⟩ := I.base.slot b o e n hb nx
    obtain ⟨sl1, q2⟩ := F.un.slot b _ q1 (I.base.free b o e n nx) (hst b hb) (fun z => by cases z)
    obtain ⟨sl2, q3⟩ := slots b _ q2 hb
    exact ⟨sl2, q3⟩
  · exact fun b o e n nx => by
      obtain ⟨o1, q1⟩ := I.base.there b o e nx
      exact F.un.free b o1 q1 (I.base.free b o e n nx) (fun z => by cases z)
  · intro b o e nx
    obtain ⟨o1, q1⟩ := I.base.there b o e nx
    obtain ⟨o2, q2⟩ := F.un.there b o1 q1 (fun z => by cases z)
    by_cases hb : b ∈ frs outer
    · obtain ⟨sl', q3⟩ := slots b _ q2 hb
      exact ⟨_, q3⟩
    · obtain ⟨o3, q3⟩ := F.all b o1 q1 (notFrame I e hb)
      exact ⟨o3, x1.1.1 b o3 q3⟩
  · exact fun b xs z => F.un.tups b xs (I.base.tups b xs z)
  · exact fun b o u z => F.un.frzs b o u (I.base.frzs b o u z)
  · intro b ps z
    obtain ⟨m1, z1⟩ := I.base.tbls b ps z
    obtain ⟨m2, z2⟩ := F.un.tbls b _ z1
    exact ⟨m1 ++ m2, by rw [← Array.append_assoc]; exact z2⟩
  · intro b u z
    obtain ⟨o, _, e2⟩ := F.trk b u z
    exact ⟨o, x1.1.1 b o e2, e2⟩
  · intro b o e nf
    obtain ⟨o1, q1⟩ := I.base.there b o e (fun z => by cases z)
    exact F.all b o1 q1 (notFrame I e nf)
end
end L2

/-! raise, try, isinstance of an exception -/
namespace L2
open PySem PySem.Spec PyProof.Rows
section
variable {P : Program} {w : World} {K : PySem.W.Frag} {mg : Str → Option Value} {base : Heap} {N : List Str} {qual : Str} {scope : Scope} {f : Addr} {cd : Value} {A : Around} {outer : List Env} {s : Shared} {H : Hp} {E : XK}
def tRaise (C : Addr) (E : XK) (t : TA) : TS := fun _ σ H => t σ H fun vs H1 => vs.length ≤ sizeLine ∧ E (.ref C) none H1
theorem ps_raise {x : Str} {C : Addr} {np cpos pos : Pos} {e₀ : Expr} {rest : List Expr} {t : TA} {B newId initId : String} {bmB : List Value} (FB : ExcBaseFacts B newId initId bmB) (hm : mg x = some (.ref C))
    (hq : PySem.W.excIn K C bmB newId = true) (ha : PA (cxOf (CXR P w) P w K mg base N qual scope f cd A outer s H E) (e₀ :: rest) t)
    (hx : Gl (cxOf (CXR P w) P w K mg base N qual scope f cd A outer s H E) x := by rfl) (hd : (x == ("__debug__" : Str)) = false := by decide)
    (he : starEach (e₀ :: rest) (cxOf (CXR P w) P w K mg base N qual scope f cd A outer s H E).env = (false, eval e₀ (cxOf (CXR P w) P w K mg base N qual scope f cd A outer s H E).env) :: starEach rest (cxOf (CXR P w) P w K mg base N qual scope f cd A outer s H E).env := by rfl)
    (hpl : (backTo cpos (starEach rest (cxOf (CXR P w) P w K mg base N qual scope f cd A outer s H E).env)).any (·.1) = false := by rfl) :
    PS (cxOf (CXR P w) P w K mg base N qual scope f cd A outer s H E) (.Raise (some (.Call (.Name x np) (e₀ :: rest) [] cpos)) none pos) (tRaise C E t) := by
  intro pins s1 σ H1 D I hw
  obtain ⟨bm, N', nm, qn, bs, hdct, sn, sub, ab, col, dd, k0, k1, k2, k3, k5, mN, hC, hN, hni, T⟩ := excObj I.ok.mod.kin hq
  refine wpAny_Raise_call_subT (C := C) (nm := nm) (q := qn) (N := N') (bs := bs) (bm := bm) (hdct := hdct) (sn := sn) (sub := sub) (ab := ab) (col := col) (dd := dd) (k0 := k0) (k1 := k1) (k2 := k2) (k3 := k3) (k5 := k5) FB (mN := mN)
    (T.hasType FB.hasBase) (I.ok.hd rfl) (by rw [he]; exact hpl) hni (ld_glob I hx hm ⟨rfl, ?_⟩ hd)
  have h := ha cpos pins s1 σ H1 _ I hw
  rw [he] at h ⊢
  exact Calls.evalArgs_plain (wpAny_mono h (fun us s2 ⟨vs, H2, I2, rv, z, q⟩ => ⟨rfl, by rw [← rv.length]; exact z, I2.bk _ _ hC, hN.keeps I2.bk, T.keeps I2.bk, fun h' e hx => raise_leaves I2 hx q⟩) fun _ _ y => y)
/-- THE RULE for a def that may raise -/
theorem Fun.okR {x qual : Str} {st : Stmt} {f : Addr} {fd : FuncData} {N ps : List Str} {k : Nat} {sp : Sp} (F : Fun K x qual st f fd) (S : FnScope N ps (defScope st)) (len : ∀ vs H Q E, sp vs H Q E → vs.length = ps.length)
    (hbody : ∀ (cdv : Value) (A : Around) (outer : List Env) (s : Shared) (H : Hp) (vs : List V) (Q : VK) (E : XK), Room k (A.deeper (envOfC qual (defScope st) s.heap.objs.size f cdv)) → sp vs H Q E →
      ∃ t, PSs (cxOf (CXR P w) P w K mg base N qual (defScope st) f cdv A outer s H E) (defBody st) t ∧ t { nx := fun _ H' => Q .non H', rt := Q } (start N vs) H) : FnOk P w K mg base (CXR P w) (k + 1) f fd ps sp := by
  obtain ⟨oc, od, kV, doc, pm, an, cdv, ct, osl, rfl, lk, hcd⟩ := F.ex
  exact fn_of lk hcd S len fun A outer s H vs Q E hr hsp => hbody cdv A outer s H vs Q E hr hsp
end
/-! ### try -/
section
variable {X : Cx}
def PEX (X : Cx) (e : Expr) (t : St → Hp → VK → XK → Prop) : Prop := ∀ (pins : List (Addr × Obj)) (s : Shared) (σ : St) (H : Hp) (Q : VK) (EX : XK), Inv X pins σ H s → t σ H Q EX →
  wpAny (model X.prog X.w) X.A (eval e X.env) (EP X pins σ Q) (fun ev s' => ∃ H1 s1, Inv X pins σ H1 s1 ∧ CXR X.prog X.w X.stack H1 s1 EX ev s') s
/-- a caught exception, as it is tracked in the suite -/
def excO (cls : Value) (a : Addr) (od : Option Addr) : HO := .ext fun h => ∃ o vs, h.get? a = some o ∧ (o.cls = cls ∧ o.dict = od) ∧ o.data = .fields vs
theorem land {pins : List (Addr × Obj)} {σ : St} {H1 H' : Hp} {s1 s' : Shared} {a t : Addr} {cls : Value} {od : Option Addr} {B h6 : Heap} (I : Inv X pins σ H1 s1) (F : Fly X.prog X.w X.stack H1 H' s1 s' a t cls od B)
    (fl : FlyD B X.stack a cls (.ref t) od h6) (sm : s'.heap.UpToSlots h6) : Inv X pins σ (upd H' a (excO cls a od)) { s' with heap := h6 } := by
  obtain ⟨oe, vs, ee, ec, eo, ed⟩ := fl.obj
  have neB : ∀ b o, B.get? b = some o → b ≠ a := fun b o e z => by rw [z, fl.1.2] at e; cases e
  have neF : ∀ b, b ∈ frs X.stack → b ≠ a := fun b hb z => by
    obtain ⟨_, o, ho, nf⟩ := Heap.FunFrames.mem fl.2.1 hb
    rw [z, ee] at ho; cases ho
    exact nf _ ed
  have slots : ∀ b o, s'.heap.get? b = some o → b ∈ frs X.stack → ∃ sl, h6.get? b = some { o with slots := sl } := fun b o e hb => by
    obtain ⟨_, o', ho', nf⟩ := Heap.FunFrames.mem F.fly.2.1 hb
    rw [e] at ho'; cases ho'
    exact sm b o e nf
  have neT : ∀ b u, H' b = some u → b ≠ a := fun b u e z => by rw [z, F.new] at e; cases e
  have up : ∀ b u, H' b = some u → upd H' a (excO cls a od) b = some u := fun b u e => by rw [upd_ne (neT b u e)]; exact e
  refine I.call' (ch := []) F.os ⟨?_, ?_, ?_, ?_, ?_, ?_, ?_⟩ ?_ F.bare (fun _ z => nomatch z)
  · exact fun b o e n nf _ => fl.1.1 b o (F.old b o e n nf)
  · intro b o e n hb nx
    obtain ⟨sl, q1⟩ := F.un.slot b o e n hb nx
    obtain ⟨sl2, q2⟩ := slots b _ q1 hb
    exact ⟨sl2, q2⟩
  · intro b o e n nx
    have z : b ≠ a := by
      by_cases hb : b ∈ frs X.stack
      · exact neF b hb
      · exact neB b o (F.old b o e n hb)
    rw [upd_ne z]
    exact F.un.free b o e n nx
  · intro b o e nx
    by_cases hb : b ∈ frs X.stack
    · obtain ⟨o1, q1⟩ := F.un.there b o e nx
      obtain ⟨sl2, q2⟩ := slots b _ q1 hb
      exact ⟨_, q2⟩
    · obtain ⟨o3, q3⟩ := F.all b o e hb
      exact ⟨o3, fl.1.1 b o3 q3⟩
  · exact fun b xs z => up b _ (F.un.tups b xs z)
  · exact fun b o u z => up b _ (F.un.frzs b o u z)
  · intro b ps z
    obtain ⟨m, z1⟩ := F.un.tbls b ps z
    exact ⟨m, up b _ z1⟩
  · intro b u e
    by_cases hb : b = a
    · subst hb
      rw [upd_same] at e
      cases e
      exact ⟨⟨oe, vs, ee, ⟨ec, eo⟩, ed⟩, ⟨oe, ee⟩, fun h1 h2 ⟨o, v, q1, q2, q3⟩ k => ⟨o, v, k o q1, q2, q3⟩⟩
    · rw [upd_ne hb] at e
      refine (HOk.fromB F.hok F.trk fl.1.1 b u e).stay (fun c v _ q => q) (fun c q => up c _ q) fun c xs q => up c _ q
/-- the context of an except suite -/
abbrev Cx.marked (X : Cx) (e : Value) : Cx := { X with A := X.A.mark (some e), calm := false, xe := fun _ _ => False }
theorem Inv.marked {pins : List (Addr × Obj)} {σ : St} {H : Hp} {s : Shared} (I : Inv X pins σ H s) (e : Value) : Inv (X.marked e) pins σ H s :=
  ⟨⟨I.ok.mod, I.ok.kind, I.ok.glob, I.ok.blt, I.ok.above, I.ok.inj, I.ok.has, I.ok.cab, (fun z => nomatch z), I.ok.frames, I.ok.stk, I.ok.exf, I.ok.bs, I.ok.bsz, I.ok.noex, I.ok.exfs, I.ok.funs, I.ok.frf⟩, I.os, I.bare, I.base, I.loc, I.cell, I.free, I.freeC, I.pin, I.hok, I.len⟩
theorem Inv.unmarked {pins : List (Addr × Obj)} {σ : St} {H : Hp} {s : Shared} {e : Value} (ok : X.Ok) (I : Inv (X.marked e) pins σ H s) : Inv X pins σ H s :=
  ⟨ok, I.os, I.bare, I.base, I.loc, I.cell, I.free, I.freeC, I.pin, I.hok, I.len⟩
/-- try: CALL / except C as n: suite -/
def sufE (D : Ends) (i : Nat) : Ends := { nx := fun σ' H' => D.nx (σ'.set i none) H', rt := D.rt, bk := fun σ' H' => D.bk (σ'.set i none) H', ct := fun σ' H' => D.ct (σ'.set i none) H' }
def tTryAs (tx : St → Hp → VK → XK → Prop) (K : PySem.W.Frag) (C : Addr) (i : Nat) (ts : TS) : TS := fun D σ H =>
  tx σ H (fun _ H1 => D.nx σ H1) fun cls od H1 => PySem.W.exmOne K cls (.ref C) = some true ∧ ∀ a, H1 a = none → ts (sufE D i) (σ.set i (some (.ref a))) (upd H1 a (excO cls a od))
def tTry0 (tx : St → Hp → VK → XK → Prop) (K : PySem.W.Frag) (C : Addr) (ts : TS) : TS := fun D σ H =>
  tx σ H (fun _ H1 => D.nx σ H1) fun cls od H1 => PySem.W.exmOne K cls (.ref C) = some true ∧ ∀ a, H1 a = none → ts D σ (upd H1 a (excO cls a od))
variable {e : Expr} {tx : St → Hp → VK → XK → Prop} {p1 np hpos pos : Pos} {y n : Str} {C : Addr} {i : Nat} {b₀ : Stmt} {suite : List Stmt} {ts : TS}
end
end L2

/-! calls within an except suite -/
namespace L2
open PySem PySem.Spec PyProof.Rows
structure RoomN (k : Nat) (A : Around) : Prop where
  dp : A.depth + 3 * k + 5 < recursionLimit
  un : A.units + 16 * k + 200 < cLine
structure FnOkN (P : Program) (w : World) (K : PySem.W.Frag) (mg : Str → Option Value) (base : Heap) (CX : CXT) (k : Nat) (f : Addr) (fd : FuncData) (ps : List Str) (sp : Sp) : Prop where
  len : ∀ vs H Q E, sp vs H Q E → vs.length = ps.length
  run : ∀ (A : Around) (outer : List Env) (s : Shared) (H : Hp) (args : Args) (us : List Value) (vs : List V) (Q : VK) (E : XK), RoomN k A → Env0 P w K mg base A outer s H → BindsTo s fd args (ps.zip us) → Vals vs us → sp vs H Q E →
    codeAny (model P w) A (.call (.ref f) args) (CR CX outer P w H s Q E) s
section
variable {X : Cx} {CX : CXT} {k : Nat} {f C : Addr} {fd : FuncData} {ps : List Str} {sp : Sp} {dvs : List V} {ds : List Value} {E : XK} {x m : Str} {p pos apos : Pos} {e o : Expr} {es : List Expr} {ta : TE} {t : TA}
end
/-- the context of a def's body, at its entry; an exception leaves the frame, then lies as CX says -/
def cxOfN (CX : CXT) (P : Program) (w : World) (K : PySem.W.Frag) (mg : Str → Option Value) (base : Heap) (N : List Str) (qual : Str) (scope : Scope) (f : Addr) (cd : Value) (A : Around) (outer : List Env) (s : Shared) (H : Hp) (E : XK) : Cx where
  prog := P
  w := w
  K := K
  mg := mg
  base := base
  A := A.deeper (envOfC qual scope s.heap.objs.size f cd)
  N := N
  s₀ := s
  H₀ := H
  env := envOfC qual scope s.heap.objs.size f cd
  outer := outer
  stack := envOfC qual scope s.heap.objs.size f cd :: outer
  ex := []
  calm := false
  fn := fun _ => true
  pn := []
  xe := fun e s' => wpAny (model P w) (A.deeper (envOfC qual scope s.heap.objs.size f cd)) (leaving (envOfC qual scope s.heap.objs.size f cd) e) (fun _ s'' => CX outer H s E e s'') (fun e' s'' => CX outer H s E e' s'') s'

section
variable {P : Program} {w : World} {K : PySem.W.Frag} {mg : Str → Option Value} {base : Heap}
end
end L2

/-! READINGS THAT COMPUTE: the same rules, their readings by cases of the values (no witnesses asked where the values are known) -/
namespace L2
open PySem PySem.Spec PyProof.Rows
theorem PE.imp {X : Cx} {e : Expr} {t t' : TE} (h : PE X e t) (i : ∀ σ H Q, t' σ H Q → t σ H Q) : PE X e t' := fun pins s σ H Q I q => h pins s σ H Q I (i σ H Q q)
theorem PS.imp {X : Cx} {e : Stmt} {t t' : TS} (h : PS X e t) (i : ∀ D σ H, t' D σ H → t D σ H) : PS X e t' := fun pins s σ H D I q => h pins s σ H D I (i D σ H q)
theorem OpR.imp {X : Cx} {f : Value → Value → Sem Value} {r r' : R2} (h : OpR X f r) (i : ∀ x y H Q, r' x y H Q → r x y H Q) : OpR X f r' := fun pins s σ H x y v u Q I rx ry q => h pins s σ H x y v u Q I rx ry (i x y H Q q)
theorem CallR.imp {X : Cx} {f : Value} {r r' : List V → Hp → VK → Prop} (h : CallR X f r) (i : ∀ xs H Q, r' xs H Q → r xs H Q) : CallR X f r' := fun pins s σ H xs us Q I rv q => h pins s σ H xs us Q I rv (i xs H Q q)
theorem IxR.imp {X : Cx} {r r' : R2} (h : IxR X r) (i : ∀ x y H Q, r' x y H Q → r x y H Q) : IxR X r' := fun va sl pins s σ H x y v u Q I rx ry q hs => h va sl pins s σ H x y v u Q I rx ry (i x y H Q q) hs
/-! ### by cases (recursors: they compute whatever their value is written like) -/
def oV (o : Option (Option V)) (k : V → Prop) : Prop := @Option.rec (Option V) (fun _ => Prop) False (fun o => @Option.rec V (fun _ => Prop) False k o) o
def vI (x : V) (k : Int → Prop) : Prop := @V.rec (fun _ => Prop) False (fun _ => False) k (fun _ => False) (fun _ => False) (fun _ => False) (fun _ => False) (fun _ => False) x
def vB (x : V) (k : Bool → Prop) : Prop := @V.rec (fun _ => Prop) False k (fun _ => False) (fun _ => False) (fun _ => False) (fun _ => False) (fun _ => False) (fun _ => False) x
def vS (x : V) (k : Str → Prop) : Prop := @V.rec (fun _ => Prop) False (fun _ => False) (fun _ => False) k (fun _ => False) (fun _ => False) (fun _ => False) (fun _ => False) x
def vR (x : V) (k : Addr → Prop) : Prop := @V.rec (fun _ => Prop) False (fun _ => False) (fun _ => False) (fun _ => False) (fun _ => False) (fun _ => False) k (fun _ => False) x
def l1 (vs : List V) (k : V → Prop) : Prop := @List.rec V (fun _ => Prop) False (fun x r _ => @List.rec V (fun _ => Prop) (k x) (fun _ _ _ => False) r) vs
def l2 (vs : List V) (k : V → V → Prop) : Prop := @List.rec V (fun _ => Prop) False (fun x r _ => l1 r fun y => k x y) vs
theorem oV.ex {o : Option (Option V)} {k : V → Prop} (h : oV o k) : ∃ v, o = some (some v) ∧ k v := by
  cases o with
  | none => exact h.elim
  | some o => cases o with
    | none => exact h.elim
    | some v => exact ⟨v, rfl, h⟩
theorem vI.ex {x : V} {k : Int → Prop} (h : vI x k) : ∃ i, x = .int i ∧ k i := by
  cases x with
  | int i => exact ⟨i, rfl, h⟩
  | _ => exact h.elim
theorem vB.ex {x : V} {k : Bool → Prop} (h : vB x k) : ∃ i, x = .bl i ∧ k i := by
  cases x with
  | bl i => exact ⟨i, rfl, h⟩
  | _ => exact h.elim
theorem vR.ex {x : V} {k : Addr → Prop} (h : vR x k) : ∃ i, x = .ref i ∧ k i := by
  cases x with
  | ref i => exact ⟨i, rfl, h⟩
  | _ => exact h.elim
theorem l1.ex {vs : List V} {k : V → Prop} (h : l1 vs k) : ∃ x, vs = [x] ∧ k x := by
  match vs, h with
  | [x], h => exact ⟨x, rfl, h⟩
theorem l2.ex {vs : List V} {k : V → V → Prop} (h : l2 vs k) : ∃ x y, vs = [x, y] ∧ k x y := by
  match vs, h with
  | [x, y], h => exact ⟨x, y, rfl, h⟩
/-! ### names -/
def dVar (i : Nat) : TE := fun σ H Q => oV σ[i]? fun v => Q v H
section
variable {X : Cx}
theorem dv (i : Nat) {x : Str} {pos : Pos} (hN : X.N[i]? = some x := by rfl) (hv : Vis X.env.scope x := by first | exact Or.inl rfl | exact Or.inr (Or.inl rfl) | exact Or.inr (Or.inr rfl)) (hd : (x == ("__debug__" : Str)) = false := by decide)
    (hcd : (x == ("__classdict__" : Str)) = false := by decide) : PE X (.Name x pos) (dVar i) := (pe_var hN hv hd hcd).imp fun σ H Q h => h.ex
/-! ### operations -/
def mI (C : Int → Int → Prop) (g : Int → Int → V) : R2 := fun x y H Q => vI x fun i => vI y fun j => C i j ∧ Q (g i j) H
def mI0 (g : Int → Int → V) : R2 := fun x y H Q => vI x fun i => vI y fun j => Q (g i j) H
theorem mI.to {C : Int → Int → Prop} {g : Int → Int → V} : ∀ x y H Q, mI C g x y H Q → rI C g x y H Q := fun x y H Q h => by
  obtain ⟨i, rfl, h1⟩ := vI.ex h
  clear h
  obtain ⟨j, rfl, h⟩ := vI.ex h1
  exact ⟨_, _, rfl, rfl, h.1, h.2⟩
theorem mI0.to {g : Int → Int → V} : ∀ x y H Q, mI0 g x y H Q → rI0 g x y H Q := fun x y H Q h => by
  obtain ⟨i, rfl, h1⟩ := vI.ex h
  clear h
  obtain ⟨j, rfl, h⟩ := vI.ex h1
  exact ⟨_, _, rfl, rfl, h⟩
def mU (g : Int → V) : V → Hp → VK → Prop := fun x H Q => vI x fun i => Q (g i) H
theorem z_add : OpR X (binaryOp .Add) (mI0 fun i j => .int (i + j)) := op_add.imp mI0.to
theorem z_sub : OpR X (binaryOp .Sub) (mI0 fun i j => .int (i - j)) := op_sub.imp mI0.to
theorem z_mul : OpR X (binaryOp .Mult) (mI CMulB fun i j => .int (i * j)) := op_mulB.imp mI.to
theorem z_fdiv : OpR X (binaryOp .FloorDiv) (mI CDiv fun i j => .int (i / j)) := op_fdiv.imp mI.to
theorem z_mod : OpR X (binaryOp .Mod) (mI (fun _ j => 0 < j) fun i j => .int (i % j)) := op_mod.imp mI.to
theorem z_lt : OpR X (compareOp .Lt) (mI0 fun i j => .bl (decide (i < j))) := op_lt.imp mI0.to
theorem z_le : OpR X (compareOp .LtE) (mI0 fun i j => .bl (decide (i ≤ j))) := op_le.imp mI0.to
theorem z_gt : OpR X (compareOp .Gt) (mI0 fun i j => .bl (decide (j < i))) := op_gt.imp mI0.to
theorem z_ge : OpR X (compareOp .GtE) (mI0 fun i j => .bl (decide (j ≤ i))) := op_ge.imp mI0.to
theorem dI {i j : Int} : decide (V.int i = V.int j) = decide (i = j) := by
  by_cases h : i = j
  · rw [decide_eq_true h, decide_eq_true (congrArg V.int h)]
  · rw [decide_eq_false h, decide_eq_false fun z => h (V.int.inj z)]
theorem dS {i j : Str} : decide (V.str i = V.str j) = decide (i = j) := by
  by_cases h : i = j
  · rw [decide_eq_true h, decide_eq_true (congrArg V.str h)]
  · rw [decide_eq_false h, decide_eq_false fun z => h (V.str.inj z)]
theorem dB {i j : Bool} : decide (V.bl i = V.bl j) = decide (i = j) := by
  by_cases h : i = j
  · rw [decide_eq_true h, decide_eq_true (congrArg V.bl h)]
  · rw [decide_eq_false h, decide_eq_false fun z => h (V.bl.inj z)]
/-- == of two scalars -/
def eqW (f : Bool → Prop) (x y : V) : Prop := @V.rec (fun _ => Prop)
  (@V.rec (fun _ => Prop) (f true) (fun _ => False) (fun _ => f false) (fun _ => f false) (fun _ => False) (fun _ => False) (fun _ => False) (fun _ => False) y)
  (fun i => @V.rec (fun _ => Prop) False (fun j => f (decide (i = j))) (fun _ => False) (fun _ => False) (fun _ => False) (fun _ => False) (fun _ => False) (fun _ => False) y)
  (fun i => @V.rec (fun _ => Prop) (f false) (fun _ => False) (fun j => f (decide (i = j))) (fun _ => f false) (fun _ => False) (fun _ => False) (fun _ => False) (fun _ => False) y)
  (fun i => @V.rec (fun _ => Prop) (f false) (fun _ => False) (fun _ => f false) (fun j => f (decide (i = j))) (fun _ => False) (fun _ => False) (fun _ => False) (fun _ => False) y)
  (fun _ => False) (fun _ => False) (fun _ => False) (fun _ => False) x
theorem eqW.ex {f : Bool → Prop} {x y : V} (h : eqW f x y) : scal x y = true ∧ f (decide (x = y)) := by
  cases x with
  | non => cases y <;> first | exact h.elim | exact ⟨rfl, h⟩
  | bl i => cases y <;> first | exact h.elim | (exact ⟨rfl, by rw [dB]; exact h⟩)
  | int i => cases y <;> first | exact h.elim | exact ⟨rfl, h⟩ | (exact ⟨rfl, by rw [dI]; exact h⟩)
  | str i => cases y <;> first | exact h.elim | exact ⟨rfl, h⟩ | (exact ⟨rfl, by rw [dS]; exact h⟩)
  | _ => exact h.elim
def mEq : R2 := fun x y H Q => eqW (fun b => Q (.bl b) H) x y
def mNe : R2 := fun x y H Q => eqW (fun b => Q (.bl (!b)) H) x y
theorem z_eq : OpR X (compareOp .Eq) mEq := op_eq.imp fun x y H Q h => eqW.ex (f := fun b => Q (.bl b) H) h
theorem z_ne : OpR X (compareOp .NotEq) mNe := op_ne.imp fun x y H Q h => eqW.ex (f := fun b => Q (.bl (!b)) H) h
def vN (x : V) (k : Prop) : Prop := @V.rec (fun _ => Prop) k (fun _ => False) (fun _ => False) (fun _ => False) (fun _ => False) (fun _ => False) (fun _ => False) (fun _ => False) x
theorem vN.ex {x : V} {k : Prop} (h : vN x k) : x = .non ∧ k := by
  cases x with
  | non => exact ⟨rfl, h⟩
  | _ => exact h.elim
def mIsN : R2 := fun x y H Q => vN y (Q (.bl (decide (x = .non))) H)
def mNotN : R2 := fun x y H Q => vN y (Q (.bl (!decide (x = .non))) H)
theorem z_isN : OpR X (compareOp .Is) mIsN := op_isN.imp fun x y H Q h => vN.ex h
theorem z_notN : OpR X (compareOp .IsNot) mNotN := op_notN.imp fun x y H Q h => vN.ex h
/-! ### tests -/
section
variable {a b c : Expr} {ta tb tc : TE} {pos : Pos} {rest : List Expr}
theorem vB_iff {x : V} {k : Bool → Prop} : vB x k = ∃ i, x = .bl i ∧ k i := propext ⟨vB.ex, fun ⟨i, e, h⟩ => by subst e; exact h⟩
def dTest (t : TE) : TT := fun σ H Q => t σ H fun x H' => vB x fun k => Q k H'
theorem dTest_eq (t : TE) : dTest t = tTest t := by
  funext σ H Q
  unfold dTest tTest
  simp only [vB_iff]
theorem dTest_eqB (t : TE) : dTest t = tB t := by
  funext σ H Q
  unfold dTest tB
  simp only [vB_iff]
theorem md_cmp {op : CmpOp} {r : R2} (ho : OpR X (compareOp op) r) (ha : PE X a ta) (hb : PE X b tb) (hm : behindInMarks op b = false) : PT X (.Compare a [op] [b] pos) (dTest (tOp r ta tb)) := by
  rw [dTest_eq]; exact pt_cmpR ho ha hb hm
theorem md_val {e : Expr} {t : TE} (h : PE X e t) (he : ∀ whole, isTrue e X.env whole = (do let v ← whole; standAt e.pos; holding [v] (truthy v)) := by intro _; rfl) : PT X e (dTest t) := by
  rw [dTest_eqB]; exact pt_val h he
def dAnd (ta tb : TE) : TE := fun σ H Q => ta σ H fun x H1 => vB x fun c => if c = true then tb σ H1 Q else Q (.bl false) H1
def dOr (ta tb : TE) : TE := fun σ H Q => ta σ H fun x H1 => vB x fun c => if c = true then Q (.bl true) H1 else tb σ H1 Q
def dNot (ta : TE) : TE := fun σ H Q => ta σ H fun x H1 => vB x fun c => Q (.bl (!c)) H1
theorem dAnd_eq : dAnd ta tb = tAndV ta tb := by
  funext σ H Q
  unfold dAnd tAndV
  simp only [vB_iff]
theorem dOr_eq : dOr ta tb = tOrV ta tb := by
  funext σ H Q
  unfold dOr tOrV
  simp only [vB_iff]
theorem md_and (ha : PE X a ta) (hb : PE X (.BoolOp .And (b :: rest) pos) tb) : PE X (.BoolOp .And (a :: b :: rest) pos) (dAnd ta tb) := by
  rw [dAnd_eq]; exact pe_and ha hb
theorem md_or (ha : PE X a ta) (hb : PE X (.BoolOp .Or (b :: rest) pos) tb) : PE X (.BoolOp .Or (a :: b :: rest) pos) (dOr ta tb) := by
  rw [dOr_eq]; exact pe_or ha hb
end
/-! ### lists and tuples that are read -/
def SqA (K : PySem.W.Frag) (H : Hp) (a : Addr) (xs : List V) : Prop := SqL K H a xs ∨ SqT K H a xs
def mIxL (K : PySem.W.Frag) : R2 := fun x y H Q => vR x fun p => vI y fun i => ∃ xs v, SqL K H p xs ∧ atI xs i = some v ∧ Q v H
def mIxT (K : PySem.W.Frag) : R2 := fun x y H Q => vR x fun p => vI y fun i => ∃ xs v, SqT K H p xs ∧ atI xs i = some v ∧ Q v H
def mIxS : R2 := fun x y H Q => vS x fun z => vI y fun i => ∃ c, z.length ≤ sizeLine ∧ atI z.cps.toList i = some c ∧ Q (.str ⟨#[c]⟩) H
theorem z_ixL : IxR X (mIxL X.K) := ix_list.imp fun x y H Q h => by
  obtain ⟨p, rfl, h⟩ := vR.ex h
  obtain ⟨i, rfl, xs, v, h1, h2, h3⟩ := vI.ex h
  exact ⟨_, xs, _, v, rfl, rfl, h1, h2, h3⟩
theorem z_ixT : IxR X (mIxT X.K) := ix_tup.imp fun x y H Q h => by
  obtain ⟨p, rfl, h⟩ := vR.ex h
  obtain ⟨i, rfl, xs, v, h1, h2, h3⟩ := vI.ex h
  exact ⟨_, xs, _, v, rfl, rfl, h1, h2, h3⟩
def mLen (K : PySem.W.Frag) : List V → Hp → VK → Prop := fun xs H Q => l1 xs fun x => vR x fun p => ∃ ys, SqA K H p ys ∧ Q (.int ys.length) H
theorem z_len : CallR X (.builtin "len") (mLen X.K) := call_len_seq.imp fun xs H Q h => by
  obtain ⟨x, rfl, h⟩ := l1.ex h
  obtain ⟨p, rfl, ys, h1, h2⟩ := vR.ex h
  exact ⟨_, ys, rfl, h1, h2⟩
def mLenS : List V → Hp → VK → Prop := fun xs H Q => l1 xs fun x => vS x fun z => z.length ≤ sizeLine ∧ Q (.int z.length) H
def mListOf (K : PySem.W.Frag) : List V → Hp → VK → Prop := fun xs H Q => l1 xs fun x => vR x fun p => ∃ ys, SqA K H p ys ∧ ∀ l, H l = none → Q (.ref l) (upd H l (.lst ys))
theorem z_listOf : CallR X (.type "list") (mListOf X.K) := call_list_of.imp fun xs H Q h => by
  obtain ⟨x, rfl, h⟩ := l1.ex h
  obtain ⟨p, rfl, ys, h1, h2⟩ := vR.ex h
  exact ⟨_, ys, rfl, h1, h2⟩
def mMin2 : List V → Hp → VK → Prop := fun xs H Q => l2 xs fun x y => vI x fun i => vI y fun j => Q (.int (min i j)) H
def mMax2 : List V → Hp → VK → Prop := fun xs H Q => l2 xs fun x y => vI x fun i => vI y fun j => Q (.int (max i j)) H
theorem z_max2 (hc : X.calm = true) : CallR X (.builtin "max") mMax2 := (call_max2 hc).imp fun xs H Q h => by
  obtain ⟨x, y, rfl, h⟩ := l2.ex h
  obtain ⟨i, rfl, h⟩ := vI.ex h
  obtain ⟨j, rfl, h⟩ := vI.ex h
  refine ⟨_, _, rfl, ?_⟩
  have e : (if j > i then j else i) = max i j := by omega
  rw [e]; exact h
/-- isinstance(x, T) of a built-in type: a rule for each T -/
def isiR (T : String) (f : V → Hp → VK → Prop) : List V → Hp → VK → Prop := fun xs H Q => l2 xs fun x c => c = .ty T ∧ f x H Q
def mIsiInt : V → Hp → VK → Prop := fun x H Q => @V.rec (fun _ => Prop) False (fun _ => Q (.bl true) H) (fun _ => Q (.bl true) H) (fun _ => Q (.bl false) H) (fun _ => False) (fun _ => False) (fun _ => False) (fun _ => False) x
def mIsiBool : V → Hp → VK → Prop := fun x H Q => @V.rec (fun _ => Prop) False (fun _ => Q (.bl true) H) (fun _ => Q (.bl false) H) (fun _ => False) (fun _ => False) (fun _ => False) (fun _ => False) (fun _ => False) x
def mIsiStr : V → Hp → VK → Prop := fun x H Q => @V.rec (fun _ => Prop) False (fun _ => False) (fun _ => Q (.bl false) H) (fun _ => Q (.bl true) H) (fun _ => False) (fun _ => False) (fun _ => False) (fun _ => False) x
def mIsiList : V → Hp → VK → Prop := fun x H Q => @V.rec (fun _ => Prop) False (fun _ => False) (fun _ => Q (.bl false) H) (fun _ => Q (.bl false) H) (fun _ => False) (fun _ => False) (fun p => (∃ xs, H p = some (.lst xs)) ∧ Q (.bl true) H) (fun _ => False) x
def mIsiTuple : V → Hp → VK → Prop := fun x H Q => @V.rec (fun _ => Prop) False (fun _ => False) (fun _ => Q (.bl false) H) (fun _ => False) (fun _ => False) (fun _ => False) (fun p => (∃ xs, H p = some (.tup xs)) ∧ Q (.bl true) H) (fun _ => False) x
end
section
variable {K : PySem.W.Frag}
theorem isi_int_list : PySem.W.kitOne K (.type "int") (.type "list") = some false := by first | rfl | decide +kernel
theorem isi_str_list : PySem.W.kitOne K (.type "str") (.type "list") = some false := by first | rfl | decide +kernel
end
section
variable {X : Cx}
theorem isi_of {T : String} {f : V → Hp → VK → Prop} (h : ∀ x H Q, f x H Q → ∃ t b, TyOf X.K H x t ∧ PySem.W.kitOne X.K t (.type T) = some b ∧ Q (.bl b) H) : CallR X (.builtin "isinstance") (isiR T f) := call_isi.imp fun xs H Q q => by
  obtain ⟨x, c, rfl, q⟩ := l2.ex q
  obtain ⟨ec, q2⟩ := q
  subst ec
  obtain ⟨t, b, h1, h2, h3⟩ := h x H Q q2
  exact ⟨_, _, _, t, b, rfl, rfl, h1, h2, h3⟩
theorem z_isi_bool : CallR X (.builtin "isinstance") (isiR "bool" mIsiBool) := isi_of fun x H Q q => by
  cases x with
  | int i => exact ⟨_, _, .int _, isi_int_bool, q⟩
  | bl i => exact ⟨_, _, .bl _, isi_bool_bool, q⟩
  | _ => exact q.elim
theorem z_isi_list : CallR X (.builtin "isinstance") (isiR "list" mIsiList) := isi_of fun x H Q q => by
  cases x with
  | int i => exact ⟨_, _, .int _, isi_int_list, q⟩
  | str i => exact ⟨_, _, .str _, isi_str_list, q⟩
  | ref p =>
    obtain ⟨⟨xs, hp⟩, q⟩ := q
    exact ⟨_, _, .lst hp, isi_list_list, q⟩
  | _ => exact q.elim
/-! ### n.bit_length(), xs.append(x), xs.pop() -/
def tCutA (t : TA) : TA := fun σ H Q => ∃ P : List V → Hp → Prop, t σ H P ∧ ∀ x H', P x H' → Q x H'
theorem pa_cut {es : List Expr} {t : TA} (h : PA X es t) : PA X es (tCutA t) := by
  intro pos pins s σ H Q I hw
  obtain ⟨P, h1, h2⟩ := hw
  exact thn (h pos pins s σ H P I h1) fun v s1 ⟨x, H1, I1, r, q⟩ => ⟨x, H1, I1, r, h2 x H1 q⟩
section
variable {o e : Expr} {es : List Expr} {to : TE} {t : TA} {apos cpos : Pos}
def dBl (to : TE) : TE := fun σ H Q => to σ H fun x H1 => vI x fun i => Q (.int ((Builtin.Int.intBits i : Nat) : Int)) H1
def dAppend (K : PySem.W.Frag) (to : TE) (t : TA) : TE := fun σ H Q => to σ H fun x H1 => vR x fun l => (∃ xs, SqL K H1 l xs) ∧ t σ H1 fun vs H2 => l1 vs fun y => ∃ xs, H2 l = some (.lst xs) ∧ xs.length < sizeLine ∧ Q .non (upd H2 l (.lst (xs ++ [y])))
theorem md_append (ho : PE X o to) (ha : PA X [e] t) (hbase : attributeBase o "append" X.env (eval o X.env) = eval o X.env := by rfl)
    (hfew : ((backTo cpos (starEach [e] X.env)).all (fun x => !x.1) && (backToKw cpos (keywordEach [] X.env)).all (fun x => x.1.isSome)
      && decide (([e] : List Expr).length + ([] : List Keyword).length + (if ([] : List Keyword).isEmpty then 0 else 1) < 30)) = true := by rfl)
    (hline : (apos.endLine == cpos.line) = true := by rfl) (hs : starEach [e] X.env = (false, eval e X.env) :: starEach [] X.env := by rfl) (hplain : (backTo cpos (starEach [] X.env)).any (·.1) = false := by rfl) :
    PE X (.Call (.Attribute o "append" apos) [e] [] cpos) (dAppend X.K to t) :=
  (pe_bm PySem.F.plainAttrs_list PySem.F.slot_list_append PySem.F.type_list_append mt_append (pe_cut ho) (pa_cut ha) hbase hfew hline hs hplain).imp fun σ H Q h => ⟨_, h, fun x H1 q => by
    obtain ⟨l, rfl, q1, q2⟩ := vR.ex q
    refine ⟨.inl ⟨rfl, q1⟩, _, q2, fun vs H2 q3 => ?_⟩
    obtain ⟨y, rfl, xs, h1, h2, h3⟩ := l1.ex q3
    exact ⟨l, xs, y, rfl, rfl, h1, h2, h3⟩⟩
def dPop (K : PySem.W.Frag) (to : TE) : TE := fun σ H Q => to σ H fun x H1 => vR x fun l => ∃ xs y, H1 l = some (.lst xs) ∧ xs[xs.length - 1]? = some y ∧ Q y (upd H1 l (.lst xs.dropLast))
/-! ### slices -/
def dPart (t : TE) : TO := fun σ H Q => t σ H fun x H1 => vI x fun i => Q (some i) H1
theorem PO.imp {e : Option Expr} {t t' : TO} (h : PO X e t) (i : ∀ σ H Q, t' σ H Q → t σ H Q) : PO X e t' := fun pins s σ H Q I q => h pins s σ H Q I (i σ H Q q)
theorem md_part (h : PE X e to) : PO X (some e) (dPart to) := (po_some (pe_cut h)).imp fun σ H Q q => ⟨_, q, fun x H1 z => vI.ex z⟩
def mSlL (K : PySem.W.Frag) : V → Option Int → Option Int → Hp → VK → Prop := fun x lo hi H Q => vR x fun a => ∃ xs, SqL K H a xs ∧ ∀ p, H p = none → Q (.ref p) (upd H p (.lst (cutV xs lo hi)))
theorem SlR.imp {r r' : V → Option Int → Option Int → Hp → VK → Prop} (h : SlR X r) (i : ∀ x lo hi H Q, r' x lo hi H Q → r x lo hi H Q) : SlR X r' := by
  intro pins s σ H x v vl vu lo hi sl Q I rx hs pl pu q
  exact h pins s σ H x v vl vu lo hi sl Q I rx hs pl pu (i _ _ _ _ _ q)
theorem z_slL : SlR X (mSlL X.K) := sl_list.imp fun x lo hi H Q h => by
  obtain ⟨a, rfl, xs, h1, h2⟩ := vR.ex h
  exact ⟨_, xs, rfl, h1, h2⟩
/-! ### what a loop walks -/
variable {tg : Expr}
theorem PI.imp {iter : Expr} {w w' : TI} (h : PI X tg iter w) (i : ∀ σ H R, w' σ H R → w σ H R) : PI X tg iter w' := fun pins s σ H R I q => h pins s σ H R I (i σ H R q)
def dList (K : PySem.W.Frag) (tl : TE) : TI := fun σ H R => tl σ H fun x H1 => vR x fun a => (∃ xs, SqL K H1 a xs) ∧ R (Itl K a) H1
def dTupI (K : PySem.W.Frag) (tl : TE) : TI := fun σ H R => tl σ H fun x H1 => vR x fun a => (∃ xs, SqT K H1 a xs) ∧ R (Itt K a) H1
theorem mi_list {l : Expr} {tl : TE} (hl : PE X l tl) : PI X tg l (dList X.K tl) := (pi_list (pe_cut hl)).imp fun σ H R h => ⟨_, h, fun x H1 q => vR.ex q⟩
def dRng1 (ta : TA) : TI := fun σ H R => ta σ H fun vs H1 => l1 vs fun x => vI x fun j => (-(2 ^ 62) ≤ j ∧ j < 2 ^ 62) ∧ R (Itr 0 j.toNat) H1
def dRng2 (ta : TA) : TI := fun σ H R => ta σ H fun vs H1 => l2 vs fun x y => vI x fun i => vI y fun j => (-(2 ^ 62) ≤ i ∧ i < 2 ^ 62 ∧ -(2 ^ 62) ≤ j ∧ j < 2 ^ 62) ∧ R (Itr i (j - i).toNat) H1
theorem mi_range1 {a : Expr} {ta : TA} {p pos : Pos} (hg : Gl X "range") (hm : X.mg "range" = none) (ha : PA X [a] ta) (hs : starEach [a] X.env = [(false, eval a X.env)] := by rfl) : PI X tg (.Call (.Name "range" p) [a] [] pos) (dRng1 ta) :=
  (pi_range1 hg hm (pa_cut ha) hs).imp fun σ H R h => ⟨_, h, fun vs H1 q => by
    obtain ⟨x, rfl, q⟩ := l1.ex q
    obtain ⟨j, rfl, q⟩ := vI.ex q
    exact ⟨j, rfl, q.1.1, q.1.2, q.2⟩⟩
/-! ### xs[i] = v -/
def mSetL : V → V → V → Hp → (Hp → Prop) → Prop := fun o i v H Q => vR o fun p => vI i fun k => ∃ xs j, H p = some (.lst xs) ∧ ixN xs.length k = some j ∧ Q (upd H p (.lst (xs.set j v)))
end
end
end L2

/-! an exception that passes a comprehension -/
namespace L2
open PySem PySem.Spec PyProof.Rows
section
variable {M : Model} {A : Around} {E : Value → Shared → Prop} {s : Shared} {B : Heap} {env : Env} {outer l : List Env} {L e : Addr} {k a0 fl : Value} {od : Option Addr}
end
end L2

/-! COMPREHENSIONS over the layer: [e for x in it], [e for x in it if c], as a value and as name = .. -/
namespace L2
open PySem PySem.Spec PyProof.Rows
/-- the names and values of the def that a comprehension sees, by their places -/
def subN (N : List Str) (ix : List Nat) : List Str := ix.map fun i => N.getD i ""
def subS (σ : St) (ix : List Nat) : St := ix.map fun i => σ.getD i none
/-- an exception that leaves a comprehension's block: the frame is noted, the block's names go, it is handed on -/
def compXe (X : Cx) (scope : Scope) (cl : List (Str × Addr)) (C : Addr) : Value → Shared → Prop := notedBy (model X.prog X.w) X.A (compEnvC scope cl C X.env) fun e s' =>
  ∃ m, s'.heap.Ns C m ∧ ∀ h', Heap.SameBut C s'.heap h' → ∀ cenv : Env, cenv.locals = C → wpAny (model X.prog X.w) X.A (PySem.passOn "comprehension.variables-let-go" e cenv : Sem Value) (fun _ _ => False) X.xe { s' with heap := h' }
/-- the context of a comprehension's block -/
def cxComp (X : Cx) (scope : Scope) (cl : List (Str × Addr)) (x : Str) (ix : List Nat) (C : Addr) (fp : List Addr) (s₀ : Shared) (H₀ : Hp) : Cx :=
  { X with N := x :: subN X.N ix, s₀ := s₀, H₀ := H₀, env := compEnvC scope cl C X.env, outer := X.stack, ex := fp, fn := fun _ => false, pn := [], xe := compXe X scope cl C }
/-- what the text says of a comprehension's scope -/
structure CompScope (X : Cx) (scope : Scope) (cl : List (Str × Addr)) (x : Str) (ix : List Nat) : Prop where
  clos : closureFor scope X.env = pure cl
  kind : scope.kind = .function
  loc : scope.names.lookup x = some .local
  one : ∀ y ∈ scope.names, y.2 = .local → y.1 = x ∨ y.1 = ".0"
  locs : ∀ y ∈ scope.names, y.2 = .local → scope.names.lookup y.1 = some .local
  nocell : ∀ y ∈ scope.names, y.2 ≠ .cell
  free : ∀ y ∈ scope.names, y.2 = .free → (X.env.kindOf y.1 = some .cell ∨ X.env.kindOf y.1 = some .free)
  cells : ∀ y ∈ scope.names, y.2 = .free → ∃ c, cl.lookup y.1 = some c
  same : ∀ y ∈ cl, X.env.cells.lookup y.1 = some y.2
  nd : ((".0" : Str) :: x :: subN X.N ix).Nodup
theorem lookup_mem {α β : Type} [BEq α] [LawfulBEq α] {a : α} {b : β} : ∀ {l : List (α × β)}, l.lookup a = some b → (a, b) ∈ l
  | [], h => by simp at h
  | (c, d) :: r, h => by
    rw [List.lookup_cons] at h
    cases e : a == c with
    | true =>
      rw [e] at h
      cases h
      rw [eq_of_beq e]; exact List.mem_cons_self
    | false =>
      rw [e] at h
      exact List.mem_cons_of_mem _ (lookup_mem h)
theorem kind_relabel {scope : Scope} {env : Env} {y : Str} {k : NameKind} (h : (relabel scope env).names.lookup y = some k) : ∃ k0, scope.names.lookup y = some k0 ∧ (k = k0 ∨ (k0 = .free ∧ k = .cell)) := by
  have gen : ∀ (names : List (Str × NameKind)), (names.map fun (n, k) => if (k == NameKind.free && env.scope.kind == .function && env.kindOf n == some .cell) then (n, NameKind.cell) else (n, k)).lookup y = some k →
      ∃ k0, names.lookup y = some k0 ∧ (k = k0 ∨ (k0 = .free ∧ k = .cell)) := by
    intro names
    induction names with
    | nil => intro h; simp at h
    | cons p r ih =>
      obtain ⟨n, k1⟩ := p
      intro h
      rw [List.map_cons] at h
      dsimp only at h
      cases hc : (k1 == NameKind.free && env.scope.kind == .function && env.kindOf n == some .cell) with
      | true =>
        rw [hc, if_pos rfl, List.lookup_cons] at h
        rw [List.lookup_cons]
        cases e : y == n with
        | true =>
          rw [e] at h
          cases h
          simp only [Bool.and_eq_true] at hc
          exact ⟨k1, rfl, .inr ⟨eq_of_beq hc.1.1, rfl⟩⟩
        | false =>
          rw [e] at h
          exact ih h
      | false =>
        rw [hc, if_neg Bool.false_ne_true, List.lookup_cons] at h
        rw [List.lookup_cons]
        cases e : y == n with
        | true =>
          rw [e] at h
          cases h
          exact ⟨k, rfl, .inl rfl⟩
        | false =>
          rw [e] at h
          exact ih h
  exact gen scope.names h
section
variable {X : Cx} {scope : Scope} {cl : List (Str × Addr)} {x : Str} {ix : List Nat} {C : Addr} {fp : List Addr}
theorem CompScope.look (S : CompScope X scope cl x ix) {y : Str} {c : Addr} (h : cl.lookup y = some c) : X.env.cells.lookup y = some c := S.same _ (lookup_mem h)
theorem CompScope.ok (S : CompScope X scope cl x ix) {pins : List (Addr × Obj)} {σ : St} {H : Hp} {s : Shared} (I : Inv X pins σ H s) (hf : ∀ b ∈ fp, FpOk X pins H b) (hfl : ∀ b ∈ fp, b < s.heap.objs.size) (hC : s.heap.objs.size ≤ C) :
    (cxComp X scope cl x ix C fp s H).Ok where
  mod := I.ok.mod
  kind := S.kind
  glob := I.ok.glob
  blt := I.ok.blt
  above := hC
  inj := fun y z c h1 h2 => I.ok.inj y z c (S.look h1) (S.look h2)
  has := fun y h => by
    have h' : (relabel scope X.env).names.lookup y = some .cell ∨ (relabel scope X.env).names.lookup y = some .free := h
    have fr : scope.names.lookup y = some .free := by
      rcases h' with h' | h'
      · obtain ⟨k0, e, q | q⟩ := kind_relabel h'
        · exact absurd rfl (q ▸ S.nocell _ (lookup_mem e))
        · rw [e, q.1]
      · obtain ⟨k0, e, q | q⟩ := kind_relabel h'
        · rw [e, ← q]
        · cases q.2
    exact S.cells _ (lookup_mem fr) rfl
  cab := fun y c h => absurd h Bool.false_ne_true
  hd := I.ok.hd
  frames := I.ok.frames
  stk := .inl rfl
  exf := fun b hb => ⟨Nat.ne_of_lt (Nat.lt_of_lt_of_le (hfl b hb) hC), fun y c e => (hf b hb).2.2.2.2.1 y c (S.look e)⟩
  bs := I.bs
  bsz := Nat.le_trans I.ok.bsz I.sz
  noex := fun b o e hb => by
    rcases (hf b hb).2.2.2.1 with z | z
    · exact I.ok.noex b o e z
    · exact absurd (Nat.lt_of_lt_of_le (Heap.lt_size e) (Nat.le_trans I.ok.bsz z)) (Nat.lt_irrefl _)
  exfs := fun b hb z => by
    rcases List.mem_cons.mp (I.stkSub b z) with e | e
    · exact (hf b hb).2.1 e
    · exact (hf b hb).2.2.1 e
  funs := I.stack
  frf := I.stkFree
theorem subN_get {N : List Str} {ix : List Nat} {j : Nat} {y : Str} (h : (subN N ix)[j]? = some y) : ∃ i, ix[j]? = some i ∧ y = N.getD i "" := by
  unfold subN at h
  rw [List.getElem?_map] at h
  cases e : ix[j]? with
  | none => rw [e] at h; cases h
  | some i => rw [e] at h; cases h; exact ⟨i, rfl, rfl⟩
theorem subS_get {σ : St} {ix : List Nat} {j : Nat} {v : V} (h : (subS σ ix)[j]? = some (some v)) : ∃ i, ix[j]? = some i ∧ σ[i]? = some (some v) := by
  unfold subS at h
  rw [List.getElem?_map] at h
  cases e : ix[j]? with
  | none => rw [e] at h; cases h
  | some i =>
    rw [e] at h
    have h' : σ.getD i none = some v := by simpa using h
    refine ⟨i, rfl, ?_⟩
    rw [List.getD_eq_getElem?_getD] at h'
    cases e2 : σ[i]? with
    | none => rw [e2] at h'; cases h'
    | some u => rw [e2] at h'; exact congrArg some h'
/-- the block begins -/
theorem CompScope.inv (S : CompScope X scope cl x ix) {pins : List (Addr × Obj)} {σ : St} {H : Hp} {s s1 : Shared} {m : Str → Option Value} (I : Inv X pins σ H s) (hf : ∀ b ∈ fp, FpOk X pins H b) (hfl : ∀ b ∈ fp, b < s.heap.objs.size)
    (hC : s.heap.objs.size ≤ C) (os : s1.os = s.os) (bare : AllBare s1.gens) (k : ∀ b o, s.heap.get? b = some o → s1.heap.get? b = some o) (hn : s1.heap.Ns C m) :
    Inv (cxComp X scope cl x ix C fp s H) [] (none :: subS σ ix) H s1 where
  ok := S.ok I hf hfl hC
  os := os
  bare := bare
  base := Un.kept k
  loc := ⟨m, hn, fun i y v h1 h2 h3 => by
    cases i with
    | zero => cases (show none = some v from Option.some.inj h2)
    | succ j =>
      obtain ⟨i, e1, e2⟩ := subN_get (N := X.N) (show (subN X.N ix)[j]? = some y from h1)
      obtain ⟨i', e1', e3⟩ := subS_get (σ := σ) (show (subS σ ix)[j]? = some (some v) from h2)
      rw [e1] at e1'; cases e1'
      have hi : i < X.N.length := by rw [← I.len]; exact (List.getElem?_eq_some_iff.mp e3).1
      have hy : X.N[i]? = some y := by rw [e2, List.getD_eq_getElem?_getD, List.getElem?_eq_getElem hi]; rfl
      have ne : y ≠ x := by
        rintro rfl
        have nd := (List.nodup_cons.mp S.nd).2
        exact (List.nodup_cons.mp nd).1 (List.mem_of_getElem? (show (subN X.N ix)[j]? = some y from h1))
      have h3' : (relabel scope X.env).names.lookup y = some .local ∨ (relabel scope X.env).names.lookup y = some .cell ∨ (relabel scope X.env).names.lookup y = some .free := h3
      have fr : scope.names.lookup y = some .free ∧ ((relabel scope X.env).names.lookup y = some .cell ∨ (relabel scope X.env).names.lookup y = some .free) := by
        rcases h3' with z | z | z
        · obtain ⟨k0, e, q | q⟩ := kind_relabel z
          · rcases S.one _ (lookup_mem e) q.symm with z | z
            · exact absurd z ne
            · have z' : y = ".0" := z
              exact absurd (List.mem_cons_of_mem _ (List.mem_of_getElem? (show (subN X.N ix)[j]? = some y from h1))) (z' ▸ (List.nodup_cons.mp S.nd).1)
          · cases q.2
        · obtain ⟨k0, e, q | q⟩ := kind_relabel z
          · exact absurd rfl (q ▸ S.nocell _ (lookup_mem e))
          · exact ⟨by rw [e, q.1], .inl z⟩
        · obtain ⟨k0, e, q | q⟩ := kind_relabel z
          · exact ⟨by rw [e, ← q], .inr z⟩
          · cases q.2
      have vis := S.free _ (lookup_mem fr.1) rfl
      obtain ⟨m0, _, l0⟩ := I.loc
      obtain ⟨u, r, l⟩ := l0 i y v hy e3 (vis.elim (fun z => .inr (.inl z)) fun z => .inr (.inr z))
      refine ⟨u, r, .inr ⟨fr.2, ?_⟩⟩
      rcases l with ⟨k1, _⟩ | ⟨_, c, ec, oc, hoc, hd⟩
      · rcases vis with z | z
        · have := k1.symm.trans z; cases this
        · have := k1.symm.trans z; cases this
      · obtain ⟨c', e'⟩ := S.cells _ (lookup_mem fr.1) rfl
        have : some c' = some c := (S.look e').symm.trans ec
        cases this
        exact ⟨c, e', oc, k _ _ hoc, hd⟩⟩
  cell := fun y c e => by
    obtain ⟨v, oc, hoc, hd⟩ := I.cell y c (S.look e)
    exact ⟨v, oc, k _ _ hoc, hd⟩
  free := I.hok.fresh hC
  freeC := fun y c e => I.freeC y c (S.look e)
  pin := fun p hp => absurd (show p ∈ ([] : List (Addr × Obj)) from hp) (by simp)
  hok := I.hok.kept k
  len := by show (none :: subS σ ix).length = (x :: subN X.N ix).length; simp [subS, subN]
end
/-! ### tests of a clause -/
def PTs (X : Cx) (ifs : List Expr) (t : TT) : Prop :=
  ∀ (pins : List (Addr × Obj)) (s : Shared) (σ : St) (H : Hp) (Q : Bool → Hp → Prop), Inv X pins σ H s → t σ H Q →
    wpAny (model X.prog X.w) X.A (forIn ifs true fun c r => if r = true then do let ok ← isTrue c X.env (eval c X.env); pure (ForInStep.yield ok) else pure (ForInStep.yield r)) (TP X pins σ Q) X.xe s
def tYes : TT := fun _ H Q => Q true H
theorem pts_nil {X : Cx} : PTs X [] tYes := fun _ _ _ H _ I h => wpAny_tests_nil ⟨H, I, h⟩
/-! ### the loop -/
section
variable {prog : Program} {w : World} {A : Around} {R : Result → Shared → Prop} {s : Shared}
theorem compLoop_any {elt target iter : Expr} {ifs : List Expr} {scope : Scope} {pos : Pos} {it acc : Value} {env : Env} (I : Nat → Shared → Prop)
    (turn : ∀ n s, I n s → wpAny (model prog w) A (pyNext it) (fun r s₁ => match r with
      | none => R (.ok .next) s₁
      | some v => wpAny (model prog w) A (letOwnedTupleGo target it v) (fun _ s₀ => wpAny (model prog w) A (assign target env v) (fun _ s₂ =>
          wpAny (model prog w) A (forIn ifs true fun c r => if r = true then do let ok ← isTrue c env (eval c env); pure (ForInStep.yield ok) else pure (ForInStep.yield r)) (fun ok s₃ =>
            if ok = true then wpAny (model prog w) A (eval elt env) (fun x s₄ =>
              wpAny (model prog w) A (call (.builtin "list.append") [acc, x]) (fun _ s₅ => ∃ m, m < n ∧ I m s₅) (notedBy (model prog w) A env fun e s' => R (.error e) s') s₄) (notedBy (model prog w) A env fun e s' => R (.error e) s') s₃
            else ∃ m, m < n ∧ I m s₃) (notedBy (model prog w) A env fun e s' => R (.error e) s') s₂) (notedBy (model prog w) A env fun e s' => R (.error e) s') s₀) (notedBy (model prog w) A env fun e s' => R (.error e) s') s₁) (notedBy (model prog w) A env fun e s' => R (.error e) s') s)
    (n : Nat) (h : I n s) :
    codeAny (model prog w) A (.compLoop (.ListComp elt [⟨target, iter, ifs, 0⟩] scope pos) 0 it acc env) R s := by
  refine codeAny_loop rfl I (fun n s hI => ?_) n h
  show wpAny _ A ((compTurn (.ListComp elt [⟨target, iter, ifs, 0⟩] scope pos) 0 it acc env).onRaise (fun x => do noteFrame x env; theTreesLotGoes x)) _ _ s
  refine wpAny_noted ?_
  rw [compTurn_list]
  refine wpAny_bind (wpAny_standAt (wpAny_bind (wpAny_mono (turn n s hI) (fun r s₁ h₁ => ?_) fun _ _ h' => h')))
  cases r with
  | none => exact wpAny_pure h₁
  | some v =>
    refine wpAny_bind (wpAny_mono h₁ (fun _ s₀ h₀ => ?_) fun _ _ h' => h')
    refine wpAny_bind (wpAny_mono h₀ (fun _ s₂ h₂ => wpAny_bind (wpAny_mono h₂ (fun ok s₃ h₃ => ?_) fun _ _ h' => h')) fun _ _ h' => h')
    cases ok with
    | false => exact wpAny_pure ⟨rfl, h₃⟩
    | true =>
      exact wpAny_bind (wpAny_bind (wpAny_mono h₃ (fun x s₄ h₄ => wpAny_bind (wpAny_mono h₄ (fun _ s₅ h₅ => wpAny_pure (wpAny_pure ⟨rfl, h₅⟩)) fun _ _ h' => h')) fun _ _ h' => h'))
end
/-! ### the readings -/
/-- what a comprehension asks: W the word by the turn, a measure, the items so far -/
def cWord (J : It) (tt : TT) (te : TE) (σc : V → St) (H1 : Hp) (Q : VK) : Prop := ∃ W : Nat → Nat → List V → Hp → Prop, (∃ m, W 0 m [] H1) ∧ ∀ i m ys H, W i m ys H → ys.length < sizeLine ∧
  ((J.stop i H ∧ ∀ p, H p = none → Q (.ref p) (upd H p (.lst ys))) ∨
   (J.go i H ∧ ∃ N : List V → Hp → Prop, (∀ ys' H', N ys' H' → ∃ m', m' < m ∧ W (i + 1) m' ys' H') ∧ ∀ x H', J.yld i H x H' → tt (σc x) H' fun b H3 => if b = true then te (σc x) H3 fun y H4 => N (ys ++ [y]) H4 else N ys H3))
/-- where a block begins: the def's state then -/
structure CompAt (X : Cx) (C : Addr) (fp : List Addr) (s : Shared) (H : Hp) : Prop where
  inv : ∃ pins σ, Inv X pins σ H s ∧ ∀ b ∈ fp, FpOk X pins H b
  low : ∀ b ∈ fp, b < s.heap.objs.size
  up : s.heap.objs.size ≤ C
def tComp (ix : List Nat) (wi : TI) (tt : TT) (te : TE) : TE := fun σ H Q => wi σ H fun J H1 => cWord J tt te (fun x => some x :: subS σ ix) H1 Q
section
variable {X : Cx} {scope : Scope} {cl : List (Str × Addr)} {x : Str} {ix : List Nat} {elt iter : Expr} {ifs : List Expr} {pos px : Pos} {wi : TI} {tt : TT} {te : TE}
/-- the block, from the iterator on: behind it the list stands at D, the block's own names at C -/
theorem comp_block (S : CompScope X scope cl x ix) (hc : X.calm = true)
    (ht : ∀ C fp s H, CompAt X C fp s H → PTs (cxComp X scope cl x ix C fp s H) ifs tt) (he : ∀ C fp s H, CompAt X C fp s H → PE (cxComp X scope cl x ix C fp s H) elt te)
    {pins : List (Addr × Obj)} {σ : St} {Q : VK} {itv : Value} {s2 : Shared} {E : Value → Shared → Prop} {RR : Value → Addr → Result → Shared → Prop} (h2 : PIE X pins σ (.Name x px) (fun J H1 => cWord J tt te (fun x => some x :: subS σ ix) H1 Q) itv s2)
    (fin : ∀ (D C : Addr) (H : Hp) (s' : Shared) (m : Str → Option Value), Inv X pins σ H s' → s'.heap.Ns C m → H C = none → s2.heap.objs.size ≤ C → (∀ p ∈ X.pn ++ pins, p.1 ≠ C) → X.env.locals ≠ C → (∀ y c, X.env.cells.lookup y = some c → c ≠ C) → X.s₀.heap.objs.size ≤ C → Q (.ref D) H → RR (.ref D) C (.ok .next) s')
    (fex : ∀ (D C : Addr) (e : Value) (s' : Shared), compXe X scope cl C e s' → notedBy (model X.prog X.w) X.A (compEnvC scope cl C X.env) (fun e s' => RR (.ref D) C (.error e) s') e s') :
    wpAny (model X.prog X.w) X.A (newList []) (fun acc s₃ => wpAny (model X.prog X.w) X.A (newFunctionEnv scope X.env.globals cl [] X.env.qual none .none (some X.env)) (fun cenv s₄ =>
      codeAny (model X.prog X.w) X.A (.compStart (.ListComp elt [⟨.Name x px, iter, ifs, 0⟩] scope pos) 0 itv acc { cenv with scope := relabel scope X.env }) (RR acc cenv.locals) s₄) E s₃) E s2 := by
  obtain ⟨it, fp, tn, J, H2, rfl, I2, T, st2, f2, W, ⟨m0, w0⟩, turn⟩ := h2
  have hfl : ∀ b ∈ fp, b < s2.heap.objs.size := fun b hb => by
    obtain ⟨o, e, _⟩ := T.obj _ _ st2 b hb
    exact Heap.lt_size e
  refine wpAny_newObj_type (wpAny_newFunctionEnv S.nocell (by intro y hy; simp at hy) (fun h₁ hns₁ hsb₁ => ?_) S.kind)
  dsimp only at hns₁ hsb₁ ⊢
  generalize hH2 : s2.heap.push { cls := .type "list", dict := none, data := .seq ([] : List Value).toArray } = G2 at hns₁ hsb₁ ⊢
  have hC : G2.objs.size = s2.heap.objs.size + 1 := by rw [← hH2, Heap.size_push]
  have hDC : s2.heap.objs.size ≠ G2.objs.size := by rw [hC]; exact Nat.ne_of_lt (Nat.lt_succ_self _)
  have hCle : s2.heap.objs.size ≤ G2.objs.size := by rw [hC]; exact Nat.le_succ _
  have below : ∀ b, b < s2.heap.objs.size → b ≠ G2.objs.size ∧ b ≠ s2.heap.objs.size := fun b hb => ⟨by rw [hC]; exact Nat.ne_of_lt (Nat.lt_succ_of_lt hb), Nat.ne_of_lt hb⟩
  have at0 : CompAt X G2.objs.size fp s2 H2 := ⟨⟨pins, σ, I2, f2⟩, hfl, hCle⟩
  have old : ∀ b o, s2.heap.get? b = some o → h₁.get? b = some o := fun b o e => hsb₁.extBut b o (below b (Heap.lt_size e)).1 (Heap.get?_push_of_some _ (hH2 ▸ Heap.get?_push_of_some _ e))
  have hacc : h₁.get? s2.heap.objs.size = some { cls := .type "list", data := .seq ([] : List Value).toArray 0 } := hsb₁.extBut _ _ hDC (Heap.get?_push_of_some _ (hH2 ▸ Heap.get?_push_size _ rfl))
  have st1 : tn 0 h₁ := T.keep _ _ _ st2 fun b _ o e => old b o e
  -- the block's own context
  have stat : ∀ {H' : Hp}, (∀ b ∈ fp, H' b = none) → ∀ b ∈ fp, FpOk (cxComp X scope cl x ix G2.objs.size fp s2 H2) [] H' b := fun hn b hb =>
    ⟨hn b hb, (below b (hfl b hb)).1, fun z => by
      rcases List.mem_cons.mp (I2.stkSub b z) with e | e
      · exact (f2 b hb).2.1 e
      · exact (f2 b hb).2.2.1 e, .inl hb, fun y c e => (f2 b hb).2.2.2.2.1 y c (S.look e), fun p hp => absurd (show p ∈ ([] : List (Addr × Obj)) from hp) (by simp)⟩
  have I3 : ∀ s₃ : Shared, s₃ = { s2 with heap := h₁, toks := s2.toks + ([] : List (Str × Value)).length } → Inv (cxComp X scope cl x ix G2.objs.size fp s2 H2) [] (none :: subS σ ix) H2 s₃ := fun s₃ e => by
    subst e
    exact S.inv I2 f2 hfl hCle rfl I2.bare old hns₁
  -- the list that is being made
  let Acc : List V → Heap → Prop := fun ys h => ∃ its n, Vals ys its ∧ h.get? s2.heap.objs.size = some { cls := .type "list", data := .seq its.toArray n }
  have loop : ∀ s₃ : Shared, s₃ = { s2 with heap := h₁, toks := s2.toks + ([] : List (Str × Value)).length } →
      codeAny (model X.prog X.w) X.A (.compLoop (.ListComp elt [⟨.Name x px, iter, ifs, 0⟩] scope pos) 0 (.ref it) (.ref s2.heap.objs.size) (compEnvC scope cl G2.objs.size X.env)) (RR (.ref s2.heap.objs.size) G2.objs.size) s₃ := by
    intro s₃ e₃
    refine compLoop_any (fun n s' => ∃ i ys H', Inv (cxComp X scope cl x ix G2.objs.size fp s2 H2) [] (none :: subS σ ix) H' s' ∧ H' s2.heap.objs.size = none ∧ Acc ys s'.heap ∧ tn i s'.heap ∧ (∀ b ∈ fp, H' b = none) ∧ W i n ys H') ?_ m0
      ⟨0, [], H2, I3 s₃ e₃, I2.hok.fresh (Nat.le_refl _), ⟨[], 0, .nil, by rw [e₃]; exact hacc⟩, by rw [e₃]; exact st1, fun b hb => (f2 b hb).1, w0⟩
    rintro n s4 ⟨i, ys, H4, I4, hD4, ⟨its, kk, rv, eD⟩, st4, fr4, w4⟩
    obtain ⟨hsz, q4⟩ := turn i n ys H4 w4
    have hlen := rv.length
    rcases q4 with ⟨stop, qn⟩ | ⟨go, N, hN, step⟩
    · refine wpAny_mono (T.done (cxComp X scope cl x ix G2.objs.size fp s2 H2) rfl rfl rfl hc i [(s2.heap.objs.size, { cls := .type "list", data := .seq its.toArray kk })] s4 (none :: subS σ ix) H4 (fun _ _ => False) ?_ ?_ st4 stop) (fun r s5 ⟨hr, I5⟩ => ?_) fun _ _ z => z.elim
      · refine I4.pins_of fun p hp => ?_
        rw [List.mem_singleton.mp hp]
        exact ⟨eD, hD4, hDC, fun z => by
          have := Heap.FunFrames.mem I2.stack z
          obtain ⟨_, o, ho, _⟩ := this
          exact Nat.lt_irrefl _ (Heap.lt_size ho), fun v z => by cases z⟩
      · intro b hb
        obtain ⟨a1, a2, a3, a4, a5, _⟩ := stat fr4 b hb
        exact ⟨a1, a2, a3, a4, a5, fun p hp => by
          rw [List.mem_singleton.mp hp]
          exact fun z => (below b (hfl b hb)).2 z.symm⟩
      subst hr
      have eD5 := (I5.pin _ (by simp : (s2.heap.objs.size, ({ cls := .type "list", data := .seq its.toArray kk } : Obj)) ∈ (cxComp X scope cl x ix G2.objs.size fp s2 H2).pn ++ [(s2.heap.objs.size, { cls := .type "list", data := .seq its.toArray kk })])).1
      have neD : ∀ b u, H4 b = some u → b ≠ s2.heap.objs.size := fun b u e z => by rw [z, hD4] at e; cases e
      have new : HOk X.prog X.w (upd H4 s2.heap.objs.size (.lst ys)) s5.heap := by
        intro b u e
        by_cases hb : b = s2.heap.objs.size
        · subst hb
          rw [upd_same] at e
          cases e
          exact ⟨Nat.le_of_lt hsz, its, kk, rv, eD5⟩
        · rw [upd_ne hb] at e
          exact (I5.hok b u e).stay (fun c v _ q => q) (fun c q => by rw [upd_ne (neD c _ q)]; exact q) fun c xs q => by rw [upd_ne (neD c _ q)]; exact q
      have un : Un (frs X.stack) fp H2 (upd H4 s2.heap.objs.size (.lst ys)) s2.heap s5.heap := by
        have B := I5.base
        exact ⟨B.keep, B.slot, fun b o e n hx => by rw [upd_ne (below b (Heap.lt_size e)).2]; exact B.free b o e n hx, B.there,
          fun b xs e => by rw [upd_ne (neD b _ (B.tups b xs e))]; exact B.tups b xs e, fun b o u e => by rw [upd_ne (neD b _ (B.frzs b o u e))]; exact B.frzs b o u e,
          fun b ps e => by
            obtain ⟨mm, z⟩ := B.tbls b ps e
            exact ⟨mm, by rw [upd_ne (neD b _ z)]; exact z⟩⟩
      have J5 : Inv X pins σ (upd H4 s2.heap.objs.size (.lst ys)) s5 := I2.call' (ch := fp) I5.os un new I5.bare fun b hb => ⟨(f2 b hb).2.2.2.1, (f2 b hb).2.1, (f2 b hb).2.2.2.2.1, (f2 b hb).2.2.2.2.2⟩
      obtain ⟨mC, hnC, _⟩ := I5.loc
      refine fin _ _ _ _ mC J5 hnC (by rw [upd_ne (Ne.symm hDC)]; exact I5.free) hCle (fun p hp z => ?_) (Nat.ne_of_lt (Nat.lt_of_lt_of_le I2.lt hCle)) (fun y c e z => ?_) (Nat.le_trans I2.sz hCle) (qn _ hD4)
      · exact absurd (Nat.lt_of_lt_of_le (Heap.lt_size (I2.pin p hp).1) hCle) (by rw [z]; exact Nat.lt_irrefl _)
      · obtain ⟨v, oc, hoc, _⟩ := I2.cell y c e
        exact absurd (Nat.lt_of_lt_of_le (Heap.lt_size hoc) hCle) (by rw [z]; exact Nat.lt_irrefl _)
    · have pinD : ∀ {pl : List (Addr × Obj)} {σ' : St} {H' : Hp} {s' : Shared} {its' : List Value} {k' : Nat}, Inv (cxComp X scope cl x ix G2.objs.size fp s2 H2) pl σ' H' s' → s'.heap.get? s2.heap.objs.size = some { cls := .type "list", data := .seq its'.toArray k' } → H' s2.heap.objs.size = none →
          Inv (cxComp X scope cl x ix G2.objs.size fp s2 H2) [(s2.heap.objs.size, { cls := .type "list", data := .seq its'.toArray k' })] σ' H' s' := fun I' e' n' => I'.pins_of fun p hp => by
        rw [List.mem_singleton.mp hp]
        exact ⟨e', n', hDC, fun z => by
          obtain ⟨_, o, ho, _⟩ := Heap.FunFrames.mem I2.stack z
          exact Nat.lt_irrefl _ (Heap.lt_size ho), fun v z => by cases z⟩
      have stat2 : ∀ {H' : Hp}, (∀ b ∈ fp, H' b = none) → ∀ b ∈ fp, FpOk (cxComp X scope cl x ix G2.objs.size fp s2 H2) [(s2.heap.objs.size, { cls := .type "list", data := .seq its.toArray kk })] H' b := fun hn b hb => by
        obtain ⟨a1, a2, a3, a4, a5, _⟩ := stat hn b hb
        exact ⟨a1, a2, a3, a4, a5, fun p hp => by
          rw [List.mem_singleton.mp hp]
          exact fun z => (below b (hfl b hb)).2 z.symm⟩
      refine wpAny_mono (T.item (cxComp X scope cl x ix G2.objs.size fp s2 H2) rfl rfl rfl hc i _ s4 _ H4 (fun _ _ => False) (pinD I4 eD hD4) (stat2 fr4) st4 go) (fun r s5 ⟨u, hr, h5⟩ => ?_) fun _ _ z => z.elim
      subst hr
      refine wpAny_mono h5 (fun _ s6 ⟨y, H6, I6, r6, y6, st6, fr6⟩ => ?_) fun _ _ z => z.elim
      have I6' := I6.pinned (stat2 fr6) (T.obj _ _ st6)
      have hxl : (relabel scope X.env).names.lookup x = some .local := lookup_relabel_local S.loc
      refine wpAny_assign_Name (store_ok (X := cxComp X scope cl x ix G2.objs.size fp s2 H2) (i := 0) I6' (List.nodup_cons.mp S.nd).2 rfl (.inl hxl) r6 (fun s7 I7 => ?_) (.inr hxl))
      have q7 := step y H6 y6
      refine wpAny_mono (ht _ _ _ _ at0 _ s7 (some y :: subS σ ix) H6 _ I7 q7) (fun ok s8 ⟨H8, I8, q8⟩ => ?_) fun _ _ z => fex _ _ _ _ z
      -- what is kept of the iterator and of the list
      have kept : ∀ {σ9 : St} {H9 : Hp} {s9 : Shared}, Inv (cxComp X scope cl x ix G2.objs.size fp s2 H2) ([(s2.heap.objs.size, { cls := .type "list", data := .seq its.toArray kk })] ++ pinsAt fp s6.heap) σ9 H9 s9 →
          s9.heap.get? s2.heap.objs.size = some { cls := .type "list", data := .seq its.toArray kk } ∧ H9 s2.heap.objs.size = none ∧ tn (i + 1) s9.heap ∧ ∀ b ∈ fp, H9 b = none := fun {σ9 H9 s9} I9 => by
        have p0 := I9.pin (s2.heap.objs.size, { cls := .type "list", data := .seq its.toArray kk }) (List.mem_append_right _ (List.mem_append_left _ (List.mem_singleton.mpr rfl)))
        refine ⟨p0.1, p0.2.1, T.keep _ _ _ st6 fun b hb o e => (I9.pin (b, o) (List.mem_append_right _ (List.mem_append_right _ (mem_pinsAt hb e)))).1, fun b hb => ?_⟩
        obtain ⟨o, e, d⟩ := T.obj _ _ st6 b hb
        exact (I9.pin (b, o) (List.mem_append_right _ (List.mem_append_right _ (mem_pinsAt hb e)))).2.1
      have back : ∀ {pl : List (Addr × Obj)} {H9 : Hp} {s9 : Shared}, Inv (cxComp X scope cl x ix G2.objs.size fp s2 H2) pl (some y :: subS σ ix) H9 s9 → Inv (cxComp X scope cl x ix G2.objs.size fp s2 H2) [] (none :: subS σ ix) H9 s9 := fun {pl H9 s9} I9 =>
        (I9.weak (σ' := none :: subS σ ix) rfl fun j v e => by
          cases j with
          | zero => cases (show none = some v from Option.some.inj e)
          | succ j => exact e).pins_of fun p hp => nomatch hp
      cases ok with
      | true =>
        rw [if_pos rfl] at q8 ⊢
        refine wpAny_mono (he _ _ _ _ at0 _ s8 (some y :: subS σ ix) H8 _ I8 q8) (fun yv s9 ⟨yy, H9, I9, r9, n9⟩ => ?_) fun _ _ z => fex _ _ _ _ z
        obtain ⟨m', hm', w9⟩ := hN _ _ n9
        obtain ⟨kD, kn, kt, kf⟩ := kept I9
        refine append_at (hsz := by rw [List.size_toArray]; omega) kD fun h10 hs10 hD10 => ?_
        have neD : ∀ b u, H9 b = some u → b ≠ s2.heap.objs.size := fun b u e z => by rw [z, kn] at e; cases e
        have I9' := back I9
        have cellne : ∀ y c, cl.lookup y = some c → c ≠ s2.heap.objs.size := fun y c e z => by
          obtain ⟨v, oc, hoc, _⟩ := I2.cell y c (S.look e)
          exact absurd (Heap.lt_size hoc) (by rw [z]; exact Nat.lt_irrefl _)
        have I10 : Inv (cxComp X scope cl x ix G2.objs.size fp s2 H2) [] (none :: subS σ ix) H9 { s9 with heap := h10 } := I9'.turned (t' := s9.toks) (it := s2.heap.objs.size) (fun b o hb e => hs10.extBut b o hb e) kn hDC (.inr (Nat.le_refl _)) cellne fun p hp => absurd (show p ∈ ([] : List (Addr × Obj)) from hp) (by simp)
        refine ⟨m', hm', i + 1, ys ++ [yy], H9, I10, kn, ⟨its ++ [yv], kk + 1, rv.append (.cons r9 .nil), ?_⟩, T.keep _ _ _ kt fun b hb o e => hs10.extBut b o (below b (hfl b hb)).2 e, kf, w9⟩
        refine hD10.trans (congrArg some ?_)
        simp
      | false =>
        rw [if_neg Bool.false_ne_true] at q8 ⊢
        obtain ⟨m', hm', w9⟩ := hN _ _ q8
        obtain ⟨kD, kn, kt, kf⟩ := kept I8
        exact ⟨m', hm', i + 1, ys, H8, back I8, kn, ⟨its, kk, rv, kD⟩, kt, kf, w9⟩
  exact codeAny_compStart_list (loop _ rfl) (T.self _ 0 _ _ _ st1 (loop _ rfl))
/-! the cells that a comprehension takes along -/
def closFrom (env : Env) : List (Str × NameKind) → List (Str × Addr) → List (Str × Addr)
  | [], cs => cs
  | (n, k) :: r, cs => closFrom env r (if k == .free then (n, (env.cells.lookup n).getD 0) :: cs else cs)
theorem clos_eq {env : Env} : ∀ (names : List (Str × NameKind)) (cs : List (Str × Addr)), (∀ y ∈ names, y.2 = .free → ∃ c, env.cells.lookup y.1 = some c) →
    (forIn names cs fun (p : Str × NameKind) (r : List (Str × Addr)) => match p with | (name, kind) => if (kind == .free) = true then do let c ← cellOf env name; pure (ForInStep.yield ((name, c) :: r)) else pure (ForInStep.yield r) : Sem (List (Str × Addr))) = pure (closFrom env names cs)
  | [], cs, _ => rfl
  | (n, k) :: r, cs, h => by
    rw [List.forIn_cons]
    cases hk : k == NameKind.free with
    | true =>
      obtain ⟨c, hc⟩ := h (n, k) List.mem_cons_self (eq_of_beq hk)
      have e1 : cellOf env n = pure c := by unfold cellOf; rw [hc]
      have e2 : closFrom env ((n, k) :: r) cs = closFrom env r ((n, c) :: cs) := by
        show closFrom env r (if (k == .free) = true then (n, (env.cells.lookup n).getD 0) :: cs else cs) = _
        rw [hk, if_pos rfl, hc]; rfl
      rw [e2, ← clos_eq r ((n, c) :: cs) fun y hy => h y (List.mem_cons_of_mem _ hy)]
      dsimp only
      rw [if_pos hk, e1]
      rfl
    | false =>
      have e2 : closFrom env ((n, k) :: r) cs = closFrom env r cs := by
        show closFrom env r (if (k == .free) = true then (n, (env.cells.lookup n).getD 0) :: cs else cs) = _
        rw [hk, if_neg Bool.false_ne_true]
      rw [e2, ← clos_eq r cs fun y hy => h y (List.mem_cons_of_mem _ hy)]
      dsimp only
      rw [if_neg (by rw [hk]; exact Bool.false_ne_true)]
      rfl
theorem closFrom_mem {env : Env} {y : Str × Addr} : ∀ (names : List (Str × NameKind)) (cs : List (Str × Addr)), y ∈ closFrom env names cs → y ∈ cs ∨ ∃ k ∈ names, k.2 = .free ∧ k.1 = y.1 ∧ y.2 = (env.cells.lookup y.1).getD 0
  | [], cs, h => .inl h
  | (n, k) :: r, cs, h => by
    rcases closFrom_mem r _ h with z | ⟨p, hp, e⟩
    · cases hk : k == NameKind.free with
      | true =>
        rw [hk, if_pos rfl] at z
        rcases List.mem_cons.mp z with z | z
        · exact .inr ⟨(n, k), List.mem_cons_self, eq_of_beq hk, by rw [z], by rw [z]⟩
        · exact .inl z
      | false =>
        rw [hk, if_neg Bool.false_ne_true] at z
        exact .inl z
    · exact .inr ⟨p, List.mem_cons_of_mem _ hp, e⟩
theorem lookup_some_of_mem {y : Str} {c : Addr} : ∀ {l : List (Str × Addr)}, (y, c) ∈ l → ∃ d, l.lookup y = some d
  | [], h => by simp at h
  | (n, d) :: r, h => by
    rw [List.lookup_cons]
    cases e : y == n with
    | true => exact ⟨d, rfl⟩
    | false =>
      rcases List.mem_cons.mp h with z | z
      · have : y = n := (Prod.mk.inj z).1
        rw [this, beq_self_eq_true] at e; cases e
      · exact lookup_some_of_mem z
theorem mem_closFrom {env : Env} {y : Str} : ∀ (names : List (Str × NameKind)) (cs : List (Str × Addr)), ((y, NameKind.free) ∈ names ∨ ∃ c, (y, c) ∈ cs) → ∃ c, (y, c) ∈ closFrom env names cs
  | [], cs, h => by
    rcases h with h | h
    · simp at h
    · exact h
  | (n, k) :: r, cs, h => by
    refine mem_closFrom r _ ?_
    rcases h with h | ⟨c, h⟩
    · rcases List.mem_cons.mp h with z | z
      · obtain ⟨e1, e2⟩ := Prod.mk.inj z
        subst e1 e2
        exact .inr ⟨(env.cells.lookup y).getD 0, by rw [if_pos (beq_self_eq_true _)]; exact List.mem_cons_self⟩
      · exact .inl z
    · refine .inr ⟨c, ?_⟩
      split
      · exact List.mem_cons_of_mem _ h
      · exact h
/-- what is asked of the text, by a look -/
def compOk (scope : Scope) (env : Env) (x : Str) : Bool := scope.names.all fun y => (y.2 != .local || ((y.1 == x || y.1 == ".0") && scope.names.lookup y.1 == some .local)) && y.2 != .cell && (y.2 != .free || env.kindOf y.1 == some .cell || env.kindOf y.1 == some .free)
theorem compScope_of (ok : X.Ok) (hk : scope.kind = .function) (hx : scope.names.lookup x = some .local) (hall : compOk scope X.env x = true) (nd : ((".0" : Str) :: x :: subN X.N ix).Nodup) : CompScope X scope (closFrom X.env scope.names []) x ix := by
  have all : ∀ y ∈ scope.names, (y.2 = .local → (y.1 = x ∨ y.1 = ".0") ∧ scope.names.lookup y.1 = some .local) ∧ y.2 ≠ .cell ∧ (y.2 = .free → (X.env.kindOf y.1 = some .cell ∨ X.env.kindOf y.1 = some .free)) := fun y hy => by
    have z := List.all_eq_true.mp hall y hy
    simp only [Bool.and_eq_true, Bool.or_eq_true, bne_iff_ne, beq_iff_eq, ne_eq] at z
    refine ⟨fun e => z.1.1.resolve_left fun q => q e, z.1.2, fun e => ?_⟩
    rcases z.2 with (q | q) | q
    · exact absurd e q
    · exact .inl q
    · exact .inr q
  have cells : ∀ y ∈ scope.names, y.2 = .free → ∃ c, X.env.cells.lookup y.1 = some c := fun y hy e => ok.has y.1 ((all y hy).2.2 e)
  refine ⟨?_, hk, hx, fun y hy e => ((all y hy).1 e).1, fun y hy e => ((all y hy).1 e).2, fun y hy => (all y hy).2.1, fun y hy => (all y hy).2.2, fun y hy e => ?_, fun y hy => ?_, nd⟩
  · have q := clos_eq scope.names [] cells
    unfold closureFor
    have q2 : (forIn scope.names [] fun (p : Str × NameKind) (r : List (Str × Addr)) => match p with | (name, kind) => if (kind == .free) = true then do let c ← cellOf X.env name; pure (ForInStep.yield ((name, c) :: r)) else pure (ForInStep.yield r) : Sem (List (Str × Addr))) >>= (fun cs => pure cs) = pure (closFrom X.env scope.names []) := by
      rw [q]; rfl
    exact q2
  · obtain ⟨n, k⟩ := y
    have e' : k = .free := e
    subst e'
    obtain ⟨c, hc⟩ := mem_closFrom (env := X.env) scope.names [] (.inl hy)
    exact lookup_some_of_mem hc
  · rcases closFrom_mem scope.names [] hy with z | ⟨p, hp, e1, e2, e3⟩
    · simp at z
    · obtain ⟨c, hc⟩ := cells p hp e1
      rw [e2] at hc
      rw [e3, hc]; rfl
/-- [e for x in it if ..] -/
theorem pe_comp (hc : X.calm = true) (hi : PI X (.Name x px) iter wi) (ht : ∀ C fp s H, CompAt X C fp s H → PTs (cxComp X scope (closFrom X.env scope.names []) x ix C fp s H) ifs tt) (he : ∀ C fp s H, CompAt X C fp s H → PE (cxComp X scope (closFrom X.env scope.names []) x ix C fp s H) elt te)
    (hk : scope.kind = .function) (hx : scope.names.lookup x = some .local) (hall : compOk scope X.env x = true) (nd : ((".0" : Str) :: x :: subN X.N ix).Nodup)
    (hs : ∀ x, foldedSetIterable iter X.env x = pure x := by intro _; rfl) : PE X (.ListComp elt [⟨.Name x px, iter, ifs, 0⟩] scope pos) (tComp ix wi tt te) := by
  intro pins s σ H Q I h
  have S : CompScope X scope (closFrom X.env scope.names []) x ix := compScope_of I.ok hk hx hall nd
  rw [eval_ListComp]
  refine wpAny_comprehension_free (use := none) rfl hs S.clos S.kind S.locs (thn (hi pins s σ H _ I h) fun v s1 h1 => thn h1 fun itv s2 h2 => ?_)
  refine comp_block S hc ht he h2 (fun D C H' s' m J hn hCn hCle hp hL hcl hs0 q => ?_) fun D C e s' z => z
  exact ⟨m, hn, fun h' sb => ⟨.ref D, H', J.turned (t' := s'.toks) (fun b o hb e => sb.extBut b o hb e) hCn (Ne.symm hL) (.inr hs0) hcl hp, rfl, q⟩⟩
/-- y = [e for x in it if ..], y a plain local of the def, on one row -/
theorem ps_setComp {j : Nat} {y : Str} {py spos : Pos} (hN : X.N.Nodup) (hj : X.N[j]? = some y) (hy : X.env.scope.names.lookup y = some .local) (hc : X.calm = true) (hi : PI X (.Name x px) iter wi)
    (ht : ∀ C fp s H, CompAt X C fp s H → PTs (cxComp X scope (closFrom X.env scope.names []) x ix C fp s H) ifs tt) (he : ∀ C fp s H, CompAt X C fp s H → PE (cxComp X scope (closFrom X.env scope.names []) x ix C fp s H) elt te)
    (hk : scope.kind = .function) (hx : scope.names.lookup x = some .local) (hall : compOk scope X.env x = true) (nd : ((".0" : Str) :: x :: subN X.N ix).Nodup)
    (hsw : swapsWith (.ListComp elt [⟨.Name x px, iter, ifs, 0⟩] scope pos) (some (.Name y py)) spos.line X.env = pure true := by rfl) (hs : ∀ x, foldedSetIterable iter X.env x = pure x := by intro _; rfl) :
    PS X (.Assign [.Name y py] (.ListComp elt [⟨.Name x px, iter, ifs, 0⟩] scope pos) spos) (tAsg (tComp ix wi tt te) (gName j)) := by
  intro pins s σ H D I h
  have S : CompScope X scope (closFrom X.env scope.names []) x ix := compScope_of I.ok hk hx hall nd
  rw [exec_Assign_Name_used _ _ _ _ hsw]
  refine wpAny_bind (wpAny_standAt (wpAny_bind ?_))
  show wpAny _ _ (do let _ ← comprehension (.ListComp elt [⟨.Name x px, iter, ifs, 0⟩] scope pos) scope X.env _ (newList []) false (eval iter X.env) (some (assign (.Name y py) X.env))) _ _ s
  refine wpAny_bind (wpAny_mono (wpAny_comprehension_free (use := some (assign (.Name y py) X.env)) (Q := fun _ s' => SP X pins D .next s') rfl hs S.clos S.kind S.locs
    (thn (hi pins s σ H _ I h) fun v s1 h1 => thn h1 fun itv s2 h2 => ?_)) (fun _ s' hq => wpAny_pure (wpAny_pure hq)) fun _ _ e => e)
  refine comp_block (Q := fun v H1 => D.nx (σ.set j (some v)) H1) S hc ht he h2 (fun D' C H' s' m J hn hCn hCle hp hL hcl hs0 q => ?_) fun D' C e s' z => z
  show wpAny _ _ (assign (.Name y py) X.env (.ref D')) _ _ _
  refine wpAny_assign_Name (store_ok2 J hN hj (.inl hy) (v := .ref D') rfl (fun s'' J' ⟨a, sb, ha⟩ => ?_) (.inr hy))
  have hCa : C ≠ a := by
    rcases ha with e | e
    · rw [e]; exact Ne.symm hL
    · exact Ne.symm (hcl y a e)
  exact ⟨m, hn.sameBut sb hCa, fun h' sb' => ⟨σ.set j (some (.ref D')), H', J'.turned (t' := s''.toks) (fun b o hb e => sb'.extBut b o hb e) hCn (Ne.symm hL) (.inr hs0) hcl hp, q⟩⟩
end
/-! ### the forms one uses: a word by the turn and the items so far -/
theorem comp_range {lo : Int} {n : Nat} {tt : TT} {te : TE} {σc : V → St} {H : Hp} {Q : VK} (Pv : Nat → List V → Hp → Prop) (hn : ∀ i ys H, i ≤ n → Pv i ys H → ys.length < sizeLine) (h0 : Pv 0 [] H)
    (hs : ∀ i ys H, i < n → Pv i ys H → tt (σc (.int (lo + i))) H fun b H3 => if b = true then te (σc (.int (lo + i))) H3 fun y H4 => Pv (i + 1) (ys ++ [y]) H4 else Pv (i + 1) ys H3)
    (hd : ∀ ys H, Pv n ys H → ∀ p, H p = none → Q (.ref p) (upd H p (.lst ys))) : cWord (Itr lo n) tt te σc H Q := by
  refine ⟨fun i m ys H => m = n - i ∧ i ≤ n ∧ Pv i ys H, ⟨n, by simp, Nat.zero_le _, h0⟩, ?_⟩
  rintro i m ys H ⟨rfl, hi, p⟩
  refine ⟨hn i ys H hi p, ?_⟩
  by_cases hlt : i < n
  · refine .inr ⟨hlt, Pv (i + 1), fun ys' H' q => ⟨n - (i + 1), by omega, rfl, hlt, q⟩, fun x H' y => ?_⟩
    obtain ⟨e, y⟩ := y
    subst e y
    exact hs i ys _ hlt p
  · have e : i = n := by omega
    subst e
    exact .inl ⟨Nat.le_refl _, hd ys H p⟩
end L2

/-! isinstance of a caught exception; of a value against a tuple of classes -/
namespace L2
open PySem PySem.Spec PyProof.Rows PySem.W PySem.Builtin PySem.Builtin.ObjectAttr PySem.Builtin.Getset_descriptor
section
variable {prog : Program} {w : World} {A : Around} {E : Value → Shared → Prop} {K : PySem.W.Frag} {a C : Addr}
/-- what is read off the written part for an exception's class -/
structure ExcC (K : PySem.W.Frag) (C : Addr) : Prop where
  cd : (PySem.W.clsIn K C).isSome = true
  ga : PySem.W.findIn K (.ref C) "__getattribute__" = some (some (.builtin "BaseException.__getattribute__"))
  hk : PySem.W.findIn K (.ref C) "__getattr__" = some none
  cl : PySem.W.findIn K (.ref C) "__class__" = some (some (.builtin "object.__class__"))
  gt : PySem.W.specialIn K (.builtin "object.__class__") "__get__" = some (some (.builtin "getset_descriptor.__get__"))
  tk : PySem.W.takesIn K (.builtin "object.__class__") = some true
  ob : PySem.W.mroIn K C (.type "object") = some true
  ba : PySem.W.mroIn K C (.type "BaseException") = some true
end
section
variable {X : Cx}
end
end L2

/-! DEEP EQUALITY: lists and tuples of ints, bools, texts, None, lists, tuples -/
namespace L2
open PySem PySem.Spec PyProof.Rows
mutual
inductive DV (K : PySem.W.Frag) (H : Hp) : V → PyData → Prop
  | non : DV K H .non .none
  | bl (b : Bool) : DV K H (.bl b) (.bool b)
  | int (i : Int) : DV K H (.int i) (.int i)
  | str (x : Str) : DV K H (.str x) (.str x)
  | lst {a : Addr} {xs : List V} {ds : List PyData} : SqL K H a xs → DVs K H xs ds → DV K H (.ref a) (.list ds)
  | tup {a : Addr} {xs : List V} {ds : List PyData} : SqT K H a xs → DVs K H xs ds → DV K H (.ref a) (.tuple ds)
inductive DVs (K : PySem.W.Frag) (H : Hp) : List V → List PyData → Prop
  | nil : DVs K H [] []
  | cons {x : V} {xs : List V} {d : PyData} {ds : List PyData} : DV K H x d → DVs K H xs ds → DVs K H (x :: xs) (d :: ds)
end
theorem DVs.ints {K : PySem.W.Frag} {H : Hp} : ∀ ns : List Int, DVs K H (ns.map V.int) (ns.map PyData.int)
  | [] => .nil
  | n :: r => .cons (.int n) (DVs.ints r)
theorem DV.ints {K : PySem.W.Frag} {H : Hp} {a : Addr} {ns : List Int} (h : SqL K H a (ns.map V.int)) : DV K H (.ref a) (.list (ns.map .int)) := .lst h (DVs.ints ns)
section
variable {X : Cx} {pins : List (Addr × Obj)} {σ : St} {H : Hp} {s : Shared}
mutual
theorem Inv.reads (I : Inv X pins σ H s) : ∀ {x : V} {d : PyData} {u : Value}, DV X.K H x d → RelV x u → ∃ as, Reads s.heap u d as
  | _, _, _, .non, r => by cases r; exact ⟨_, Reads.none⟩
  | _, _, _, .bl b, r => by cases r; exact ⟨_, Reads.bool b⟩
  | _, _, _, .int i, r => by obtain ⟨t, rfl⟩ := r; exact ⟨_, Reads.int i t⟩
  | _, _, _, .str x, r => by obtain ⟨t, rfl⟩ := r; exact ⟨_, Reads.str x t⟩
  | _, _, _, .lst h r, rr => by
    cases rr
    obtain ⟨its, rv, ⟨o, n, e, c, _, dt⟩, _⟩ := I.list h
    obtain ⟨as, q⟩ := Inv.readsAll I r rv
    exact ⟨_, reads_list_at e c dt (by simpa using q)⟩
  | _, _, _, .tup h r, rr => by
    cases rr
    obtain ⟨its, rv, ⟨o, e, c, n, dt⟩, _⟩ := I.tuple h
    obtain ⟨as, q⟩ := Inv.readsAll I r rv
    exact ⟨_, reads_tuple_at e c dt (by simpa using q)⟩
theorem Inv.readsAll (I : Inv X pins σ H s) : ∀ {xs : List V} {ds : List PyData} {us : List Value}, DVs X.K H xs ds → Vals xs us → ∃ as, ReadsAll s.heap us ds as
  | _, _, _, .nil, .nil => ⟨_, ReadsAll.nil⟩
  | _, _, _, .cons h r, .cons q p => by
    obtain ⟨as, q1⟩ := Inv.reads I h q
    obtain ⟨bs, q2⟩ := Inv.readsAll I r p
    exact ⟨_, ReadsAll.cons q1 q2⟩
end
end
section
variable {X : Cx}
theorem z_eqD (hu : X.A.units + 64 < cLine) : OpR X (compareOp .Eq) (fun x y H Q => ∃ d e, DV X.K H x d ∧ DV X.K H y e ∧ SeqAt.shaped d = true ∧ SeqAt.shaped e = true ∧ Q (.bl (PyData.eqv d e)) H) := by
  intro pins s σ H x y v u Q I rx ry h
  obtain ⟨d, e, hd, he, sd, se, q⟩ := h
  obtain ⟨as, ra⟩ := I.reads hd rx
  obtain ⟨bs, rb⟩ := I.reads he ry
  exact eq_dataH ra rb sd se hu ⟨.bl _, H, I, rfl, q⟩
theorem z_neD (hu : X.A.units + 64 < cLine) : OpR X (compareOp .NotEq) (fun x y H Q => ∃ d e, DV X.K H x d ∧ DV X.K H y e ∧ SeqAt.shaped d = true ∧ SeqAt.shaped e = true ∧ Q (.bl (!PyData.eqv d e)) H) := by
  intro pins s σ H x y v u Q I rx ry h
  obtain ⟨d, e, hd, he, sd, se, q⟩ := h
  obtain ⟨as, ra⟩ := I.reads hd rx
  obtain ⟨bs, rb⟩ := I.reads he ry
  exact ne_dataH ra rb sd se hu ⟨.bl _, H, I, rfl, q⟩
theorem z_neS (hu : X.A.units + 64 < cLine) : OpR X (compareOp .NotEq) (fun x y H Q => ∃ d, DV X.K H x d ∧ DV X.K H y d ∧ SeqAt.shaped d = true ∧ Q (.bl false) H) := (z_neD hu).imp fun x y H Q ⟨d, h1, h2, h3, q⟩ => ⟨d, d, h1, h2, h3, h3, by rw [SeqAt.eqv_refl d (SeqAt.canLay_of_shaped h3)]; exact q⟩
def mEqL (K : PySem.W.Frag) : R2 := fun x y H Q => vR x fun a => vR y fun b => ∃ ns ms : List Int, SqL K H a (ns.map V.int) ∧ SqL K H b (ms.map V.int) ∧ Q (.bl (decide (ns = ms))) H
def mNeL (K : PySem.W.Frag) : R2 := fun x y H Q => vR x fun a => vR y fun b => ∃ ns ms : List Int, SqL K H a (ns.map V.int) ∧ SqL K H b (ms.map V.int) ∧ Q (.bl (!decide (ns = ms))) H
theorem z_eqL (hu : X.A.units + 64 < cLine) : OpR X (compareOp .Eq) (mEqL X.K) := by
  intro pins s σ H x y v u Q I rx ry h
  obtain ⟨a, rfl, hh⟩ := vR.ex h
  clear h
  obtain ⟨b, rfl, ns, ms, h1, h2, q⟩ := vR.ex hh
  cases rx; cases ry
  obtain ⟨its, rv, pl, _⟩ := I.list h1
  obtain ⟨jts, rw', pl', _⟩ := I.list h2
  exact PySem.W.eq_intsK pl.isList (intsAre_of rv) pl'.isList (intsAre_of rw') hu ⟨.bl _, H, I, rfl, q⟩
theorem z_neL (hu : X.A.units + 64 < cLine) : OpR X (compareOp .NotEq) (mNeL X.K) := by
  intro pins s σ H x y v u Q I rx ry h
  obtain ⟨a, rfl, hh⟩ := vR.ex h
  clear h
  obtain ⟨b, rfl, ns, ms, h1, h2, q⟩ := vR.ex hh
  cases rx; cases ry
  obtain ⟨its, rv, pl, _⟩ := I.list h1
  obtain ⟨jts, rw', pl', _⟩ := I.list h2
  exact PySem.W.ne_intsK pl.isList (intsAre_of rv) pl'.isList (intsAre_of rw') hu ⟨.bl _, H, I, rfl, q⟩
end
theorem shapedL {ds : List PyData} (h : ∀ d ∈ ds, d.canLay0 = true ∧ d.depth ≤ 60) : SeqAt.shaped (.list ds) = true := by
  have all : ∀ ds : List PyData, (∀ d ∈ ds, d.canLay0 = true ∧ d.depth ≤ 60) → PyData.canLayAll0 ds = true ∧ PyData.depthAll ds ≤ 60 := by
    intro ds
    induction ds with
    | nil => intro _; simp [PyData.canLayAll0, PyData.depthAll]
    | cons d r ih =>
      intro h
      have h1 := h d List.mem_cons_self
      have h2 := ih fun z hz => h z (List.mem_cons_of_mem _ hz)
      simp only [PyData.canLayAll0, PyData.depthAll, h1.1, h2.1, Bool.and_self, true_and]
      have := h1.2; have := h2.2; omega
  have z := all ds h
  unfold SeqAt.shaped
  rw [Bool.and_eq_true]
  refine ⟨by simp only [PyData.canLay0]; exact z.1, decide_eq_true ?_⟩
  simp only [PyData.depth]
  have := z.2; omega
theorem lay_ints (ns : List Int) : (PyData.list (ns.map .int)).canLay0 = true ∧ (PyData.list (ns.map .int)).depth ≤ 60 := by
  refine ⟨by simp only [PyData.canLay0]; exact PySem.W.canLayAll0_ints ns, ?_⟩
  have := PySem.W.depthAll_ints ns
  simp only [PyData.depth]; omega
end L2

/-! sum, min, max of a list of ints -/
namespace L2
open PySem PySem.Spec PyProof.Rows
section
variable {X : Cx}
def mSum (K : PySem.W.Frag) : List V → Hp → VK → Prop := fun xs H Q => l1 xs fun x => vR x fun p => ∃ ns : List Int, SqL K H p (ns.map V.int) ∧ Q (.int ns.sum) H
/-- the least, the greatest of a list that is not empty -/
def mBest (K : PySem.W.Frag) (lt : Int → Int → Prop) : List V → Hp → VK → Prop := fun xs H Q => l1 xs fun x => vR x fun p => ∃ ns : List Int, SqL K H p (ns.map V.int) ∧ ns ≠ [] ∧ ∀ m, m ∈ ns → (∀ z ∈ ns, lt m z) → Q (.int m) H
def mCat : R2 := fun x y H Q => vR x fun l => vR y fun b => ∃ xs zs, H l = some (.lst xs) ∧ H b = some (.lst zs) ∧ xs.length + zs.length ≤ sizeLine ∧ ∀ p, H p = none → Q (.ref p) (upd H p (.lst (xs ++ zs)))
theorem z_cat : OpR X (binaryOp .Add) mCat := op_cat.imp fun x y H Q h => by
  obtain ⟨l, rfl, hh⟩ := vR.ex h
  clear h
  obtain ⟨b, rfl, xs, zs, h1, h2, h3, h4⟩ := vR.ex hh
  exact ⟨l, b, xs, zs, rfl, rfl, h1, h2, h3, h4⟩
end
theorem cut_from {bs : List Int} {a : Nat} (h : a ≤ bs.length) : cutV (bs.map V.int) (some (a : Int)) none = (bs.drop a).map V.int := by
  unfold cutV
  rw [HT.sIx_nat, HT.sIx_none, List.length_map, Nat.min_eq_left h, List.map_drop, List.take_of_length_le]
  rw [List.length_drop, List.length_map]; exact Nat.le_refl _
theorem cut_take (bs : List Int) (a : Nat) : cutV (bs.map V.int) none (some (a : Int)) = (bs.take a).map V.int := by
  unfold cutV
  rw [HT.sIx_nat, HT.sIx_none, List.drop_zero, Nat.sub_zero, List.map_take, List.length_map]
  by_cases h : a ≤ bs.length
  · rw [Nat.min_eq_left h]
  · rw [Nat.min_eq_right (by omega), List.take_of_length_le (by rw [List.length_map]; exact Nat.le_refl _), List.take_of_length_le (by rw [List.length_map]; omega)]
end L2

/-! range with a step; set(xs) of ints, its length -/
namespace L2
open PySem PySem.Spec PyProof.Rows
def l3 (vs : List V) (k : V → V → V → Prop) : Prop := @List.rec V (fun _ => Prop) False (fun x r _ => l2 r fun y z => k x y z) vs
/-- lo, lo + c, .. (n of them) -/
def Itrc (lo c : Int) (n : Nat) : It := ⟨fun i _ => i < n, fun i H x H' => H' = H ∧ x = .int (lo + i * c), fun i _ => n ≤ i⟩
section
variable {X : Cx} {tg : Expr}
def dRng3 (ta : TA) : TI := fun σ H R => ta σ H fun vs H1 => l3 vs fun x y z => vI x fun i => vI y fun j => vI z fun c => c ≠ 0 ∧ Builtin.divisionGoesByPylong (j - i) c = false ∧ ∃ n : Nat, Builtin.Range.small i j c = true ∧ Builtin.Range.rangeSize i j c = (n : Int) ∧ R (Itrc i c n) H1
end
/-! ### set(xs) -/
section
variable {X : Cx}
/-- how many unlike ones -/
def kinds (ns : List Int) : Nat := (firstMet (fun i => ns.getD i 0) ns.length).length
def mSetOf (K : PySem.W.Frag) : List V → Hp → VK → Prop := fun xs H Q => l1 xs fun x => vR x fun p => ∃ ns : List Int, SqL K H p (ns.map V.int) ∧ ns.length ≤ 1000 ∧ ∀ l S, H l = none → Q (.ref l) (upd H l (.set S (kinds ns)))
def mLenSet : List V → Hp → VK → Prop := fun xs H Q => l1 xs fun x => vR x fun p => ∃ S n, H p = some (.set S n) ∧ Q (.int (n : Nat)) H
end
end L2

/-! chains of comparisons, data by places -/
namespace L2
open PySem PySem.Spec PyProof.Rows
section
variable {X : Cx} {a b c : Expr} {ta tb tc : TE} {pos : Pos}
def dChain (r r' : R2) (ta tb tc : TE) : TE := fun σ H Q => ta σ H fun x H1 => tb σ H1 fun y H2 => r x y H2 fun z H3 => vB z fun k => if k = true then tc σ H3 fun u H4 => r' y u H4 Q else Q (.bl false) H3
def mInI (K : PySem.W.Frag) (f : Bool → Bool) : R2 := fun x y H Q => vI x fun z => vR y fun p => ∃ ns : List Int, SqA K H p (ns.map V.int) ∧ Q (.bl (f (decide (z ∈ ns)))) H
end
end L2

/-! the same rules with the written part named: for a comprehension's block -/
namespace L2
open PySem PySem.Spec PyProof.Rows
section
variable {X : Cx} {K : PySem.W.Frag}
end
end L2

/-! more rules that compute: list * n, extend, pop(i), int(x), x is False, all(xs) -/
namespace L2
open PySem PySem.Spec PyProof.Rows
section
variable {X : Cx}
def mRep : R2 := fun x y H Q => vR x fun l => vI y fun k => ∃ xs, H l = some (.lst xs) ∧ (-(2 ^ 63) ≤ k ∧ k < 2 ^ 63) ∧ xs.length * k.toNat ≤ sizeLine ∧ ∀ p, H p = none → Q (.ref p) (upd H p (.lst (List.replicate k.toNat xs).flatten))
def mInt : List V → Hp → VK → Prop := fun xs H Q => l1 xs fun x => @V.rec (fun _ => Prop) False (fun b => Q (.int (if b then 1 else 0)) H) (fun i => Q (.int i) H) (fun _ => False) (fun _ => False) (fun _ => False) (fun _ => False) (fun _ => False) x
def mIsB : R2 := fun x y H Q => vB x fun b => vB y fun c => Q (.bl (b == c)) H
section
variable {o e : Expr} {es : List Expr} {to : TE} {t : TA} {apos cpos : Pos}
def dExtend (to : TE) (t : TA) : TE := fun σ H Q => to σ H fun x H1 => vR x fun l => (∃ xs, H1 l = some (.lst xs)) ∧ t σ H1 fun vs H2 => l1 vs fun y => vR y fun b => ∃ xs zs, H2 l = some (.lst xs) ∧ H2 b = some (.lst zs) ∧ xs.length + zs.length ≤ sizeLine ∧ Q .non (upd H2 l (.lst (xs ++ zs)))
def dPopAt (to : TE) (t : TA) : TE := fun σ H Q => to σ H fun x H1 => vR x fun l => (∃ xs, H1 l = some (.lst xs)) ∧ t σ H1 fun vs H2 => l1 vs fun y => vI y fun i => ∃ xs k y, H2 l = some (.lst xs) ∧ (-(2 ^ 63) ≤ i ∧ i < 2 ^ 63) ∧ seqIndex? i xs.length = some k ∧ xs[k]? = some y ∧ Q y (upd H2 l (.lst (xs.eraseIdx k)))
end
/-! ### all(xs), xs a list of truths -/
def mAll (K : PySem.W.Frag) : List V → Hp → VK → Prop := fun xs H Q => l1 xs fun x => vR x fun p => ∃ bs : List Bool, SqL K H p (bs.map V.bl) ∧ Q (.bl (bs.all id)) H
end
end L2

/-! try with any body and several handlers -/
namespace L2
open PySem PySem.Spec PyProof.Rows
section
variable {X : Cx}
abbrev Cx.pinned (X : Cx) (pins0 : List (Addr × Obj)) : Cx := { X with pn := X.pn ++ pins0 }
/-- the context of a try's body: what is raised is caught here -/
abbrev Cx.tried (X : Cx) (pins0 : List (Addr × Obj)) (σ0 : St) (EX : XK) : Cx := (X.pinned pins0).wish fun ev s' => ∃ pins H1 s1, Inv (X.pinned pins0) pins σ0 H1 s1 ∧ CXR X.prog X.w X.stack H1 s1 EX ev s'
theorem Inv.pinUp {pins0 : List (Addr × Obj)} {σ : St} {H : Hp} {s : Shared} (I : Inv X pins0 σ H s) : Inv (X.pinned pins0) [] σ H s :=
  ⟨⟨I.ok.mod, I.ok.kind, I.ok.glob, I.ok.blt, I.ok.above, I.ok.inj, I.ok.has, I.ok.cab, I.ok.hd, I.ok.frames, I.ok.stk, I.ok.exf, I.ok.bs, I.ok.bsz, I.ok.noex, I.ok.exfs, I.ok.funs, I.ok.frf⟩, I.os, I.bare, I.base, I.loc, I.cell, I.free, I.freeC,
    fun p hp => I.pin p (by simpa using hp), I.hok, I.len⟩
theorem Inv.pinDown {pins0 pins : List (Addr × Obj)} {σ : St} {H : Hp} {s : Shared} (I : Inv (X.pinned pins0) pins σ H s) : Inv X pins0 σ H s :=
  ⟨⟨I.ok.mod, I.ok.kind, I.ok.glob, I.ok.blt, I.ok.above, I.ok.inj, I.ok.has, I.ok.cab, I.ok.hd, I.ok.frames, I.ok.stk, I.ok.exf, I.ok.bs, I.ok.bsz, I.ok.noex, I.ok.exfs, I.ok.funs, I.ok.frf⟩, I.os, I.bare, I.base, I.loc, I.cell, I.free, I.freeC,
    fun p hp => I.pin p (List.mem_append_left _ hp), I.hok, I.len⟩
abbrev TH := Ends → St → Value → Option Addr → Hp → Prop
/-- handlers: what stands behind the catch -/
def PH (X : Cx) (hs : List ExceptHandler) (th : TH) : Prop := ∀ (pins : List (Addr × Obj)) (σ : St) (H' : Hp) (s5 : Shared) (a t : Addr) (cls : Value) (od : Option Addr) (B : Heap) (D : Ends),
  (∀ h6, FlyD B X.stack a cls (.ref t) od h6 → s5.heap.UpToSlots h6 → Inv X pins σ (upd H' a (excO cls a od)) { s5 with heap := h6 }) → FlyD B X.stack a cls (.ref t) od s5.heap → H' a = none → th D σ cls od H' →
  wpAny (model X.prog X.w) X.A (handleBy (.ref a) X.env hs) (SP X pins D) X.xe s5
variable {np hpos pos : Pos} {y n : Str} {C : Addr} {i : Nat} {b₀ : Stmt} {suite : List Stmt} {ts : TS} {hs : List ExceptHandler} {th : TH}
def hAs (K : PySem.W.Frag) (C : Addr) (i : Nat) (ts : TS) (th : TH) : TH := fun D σ cls od H' => (PySem.W.exmOne K cls (.ref C) = some true ∧ ∀ a, H' a = none → ts (sufE D i) (σ.set i (some (.ref a))) (upd H' a (excO cls a od))) ∨ (PySem.W.exmOne K cls (.ref C) = some false ∧ th D σ cls od H')
def hNo (K : PySem.W.Frag) (C : Addr) (ts : TS) (th : TH) : TH := fun D σ cls od H' => (PySem.W.exmOne K cls (.ref C) = some true ∧ ∀ a, H' a = none → ts D σ (upd H' a (excO cls a od))) ∨ (PySem.W.exmOne K cls (.ref C) = some false ∧ th D σ cls od H')
def hNil : TH := fun _ _ _ _ _ => False
theorem ph_nil : PH X [] hNil := fun _ _ _ _ _ _ _ _ _ _ _ _ _ z => z.elim
theorem ph_no (hg : Gl X y) (hm : X.mg y = some (.ref C)) (hs' : ∀ ev, PSs (X.marked ev) (b₀ :: suite) ts) (hr : PH X hs th)
    (hd : (y == ("__debug__" : Str)) = false := by decide) : PH X (.ExceptHandler (some (.Name y np)) none (b₀ :: suite) hpos :: hs) (hNo X.K C ts th) := by
  intro pins σ H' s5 a t cls od B D land fl5 new q
  have J5 := land _ fl5 (Heap.UpToSlots.refl _)
  obtain ⟨oe, _, he, hc, _⟩ := fl5.obj
  have LT : ∀ M, PySem.W.Looks M s5.heap (typeOf (.ref a)) cls := fun M => hc ▸ (PySem.W.Looks.ld he).andThen .now
  refine wpAny_handleBy_cons (codeAny_handlers_test (ld_glob (X := X.marked (.ref a)) (J5.marked _) hg hm ?_ hd)) (by intro z; cases z)
  rcases q with ⟨hexm, q⟩ | ⟨hexm, q⟩
  · refine PySem.W.exm_one (K := X.K) J5.kIn (LT _) hexm _ _ _ _ (fun _ _ z => z) ?_
    refine codeAny_handlers_suite ?_
    refine landAgainD fl5 fun h6 fl6 sm6 => ?_
    have J6 := land _ fl6 sm6
    refine wpAny_mono (hs' (.ref a) pins _ σ _ D (J6.marked _) (q a new)) (fun f s8 hf => ?_) (fun _ _ z => False.elim z)
    cases f with
    | next => obtain ⟨σ', H8, J8, q8⟩ := hf; exact ⟨σ', H8, J8.unmarked J5.ok, q8⟩
    | brk => obtain ⟨σ', H8, J8, q8⟩ := hf; exact ⟨σ', H8, J8.unmarked J5.ok, q8⟩
    | cont => obtain ⟨σ', H8, J8, q8⟩ := hf; exact ⟨σ', H8, J8.unmarked J5.ok, q8⟩
    | ret u => obtain ⟨v, σ', H8, J8, r8, q8⟩ := hf; exact ⟨v, σ', H8, J8.unmarked J5.ok, r8, q8⟩
  · refine PySem.W.exm_one (K := X.K) J5.kIn (LT _) hexm _ _ _ _ (fun _ _ z => z) ?_
    exact hr pins σ H' s5 a t cls od B D land fl5 new q
def tTryH (tb : St → XK → TS) (th : TH) : TS := fun D σ H => tb σ (fun cls od H1 => th D σ cls od H1) D σ H
theorem ps_tryH {body : List Stmt} {h₀ : ExceptHandler} {tb : St → XK → TS} (hb : ∀ pins0 σ0 EX, PSs (X.tried pins0 σ0 EX) body (tb σ0 EX)) (hh : PH X (h₀ :: hs) th) (hstk : X.stack = X.env :: X.outer) (hfr : X.env.frame = some X.env.locals) :
    PS X (.Try body (h₀ :: hs) [] [] pos) (tTryH tb th) := by
  intro pins s σ H D I hw
  refine wpAny_Try_except ?_
  refine wpAny_mono (hb pins σ _ [] s σ H D (I.pinUp.wish _) hw) (fun f s1 hf => ?_) (fun ev s2 hq => ?_)
  · cases f with
    | next => obtain ⟨σ', H8, J8, q8⟩ := hf; exact wpAny_execs_nil ⟨σ', H8, J8.unwish.pinDown, q8⟩
    | brk => obtain ⟨σ', H8, J8, q8⟩ := hf; exact ⟨σ', H8, J8.unwish.pinDown, q8⟩
    | cont => obtain ⟨σ', H8, J8, q8⟩ := hf; exact ⟨σ', H8, J8.unwish.pinDown, q8⟩
    | ret u => obtain ⟨v, σ', H8, J8, r8, q8⟩ := hf; exact ⟨v, σ', H8, J8.unwish.pinDown, r8, q8⟩
  · obtain ⟨pins1, H1, s1, I1, a, t, cls, od, H', B, rfl, F, q⟩ := hq
    have I1' := I1.pinDown
    have fr : X.A.frames = some (X.env :: X.outer) := by rw [I1'.ok.frames, hstk]
    refine lookOnD fr hfr (hstk ▸ F.fly) fun h4 held4 sm4 => ?_
    refine landD held4 fun h5 fl5 sm5 => ?_
    have fl5' : FlyD B X.stack a cls (.ref t) od h5 := hstk ▸ fl5
    exact hh pins σ H' _ a t cls od B D (fun h6 fl6 sm6 => land (s' := s2) I1' F fl6 ((sm4.trans sm5).trans sm6)) fl5' F.new q
end
end L2

/-! own classes and some list methods, as readings that compute -/
namespace L2
open PySem PySem.Spec PyProof.Rows
section
variable {X : Cx} {o e value : Expr} {es : List Expr} {to ta tv : TE} {t : TA} {apos cpos pos pos' : Pos} {C : Addr} {f m : Str}
/-! ### xs.clear(), xs.pop(i) -/
def dClear (to : TE) : TE := fun σ H Q => to σ H fun x H1 => vR x fun l => ∃ xs, H1 l = some (.lst xs) ∧ Q .non (upd H1 l (.lst []))
/-! ### fields of an instance of the class at C -/
def dFld (C : Addr) (ta : TE) (f : Str) : TE := fun σ H Q => ta σ H fun x H1 => vR x fun a => ∃ dx fs v, H1 a = some (.ins C dx fs) ∧ fs.lookup f = some v ∧ Q v H1
theorem md_fld (c : Cls X.K C) (n : NoAttr X.K C f) (he : PE X e ta) (hb : attributeBase e f X.env (eval e X.env) = eval e X.env := by rfl) : PE X (.Attribute e f pos) (dFld C ta f) :=
  (pe_fld (pe_cut he) hb).imp fun σ H Q h => ⟨_, h, fun x H1 q => by
    obtain ⟨a, rfl, dx, fs, v, h1, h2, h3⟩ := vR.ex q
    exact ⟨a, C, dx, fs, v, rfl, h1, c, n, h2, h3⟩⟩
def dSet (C : Addr) (ta tv : TE) (f : Str) : TS := fun D σ H => tv σ H fun y H1 => ta σ H1 fun x H2 => vR x fun a => ∃ dx fs, H2 a = some (.ins C dx fs) ∧ fs.length < 1000 ∧ D.nx σ (upd H2 a (.ins C dx (putF f y fs)))
theorem md_set (c : Cls X.K C) (n : NoAttr X.K C f) (ha : PE X o ta) (hv : PE X value tv) (hs : swapsWith value (some (.Attribute o f pos')) pos.line X.env = pure false := by rfl) :
    PS X (.Assign [.Attribute o f pos'] value pos) (dSet C ta tv f) :=
  (ps_fld (pe_cut ha) (pe_cut hv) hs).imp fun D σ H h => ⟨_, h, fun y H1 q => ⟨_, q, fun x H2 q2 => by
    obtain ⟨a, rfl, dx, fs, h1, h2, h3⟩ := vR.ex q2
    exact ⟨a, C, dx, fs, rfl, h1, c, n, h2, h3⟩⟩⟩
/-! ### o.m(..) -/
variable {CX : CXT} {k : Nat} {fa : Addr} {fd : FuncData} {ps : List Str} {sp : Sp} {dvs : List V} {ds : List Value} {E : XK}
def dMeth (C : Addr) (m : Str) (sp : Sp) (dvs : List V) (E : XK) (ta : TE) (t : TA) : TE := fun σ H Q => ta σ H fun x H1 => vR x fun a => (∃ dx fs, H1 a = some (.ins C dx fs) ∧ fs.lookup m = none) ∧ t σ H1 fun vs H2 => sp (.ref a :: (vs ++ dvs)) H2 Q E
theorem md_meth {pl : Sem Bool} (c : Cls X.K C) (hm : Meth X.K C m fa) (F : FnOk X.prog X.w X.K X.mg X.base CX k fa fd ps sp) (hr : Room k X.A) (hb : Binds X.K fd ps ds) (hd : Vals dvs ds) (hx : Passes CX X E) (he : PE X o ta) (ha : PA X (e :: es) t)
    (hst : starEach (e :: es) X.env = (false, eval e X.env) :: starEach es X.env := by rfl) (hpl : (backTo pos (starEach es X.env)).any (·.1) = false := by rfl)
    (ht : eval (.Call (.Attribute o m apos) (e :: es) [] pos) X.env = (do
      let ov ← eval o X.env
      standAt apos.atName
      let (f, first) ← holding [ov] (getMethod ov m pl)
      callWith pos f first (backTo pos (starEach (e :: es) X.env)) (backToKw pos (keywordEach [] X.env))) := by rfl) :
    PE X (.Call (.Attribute o m apos) (e :: es) [] pos) (dMeth C m sp dvs E ta t) :=
  (pe_meth (pl := pl) (pe_cut he) c hm F hr hb hd hx (pa_cut ha) hst hpl ht).imp fun σ H Q h => ⟨_, h, fun x H1 q => by
    obtain ⟨a, rfl, ⟨dx, fs, h1, h2⟩, h3⟩ := vR.ex q
    exact ⟨a, dx, fs, rfl, h1, h2, _, h3, fun vs H2 z => z⟩⟩
theorem md_meth0 {pl : Sem Bool} (c : Cls X.K C) (hm : Meth X.K C m fa) (F : FnOk X.prog X.w X.K X.mg X.base CX k fa fd ps sp) (hr : Room k X.A) (hb : Binds X.K fd ps ds) (hd : Vals dvs ds) (hx : Passes CX X E) (he : PE X o ta)
    (ht : eval (.Call (.Attribute o m apos) [] [] pos) X.env = (do
      let ov ← eval o X.env
      standAt apos.atName
      let (f, first) ← holding [ov] (getMethod ov m pl)
      callWith pos f first (backTo pos (starEach [] X.env)) (backToKw pos (keywordEach [] X.env))) := by rfl) :
    PE X (.Call (.Attribute o m apos) [] [] pos) (dMeth C m sp dvs E ta tNil) :=
  (pe_meth0 (pl := pl) (pe_cut he) c hm F hr hb hd hx ht).imp fun σ H Q h => ⟨_, h, fun x H1 q => by
    obtain ⟨a, rfl, ⟨dx, fs, h1, h2⟩, h3⟩ := vR.ex q
    exact ⟨a, dx, fs, rfl, h1, h2, h3⟩⟩
end
end L2

/-! o.m(..) in a try's body, where m may raise -/
namespace L2
open PySem PySem.Spec PyProof.Rows
section
variable {X : Cx} {o e : Expr} {es : List Expr} {ta : TE} {t : TA} {apos pos : Pos} {C : Addr} {m : Str}
variable {k : Nat} {fa : Addr} {fd : FuncData} {ps : List Str} {sp : Sp} {dvs : List V} {ds : List Value}
def dMethT (C : Addr) (m : Str) (sp : Sp) (dvs : List V) (σ0 : St) (EX : XK) (ta : TE) (t : TA) : TE := fun σ H Q => ta σ H fun x H1 => vR x fun a => (∃ dx fs, H1 a = some (.ins C dx fs) ∧ fs.lookup m = none) ∧ t σ H1 fun vs H2 => σ = σ0 ∧ sp (.ref a :: (vs ++ dvs)) H2 Q EX
theorem md_methT {pins0 : List (Addr × Obj)} {σ0 : St} {EX : XK} {pl : Sem Bool} (c : Cls X.K C) (hm : Meth X.K C m fa) (F : FnOk X.prog X.w X.K X.mg X.base (CXR X.prog X.w) k fa fd ps sp) (hr : Room k X.A) (hb : Binds X.K fd ps ds) (hd : Vals dvs ds) (he : PE (X.tried pins0 σ0 EX) o ta) (ha : PA (X.tried pins0 σ0 EX) (e :: es) t)
    (hst : starEach (e :: es) X.env = (false, eval e X.env) :: starEach es X.env := by rfl) (hpl : (backTo pos (starEach es X.env)).any (·.1) = false := by rfl)
    (ht : eval (.Call (.Attribute o m apos) (e :: es) [] pos) X.env = (do
      let ov ← eval o X.env
      standAt apos.atName
      let (f, first) ← holding [ov] (getMethod ov m pl)
      callWith pos f first (backTo pos (starEach (e :: es) X.env)) (backToKw pos (keywordEach [] X.env))) := by rfl) :
    PE (X.tried pins0 σ0 EX) (.Call (.Attribute o m apos) (e :: es) [] pos) (dMethT C m sp dvs σ0 EX ta t) := by
  intro pins s σ H Q I h
  refine PySem.W.methodCall_KW (pl := pl) (thn (he pins s σ H _ I h) fun u s1 ⟨x, H1, I1, rx, q⟩ => ?_) ht
  obtain ⟨a, rfl, ⟨dx, fs, ea, l⟩, q⟩ := vR.ex q
  obtain rfl : u = Value.ref a := rx
  refine getmeth_ok (X := X.tried pins0 σ0 EX) I1 ea c hm l ?_
  refine PySem.W.callWith_K (first := [.ref a]) (h₀ := X.base) I.ok.mod.kin hm.kp (thn (ha pos pins s1 σ H1 _ I1 q) fun us s2 ⟨vs, H2, I2, r, eσ, q2⟩ => ⟨I2.kIn, ?_⟩) hst hpl
  subst eσ
  have r2 : Vals (.ref a :: (vs ++ dvs)) (.ref a :: (us ++ ds)) := .cons rfl (r.append hd)
  have hl : (Value.ref a :: us ++ ds).length = ps.length := by rw [List.cons_append, ← r2.length]; exact F.len _ _ _ _ q2
  refine wpAny_call (codeAny_mono (F.run X.A X.stack s2 H2 ⟨.ref a :: us, []⟩ (.ref a :: (us ++ ds)) (.ref a :: (vs ++ dvs)) Q EX hr I2.env0 (hb s2 (.ref a :: us) I2.kIn hl) r2 q2) fun r s' hq => ?_)
  cases r with
  | error ev => exact ⟨pins, H2, s2, I2.unwish, hq⟩
  | ok fl =>
    cases fl with
    | ret u => exact I2.after hq
    | next => exact False.elim hq
    | brk => exact False.elim hq
    | cont => exact False.elim hq
end
end L2

/-! x in xs, x not in xs, xs.index(x), by data; xs.count(t) of a list of texts -/
namespace L2
open PySem PySem.Spec PyProof.Rows
section
variable {X : Cx}
noncomputable def eDat (h : Heap) (d : PyData) : Value → Bool := by
  classical
  exact fun y => if g : ∃ d' as, Reads h y d' as then PyData.eqv g.choose d else false
def mInD (K : PySem.W.Frag) (f : Bool → Bool) : R2 := fun x y H Q => vR y fun p => ∃ d ds xs, DV K H x d ∧ SqL K H p xs ∧ DVs K H xs ds ∧ SeqAt.shaped d = true ∧ (∀ e ∈ ds, SeqAt.shaped e = true) ∧ Q (.bl (f (ds.any fun e => PyData.eqv e d))) H
end
/-! ### pairs of whole numbers -/
def prD (p : Int × Int) : PyData := .tuple [.int p.1, .int p.2]
/-- pairs stand at qs -/
inductive PrsQ (K : PySem.W.Frag) (H : Hp) : List Addr → List (Int × Int) → Prop
  | nil : PrsQ K H [] []
  | cons {q : Addr} {p : Int × Int} {qs : List Addr} {ps : List (Int × Int)} : SqT K H q [.int p.1, .int p.2] → PrsQ K H qs ps → PrsQ K H (q :: qs) (p :: ps)
section
variable {X : Cx}
def mInP (K : PySem.W.Frag) (f : Bool → Bool) : R2 := fun x y H Q => vR x fun t => vR y fun l => ∃ (p : Int × Int) (ps : List (Int × Int)) (qs : List Addr), SqT K H t [.int p.1, .int p.2] ∧ SqL K H l (qs.map V.ref) ∧ PrsQ K H qs ps ∧ Q (.bl (f (decide (p ∈ ps)))) H
end
end L2
namespace L2
open PySem
end L2

namespace L2
open PySem
/-- a tuple of whole numbers that the module holds -/
def TupK (K : PySem.W.Frag) (a : Addr) (ns : List Int) : Prop := ∃ (o : Obj) (its : Array Value) (n : Nat), K.lookup a = some o ∧ o.cls = .type "tuple" ∧ o.data = .seq its n ∧ its.size ≤ sizeLine ∧ Vals (ns.map V.int) its.toList
end L2

/-! rows that are never reached; slices of any list -/
namespace L2
open PySem PySem.Spec PyProof.Rows
end L2
namespace L2
open PySem PySem.Spec PyProof.Rows
def mNotB : R2 := fun x y H Q => vB x fun b => vB y fun c => Q (.bl (b != c)) H
end L2

/-! BITS AND NUMBERS, plain -/
namespace Bm
def bitI (n j : Nat) : Int := if n.testBit j then 1 else 0
def bitsI (n m : Nat) : List Int := (List.range m).map fun i => bitI n (m - 1 - i)
def numI (bs : List Int) : Int := bs.foldl (fun x b => x * 2 + b) 0
def Bits (bs : List Int) : Prop := ∀ b ∈ bs, b = 0 ∨ b = 1
/-- the worths from the left -/
def left (n m k : Nat) : Int := ((n / 2 ^ (m - k) * 2 ^ (m - k) : Nat) : Int)
end Bm

namespace My
open PySem L2
def top (i : Nat) : Stmt := PySem.Challenge.pw_bitrail_k72_a_joiner_by_deeds.main.body.getD i (.Pass ⟨0, 0, 0, 0⟩)
def clsBody (s : Stmt) : List Stmt := match s with | .ClassDef _ _ _ b _ _ _ _ _ _ _ => b | _ => []
abbrev s_is_size : Stmt := top 6
abbrev s_check_piece : Stmt := top 5
abbrev s_Joiner_init : Stmt := (clsBody (top 7)).getD 0 (.Pass ⟨0, 0, 0, 0⟩)
abbrev s_Joiner_end : Stmt := (clsBody (top 7)).getD 6 (.Pass ⟨0, 0, 0, 0⟩)
abbrev s_Joiner_is_open : Stmt := (clsBody (top 7)).getD 7 (.Pass ⟨0, 0, 0, 0⟩)
abbrev s_Joiner_goes_on : Stmt := (clsBody (top 7)).getD 3 (.Pass ⟨0, 0, 0, 0⟩)
abbrev s_Joiner_add_piece : Stmt := (clsBody (top 7)).getD 4 (.Pass ⟨0, 0, 0, 0⟩)
abbrev s_Joiner_begin_thing : Stmt := (clsBody (top 7)).getD 2 (.Pass ⟨0, 0, 0, 0⟩)
abbrev s_Joiner_break_off : Stmt := (clsBody (top 7)).getD 5 (.Pass ⟨0, 0, 0, 0⟩)
abbrev s_Joiner_take : Stmt := (clsBody (top 7)).getD 1 (.Pass ⟨0, 0, 0, 0⟩)
abbrev s__law_mix : Stmt := top 9
abbrev s__law_is_piece : Stmt := top 11
abbrev s__law_told : Stmt := top 13
abbrev s__law_is_asked_well : Stmt := top 14
abbrev s__law_taken : Stmt := top 12
abbrev s__law_piece : Stmt := top 10
abbrev s_law : Stmt := top 15

def spCellAt (K : PySem.W.Frag) : Sp := fun vs H Q _ => ∃ (a : Addr) (ns : List Int) (k : Nat), vs = [.ref a, .int k] ∧ SqL K H a (ns.map V.int) ∧ ∀ z : Int, Q (.int z) H
theorem same_new {H : Hp} {p : Addr} (h : H p = none) (o : HO) : Same H (upd H p o) := fun b u q => by rw [upd_ne (ne_of_none q h)]; exact q
theorem small {n : Nat} (h : n ≤ 1000) : n ≤ sizeLine := Nat.le_of_lt (small1000 h)
theorem small_lit {n : Nat} (h : decide (n ≤ 1000) = true) : n ≤ sizeLine := small (of_decide_eq_true h)
theorem small1 {n : Nat} (h : n ≤ 1000) : n < sizeLine := small1000 h
theorem _root_.L2.Same.put {H H' : Hp} {p : Addr} {o : HO} (g : Same H H') (h : H p = none) : Same H (upd H' p o) := fun b u q => by rw [upd_ne (ne_of_none q h)]; exact g b u q
theorem _root_.L2.Same.none {H H' : Hp} {x : Addr} (g : Same H H') (h : H' x = none) : H x = none := by
  cases e : H x with
  | none => rfl
  | some o => rw [g x o e] at h; cases h
def vO : Option Int → V
  | none => .non
  | some i => .int i
/-- a joiner; tg means something only where o is true -/
structure Jn where
  o : Bool
  tg : Int
  m : Nat
  h : Nat
  js : List Int
  bt : Option Int
inductive Ev where
  | whole (t : Int) (xs : List Int)
  | broken (t : Int)
abbrev joF (s : Jn) (tv : V) (jl : Addr) : List (Str × V) := [("opened", .bl s.o), ("tag", tv), ("many", .int ((s.m : Nat) : Int)), ("had", .int ((s.h : Nat) : Int)), ("joined", .ref jl), ("broken_tag", vO s.bt)]
def JoAt (C : Addr) (H : Hp) (j : Addr) (s : Jn) : Prop := ∃ dx tv jl, H j = some (.ins C dx (joF s tv jl)) ∧ H jl = some (.lst (s.js.map V.int)) ∧ (s.o = true → tv = .int s.tg)
theorem JoAt.same {C : Addr} {H H' : Hp} {j : Addr} {s : Jn} (h : JoAt C H j s) (g : Same H H') : JoAt C H' j s := let ⟨dx, tv, jl, a, b, c⟩ := h; ⟨dx, tv, jl, g _ _ a, g _ _ b, c⟩
/-- an event stands at e; a list that it holds is one of P -/
def EvAt (P : Addr → Prop) (H : Hp) (e : Addr) : Ev → Prop
  | .whole t xs => ∃ l, P l ∧ H e = some (.tup [.str "whole", .int t, .ref l]) ∧ H l = some (.lst (xs.map V.int))
  | .broken t => H e = some (.tup [.str "broken", .int t])
inductive EvQ (P : Addr → Prop) (H : Hp) : List Addr → List Ev → Prop
  | nil : EvQ P H [] []
  | cons {e : Addr} {v : Ev} {es : List Addr} {vs : List Ev} : EvAt P H e v → EvQ P H es vs → EvQ P H (e :: es) (v :: vs)
theorem EvAt.mono {P P' : Addr → Prop} {H H' : Hp} {e : Addr} : ∀ {v : Ev}, EvAt P H e v → (∀ x xs, H x = some (.tup xs) → H' x = some (.tup xs)) → (∀ x xs, P x → H x = some (.lst xs) → H' x = some (.lst xs)) → (∀ x, P x → P' x) → EvAt P' H' e v
  | .whole t xs, ⟨l, p, a, b⟩, g, g', i => ⟨l, i l p, g _ _ a, g' _ _ p b⟩
  | .broken t, a, g, _, _ => g _ _ a
theorem EvQ.mono {P P' : Addr → Prop} {H H' : Hp} (g : ∀ x xs, H x = some (.tup xs) → H' x = some (.tup xs)) (g' : ∀ x xs, P x → H x = some (.lst xs) → H' x = some (.lst xs)) (i : ∀ x, P x → P' x) : ∀ {es : List Addr} {vs : List Ev}, EvQ P H es vs → EvQ P' H' es vs
  | _, _, .nil => .nil
  | _, _, .cons a t => .cons (a.mono g g' i) (EvQ.mono g g' i t)
theorem EvQ.monoB {P : Addr → Prop} {H H' : Hp} : ∀ {es : List Addr} {vs : List Ev}, EvQ P H es vs → (∀ v ∈ vs, ∃ u, v = Ev.broken u) → (∀ x xs, H x = some (.tup xs) → H' x = some (.tup xs)) → EvQ P H' es vs
  | _, _, .nil, _, _ => .nil
  | _, _, .cons (v := v) a t, h, g => by
    obtain ⟨u, rfl⟩ := h v List.mem_cons_self
    exact .cons (g _ _ a) (EvQ.monoB t (fun w hw => h w (List.mem_cons_of_mem _ hw)) g)
theorem EvQ.same {P : Addr → Prop} {H H' : Hp} {es : List Addr} {vs : List Ev} (h : EvQ P H es vs) (g : Same H H') : EvQ P H' es vs := h.mono (fun x xs e => g _ _ e) (fun x xs _ e => g _ _ e) fun _ z => z
theorem EvQ.imp {P P' : Addr → Prop} {H : Hp} {es : List Addr} {vs : List Ev} (h : EvQ P H es vs) (i : ∀ x, P x → P' x) : EvQ P' H es vs := h.mono (fun _ _ e => e) (fun _ _ _ e => e) i
def But1 (H H' : Hp) (t : Addr) : Prop := ∀ x o, x ≠ t → H x = some o → H' x = some o
theorem EvQ.but {P : Addr → Prop} {H H' : Hp} {es : List Addr} {vs : List Ev} {j C dx : Addr} {fs : List (Str × V)} (h : EvQ P H es vs) (g : But1 H H' j) (e : H j = some (.ins C dx fs)) : EvQ P H' es vs :=
  h.mono (fun x xs ex => g _ _ (fun z => by rw [z, e] at ex; cases ex) ex) (fun x xs _ ex => g _ _ (fun z => by rw [z, e] at ex; cases ex) ex) fun _ z => z
theorem EvQ.append {P : Addr → Prop} {H : Hp} : ∀ {es : List Addr} {vs : List Ev} {es' : List Addr} {vs' : List Ev}, EvQ P H es vs → EvQ P H es' vs' → EvQ P H (es ++ es') (vs ++ vs')
  | _, _, _, _, .nil, g => g
  | _, _, _, _, .cons h t, g => .cons h (EvQ.append t g)
theorem EvQ.len {P : Addr → Prop} {H : Hp} : ∀ {es : List Addr} {vs : List Ev}, EvQ P H es vs → es.length = vs.length
  | _, _, .nil => rfl
  | _, _, .cons h t => by rw [List.length_cons, List.length_cons, EvQ.len t]
theorem But1.trans {H H' H'' : Hp} {t : Addr} (a : But1 H H' t) (b : But1 H' H'' t) : But1 H H'' t := fun x o hx e => b x o hx (a x o hx e)
theorem But1.none {H H' : Hp} {t x : Addr} {o : HO} (b : But1 H H' t) (e : H' t = some o) (h : H' x = none) : H x = none := by
  cases ex : H x with
  | none => rfl
  | some u =>
    exfalso
    by_cases c : x = t
    · rw [c, e] at h; cases h
    · rw [b x u c ex] at h; cases h
theorem But1.of {H H' : Hp} {t : Addr} (g : Same H H') : But1 H H' t := fun x o _ e => g _ _ e
def endJ (s : Jn) : Jn := if s.o = true then { s with o := false, bt := some s.tg } else s
def endE (s : Jn) : List Ev := if s.o = true then [.broken s.tg] else []
def addJ (s : Jn) (ps : List Int) : Jn := { s with js := s.js ++ ps.drop 2, h := s.h + 1, o := if s.h + 1 < s.m then s.o else false }
def addE (s : Jn) (ps : List Int) : List Ev := if s.h + 1 < s.m then [] else [.whole s.tg (s.js ++ ps.drop 2)]
def opn (s : Jn) (t : Int) (m : Nat) : Jn := { s with bt := none, o := true, tg := t, m := m, h := 0, js := [] }
def begJ (s : Jn) (t : Int) (m : Nat) (ps : List Int) : Jn := addJ (opn (endJ s) t m) ps
def begE (s : Jn) (t : Int) (m : Nat) (ps : List Int) : List Ev := endE s ++ addE (opn (endJ s) t m) ps
def onB (s : Jn) (ps : List Int) : Bool := s.o && decide (ps.take 2 = [s.tg, 16 * ((s.m : Nat) : Int) + ((s.h : Nat) : Int)])
def brkJ (s : Jn) (t : Int) : Jn := if (endJ s).bt = some t then endJ s else { endJ s with bt := some t }
def brkE (s : Jn) (t : Int) : List Ev := endE s ++ (if (endJ s).bt = some t then [] else [.broken t])
theorem endE_len (s : Jn) : (endE s).length ≤ 1 := by
  unfold endE
  split
  · exact Nat.le_refl 1
  · exact Nat.zero_le 1
theorem addE_len (s : Jn) (ps : List Int) : (addE s ps).length ≤ 1 := by
  unfold addE
  split
  · exact Nat.zero_le 1
  · exact Nat.le_refl 1
def PcOk (t : Int) (m n : Nat) (ps : List Int) : Prop := 2 ≤ ps.length ∧ ps.take 2 = [t, 16 * ((m : Nat) : Int) + ((n : Nat) : Int)] ∧ n < m ∧ n < 16 ∧ m < 16 ∧ (if n + 1 < m then ps.length = 7 else (ps.length ≤ 7 ∧ (2 < ps.length ∨ m = 1)))
def takJ (s : Jn) (t : Int) (m n : Nat) (ps : List Int) : Jn := if n = 0 then begJ s t m ps else if onB s ps = true then addJ s ps else brkJ s t
def takE (s : Jn) (t : Int) (m n : Nat) (ps : List Int) : List Ev := if n = 0 then begE s t m ps else if onB s ps = true then addE s ps else brkE s t
abbrev Jpost (C : Addr) (H : Hp) (j : Addr) (Q : VK) (s' : Jn) (vs : List Ev) : Prop := ∀ p es H', H p = none → H' p = some (.lst (es.map V.ref)) → EvQ (fun l => H l = none) H' es vs → JoAt C H' j s' → But1 H H' j → (∀ q dx tv, H' j = some (.ins C dx (joF s' tv q)) → q ≠ p ∧ (H q = none ∨ ∃ dx tv s0, H j = some (.ins C dx (joF s0 tv q)))) → Q (.ref p) H'
theorem joF_inj {C : Addr} {dx dx' : Addr} {s s' : Jn} {tv tv' : V} {q q' : Addr} (e : some (HO.ins C dx (joF s tv q)) = some (.ins C dx' (joF s' tv' q'))) : q = q' := by
  injection e with e
  injection e with _ _ e
  injection e with _ e
  injection e with _ e
  injection e with _ e
  injection e with _ e
  injection e with e _
  injection e with _ e
  injection e with e
theorem JoAt.nq {C : Addr} {H H' : Hp} {j p : Addr} {s : Jn} (h : JoAt C H j s) (hp : H p = none) (e : H' j = H j) : ∀ q dx tv, H' j = some (.ins C dx (joF s tv q)) → q ≠ p := fun q dx tv e' z => by
  obtain ⟨dx', tv', jl, a, b, _⟩ := h
  rw [e, a] at e'
  injection e' with e'
  injection e' with _ _ e'
  injection e' with _ e'
  injection e' with _ e'
  injection e' with _ e'
  injection e' with _ e'
  injection e' with e' _
  injection e' with _ e'
  injection e' with e'
  subst e'
  rw [z, hp] at b
  cases b
def spJoInit (C : Addr) : Sp := fun vs H Q _ => ∃ j dx, vs = [.ref j] ∧ H j = some (.ins C dx []) ∧ ∀ H', JoAt C H' j ⟨false, 0, 0, 0, [], none⟩ → But1 H H' j → Q .non H'
def spJoEnd (C : Addr) : Sp := fun vs H Q _ => ∃ j s, vs = [.ref j] ∧ JoAt C H j s ∧ Jpost C H j Q (endJ s) (endE s)
def spJoAdd (C : Addr) : Sp := fun vs H Q _ => ∃ j s l ps, vs = [.ref j, .ref l] ∧ JoAt C H j s ∧ s.o = true ∧ s.js.length ≤ 1000 ∧ ps.length ≤ 100 ∧ 2 ≤ ps.length ∧ H l = some (.lst ((ps : List Int).map V.int)) ∧ Jpost C H j Q (addJ s ps) (addE s ps)
def spJoBeg (C : Addr) : Sp := fun vs H Q _ => ∃ j s l ps, ∃ (t : Int) (m n : Nat), vs = [.ref j, .ref l] ∧ JoAt C H j s ∧ PcOk t m n ps ∧ H l = some (.lst ((ps : List Int).map V.int)) ∧ Jpost C H j Q (begJ s t m ps) (begE s t m ps)
def spJoOn (C : Addr) : Sp := fun vs H Q _ => ∃ j s l ps, vs = [.ref j, .ref l] ∧ JoAt C H j s ∧ s.m ≤ 100 ∧ H l = some (.lst ((ps : List Int).map V.int)) ∧ ∀ H', Same H H' → Q (.bl (onB s ps)) H'
def spJoBrk (C : Addr) : Sp := fun vs H Q _ => ∃ j s, ∃ t : Int, vs = [.ref j, .int t] ∧ JoAt C H j s ∧ Jpost C H j Q (brkJ s t) (brkE s t)
def spJoTake (C : Addr) : Sp := fun vs H Q _ => ∃ j s l ps, ∃ (t : Int) (m n : Nat), vs = [.ref j, .ref l] ∧ JoAt C H j s ∧ s.js.length ≤ 1000 ∧ s.m ≤ 100 ∧ PcOk t m n ps ∧ H l = some (.lst ((ps : List Int).map V.int)) ∧ Jpost C H j Q (takJ s t m n ps) (takE s t m n ps)
def spJoOpen (C : Addr) : Sp := fun vs H Q _ => ∃ j s, vs = [.ref j] ∧ JoAt C H j s ∧ Q (.bl s.o) H
def spIsSize : Sp := fun vs H Q _ => ∃ (z m n : Nat), vs = [.int ((z : Nat) : Int), .int ((m : Nat) : Int), .int ((n : Nat) : Int)] ∧ Q (.bl (decide (if n + 1 < m then z = 5 else (z ≤ 5 ∧ (0 < z ∨ m = 1))))) H
def spChkP (C : Addr) : Sp := fun vs H Q _ => ∃ l ps, ∃ (t : Int) (m n : Nat), vs = [.ref l] ∧ PcOk t m n ps ∧ H l = some (.lst ((ps : List Int).map V.int)) ∧ Q .non H
theorem pc_at {t : Int} {m n : Nat} {ps : List Int} (h : PcOk t m n ps) : atI (ps.map V.int) 0 = some (.int t) ∧ atI (ps.map V.int) 1 = some (.int (16 * ((m : Nat) : Int) + ((n : Nat) : Int))) := by
  obtain ⟨h1, h2, _⟩ := h
  match ps, h1 with
  | a :: b :: r, _ =>
    have e : [a, b] = [t, 16 * ((m : Nat) : Int) + ((n : Nat) : Int)] := h2
    injection e with e1 e2
    injection e2 with e2 _
    subst e1 e2
    exact ⟨atI_nat (j := 0) rfl, atI_nat (j := 1) rfl⟩

def PcS (ps : List Int) : Prop := ps.length ≤ 100 ∧ (ps.length < 2 ∨ ∃ (t : Int) (m n : Nat) (r : List Int), ps = t :: (16 * ((m : Nat) : Int) + ((n : Nat) : Int)) :: r ∧ n < 16 ∧ m < 16)
def IsPc (ps : List Int) : Prop := ∃ t m n, PcOk t m n ps
theorem pcOk_of {t : Int} {m n : Nat} {r : List Int} (hn : n < 16) (hm : m < 16) : IsPc (t :: (16 * ((m : Nat) : Int) + ((n : Nat) : Int)) :: r) ↔ (n < m ∧ (if n + 1 < m then r.length = 5 else (r.length ≤ 5 ∧ (0 < r.length ∨ m = 1)))) := by
  have key : ∀ t' m' n', PcOk t' m' n' (t :: (16 * ((m : Nat) : Int) + ((n : Nat) : Int)) :: r) → t' = t ∧ m' = m ∧ n' = n := fun t' m' n' ⟨_, h2, _, h4, _⟩ => by
    have e : [t, 16 * ((m : Nat) : Int) + ((n : Nat) : Int)] = [t', 16 * ((m' : Nat) : Int) + ((n' : Nat) : Int)] := h2
    injection e with e1 e2
    injection e2 with e2 _
    omega
  constructor
  · rintro ⟨t', m', n', h⟩
    obtain ⟨rfl, rfl, rfl⟩ := key t' m' n' h
    obtain ⟨_, _, h3, _, _, h6⟩ := h
    refine ⟨h3, ?_⟩
    rw [List.length_cons, List.length_cons] at h6
    by_cases c : n' + 1 < m'
    · rw [if_pos c] at h6 ⊢; omega
    · rw [if_neg c] at h6 ⊢; omega
  · rintro ⟨h3, h6⟩
    refine ⟨t, m, n, by rw [List.length_cons, List.length_cons]; omega, rfl, h3, hn, hm, ?_⟩
    rw [List.length_cons, List.length_cons]
    by_cases c : n + 1 < m
    · rw [if_pos c] at h6 ⊢; omega
    · rw [if_neg c] at h6 ⊢; omega
def spChkP2 (C : Addr) : Sp := fun vs H Q E => ∃ l ps, vs = [.ref l] ∧ PcS ps ∧ H l = some (.lst ((ps : List Int).map V.int)) ∧ (IsPc ps → Q .non H) ∧ (¬ IsPc ps → E (.ref C) none H)
def spJoTake2 (C CN : Addr) : Sp := fun vs H Q E => ∃ j s l ps, vs = [.ref j, .ref l] ∧ JoAt C H j s ∧ s.js.length ≤ 1000 ∧ s.m ≤ 100 ∧ PcS ps ∧ H l = some (.lst ((ps : List Int).map V.int)) ∧ (∀ t m n, PcOk t m n ps → Jpost C H j Q (takJ s t m n ps) (takE s t m n ps)) ∧ (¬ IsPc ps → E (.ref CN) none H)

def spMix : Sp := fun vs H Q _ => ∃ (c k m : Int), vs = [.int c, .int k, .int m] ∧ 0 ≤ k ∧ k ≤ 100000 ∧ 0 < m ∧ ∀ d : Int, 0 ≤ d → d < m → Q (.int d) H
def spIsPiece : Sp := fun vs H Q _ => ∃ l ps, vs = [.ref l] ∧ PcS ps ∧ H l = some (.lst ((ps : List Int).map V.int)) ∧ (IsPc ps → Q (.bl true) H) ∧ (¬ IsPc ps → Q (.bl false) H)
def spToldJ (C : Addr) : Sp := fun vs H Q _ => ∃ j s l ps, vs = [.ref j, .ref l] ∧ JoAt C H j s ∧ s.js.length ≤ 1000 ∧ s.m ≤ 100 ∧ PcS ps ∧ H l = some (.lst ((ps : List Int).map V.int)) ∧ (∀ t m n, PcOk t m n ps → Jpost C H j Q (takJ s t m n ps) (takE s t m n ps)) ∧ (¬ IsPc ps → ∀ H', Same H H' → Q .non H')
def spAsked (C : Addr) : Sp := fun vs H Q _ => ∃ j s sa tv gv, vs = [.ref j, .ref sa] ∧ JoAt C H j s ∧ H sa = some (.tup [tv, gv]) ∧ (s.o = true ↔ tv ≠ .non) ∧ Q (.bl true) H
/-- the law's thing: what an open joiner holds -/
def ThAt (P : Addr → Prop) (H : Hp) (s : Jn) (tv : V) : Prop := (s.o = true → ∃ ta la, tv = .ref ta ∧ P la ∧ H ta = some (.tup [.int s.tg, .int ((s.m : Nat) : Int), .int ((s.h : Nat) : Int), .ref la]) ∧ H la = some (.lst (s.js.map V.int))) ∧ (s.o = false → tv = .non)
theorem ThAt.same {P : Addr → Prop} {H H' : Hp} {s : Jn} {tv : V} (h : ThAt P H s tv) (g : Same H H') : ThAt P H' s tv := ⟨fun z => let ⟨ta, la, a, p, b, c⟩ := h.1 z; ⟨ta, la, a, p, g _ _ b, g _ _ c⟩, h.2⟩
def Mid (H0 : Hp) (du : Addr) (H : Hp) (tv : V) (t : Int) (m : Nat) (J : Jn) (E E2 : List Ev) : Prop := (tv = .non ∧ J.o = false ∧ E = E2) ∨ ∃ ta la, tv = .ref ta ∧ (la ≠ du ∧ H0 la = none) ∧ H ta = some (.tup [.int t, .int ((m : Nat) : Int), .int ((J.h : Nat) : Int), .ref la]) ∧ H la = some (.lst (J.js.map V.int)) ∧ J.tg = t ∧ J.m = m ∧ E = E2 ++ (if J.h < m then [] else [Ev.whole t J.js]) ∧ J.o = decide (J.h < m) ∧ J.h ≤ m
theorem endE_nil' {s : Jn} (h : s.o = false) : endE s = [] := if_neg (by rw [h]; exact Bool.false_ne_true)
theorem endJ_nil' {s : Jn} (h : s.o = false) : endJ s = s := if_neg (by rw [h]; exact Bool.false_ne_true)
theorem endJ_o (s : Jn) : (endJ s).o = false := by
  cases hso : s.o with
  | false => rw [endJ_nil' hso]; exact hso
  | true => rw [show endJ s = { s with o := false, bt := some s.tg } from if_pos hso]
theorem endE_brk (s : Jn) : ∀ v ∈ endE s, ∃ u, v = Ev.broken u := fun v hv => by
  unfold endE at hv
  split at hv
  · exact ⟨_, List.mem_singleton.mp hv⟩
  · exact absurd hv List.not_mem_nil
theorem eqv3 (a b c d e f : Int) : PyData.eqv (.tuple [.int a, .int b, .int c]) (.tuple [.int d, .int e, .int f]) = decide (a = d ∧ b = e ∧ c = f) := by
  simp only [PyData.eqv, PyData.eqvAll, Bool.and_true]
  by_cases h1 : a = d <;> by_cases h2 : b = e <;> by_cases h3 : c = f <;> simp [h1, h2, h3]
theorem onB_iff {s : Jn} {t : Int} {m n : Nat} {ps : List Int} (ho : s.o = true) (h2 : ps.take 2 = [t, 16 * ((m : Nat) : Int) + ((n : Nat) : Int)]) (hn : n < 16) (hs : s.h < 16) : onB s ps = decide (s.tg = t ∧ ((s.m : Nat) : Int) = ((m : Nat) : Int) ∧ ((s.h : Nat) : Int) = ((n : Nat) : Int)) := by
  unfold onB
  rw [ho, Bool.true_and, h2, Bool.eq_iff_iff, decide_eq_true_iff, decide_eq_true_iff]
  constructor
  · intro e
    injection e with e1 e2
    injection e2 with e2 _
    exact ⟨e1.symm, by omega, by omega⟩
  · rintro ⟨e1, e2, e3⟩
    rw [e1, show 16 * ((s.m : Nat) : Int) + ((s.h : Nat) : Int) = 16 * ((m : Nat) : Int) + ((n : Nat) : Int) by omega]
def spPieceJ : Sp := fun vs H Q _ => ∃ (c : Int) (la tg : Addr) (few : Bool) (lt : Int) (lm ln : Nat) (ts : List Int), vs = [.int c, .ref la, .bl few, .ref tg] ∧ H la = some (.tup [.int lt, .int ((lm : Nat) : Int), .int ((ln : Nat) : Int)]) ∧ lm < 16 ∧ ln ≤ 16 ∧ H tg = some (.lst (ts.map V.int)) ∧ ts.length = 3 ∧ ∀ (p : Addr) (H' : Hp) (ps : List Int), Same H H' → H' p = some (.lst (ps.map V.int)) → PcS ps → Q (.ref p) H'
theorem at_ints {bs : List Int} {i : Nat} (h : i < bs.length) : atI (bs.map V.int) ((i : Nat) : Int) = some (.int bs[i]) := atI_nat (by rw [List.getElem?_map, List.getElem?_eq_getElem h]; rfl)
def evD : Ev → PyData
  | .whole t xs => .tuple [.str "whole", .int t, .list (xs.map .int)]
  | .broken t => .tuple [.str "broken", .int t]
theorem EvAt.dv {P : Addr → Prop} {K : PySem.W.Frag} {H : Hp} {e : Addr} : ∀ {v : Ev}, EvAt P H e v → DV K H (.ref e) (evD v)
  | .whole t xs, ⟨l, _, a, b⟩ => .tup (SqT.of a) (.cons (.str _) (.cons (.int _) (.cons (DV.ints (SqL.of b)) .nil)))
  | .broken t, a => .tup (SqT.of a) (.cons (.str _) (.cons (.int _) .nil))
theorem EvQ.dvs {P : Addr → Prop} {K : PySem.W.Frag} {H : Hp} : ∀ {es : List Addr} {vs : List Ev}, EvQ P H es vs → DVs K H (es.map V.ref) (vs.map evD)
  | _, _, .nil => .nil
  | _, _, .cons a t => .cons a.dv (EvQ.dvs t)
theorem evD_lay : ∀ v : Ev, (evD v).canLay0 = true ∧ (evD v).depth ≤ 60
  | .whole t xs => by
    have h := lay_ints xs
    have h1 : (PyData.str "whole").canLay0 = true := by decide +kernel
    refine ⟨?_, ?_⟩
    · simp only [evD, PyData.canLay0, PyData.canLayAll0, Bool.and_true, Bool.true_and] at h h1 ⊢
      simp only [h.1, h1, Bool.and_self]
    · have h2 := PySem.W.depthAll_ints xs
      simp only [evD, PyData.depth, PyData.depthAll]
      omega
  | .broken t => by
    have h1 : (PyData.str "broken").canLay0 = true := by decide +kernel
    refine ⟨?_, ?_⟩
    · simp only [evD, PyData.canLay0, PyData.canLayAll0, Bool.and_true] at h1 ⊢
      exact h1
    · simp only [evD, PyData.depth, PyData.depthAll]
      omega
theorem shaped_evs (vs : List Ev) : SeqAt.shaped (.list (vs.map evD)) = true := shapedL fun d hd => by
  obtain ⟨v, _, rfl⟩ := List.mem_map.mp hd
  exact evD_lay v

def HdV (he : Addr) (H : Hp) (x y : V) : Prop := (x = .non ∧ y = .non) ∨ ∃ p q es fs vs, x = .ref p ∧ y = .ref q ∧ p ≠ he ∧ q ≠ he ∧ H p = some (.lst (es.map V.ref)) ∧ H q = some (.lst (fs.map V.ref)) ∧ EvQ (fun l => l ≠ he) H es vs ∧ EvQ (fun l => l ≠ he) H fs vs
def But2 (H H' : Hp) (j t : Addr) : Prop := ∀ x o, x ≠ j → x ≠ t → H x = some o → H' x = some o
theorem EvQ.but2 {H H' : Hp} {es : List Addr} {vs : List Ev} {jo he C dx : Addr} {fs : List (Str × V)} {ys : List V} (h : EvQ (fun l => l ≠ he) H es vs) (g : But2 H H' jo he) (ej : H jo = some (.ins C dx fs)) (ed : H he = some (.lst ys)) : EvQ (fun l => l ≠ he) H' es vs :=
  h.mono (fun x xs ex => g _ _ (fun z => by rw [z, ej] at ex; cases ex) (fun z => by rw [z, ed] at ex; cases ex) ex) (fun x xs hx ex => g _ _ (fun z => by rw [z, ej] at ex; cases ex) hx ex) fun _ z => z
theorem HdV.but2 {H H' : Hp} {x y : V} {jo he C dx : Addr} {fs : List (Str × V)} {ys : List V} (h : HdV he H x y) (g : But2 H H' jo he) (ej : H jo = some (.ins C dx fs)) (ed : H he = some (.lst ys)) : HdV he H' x y := by
  rcases h with h | ⟨p, q, es, gs, vs, h1, h2, h3, h4, h5, h6, h7, h8⟩
  · exact .inl h
  · exact .inr ⟨p, q, es, gs, vs, h1, h2, h3, h4, g _ _ (fun z => by rw [z, ej] at h5; cases h5) h3 h5, g _ _ (fun z => by rw [z, ej] at h6; cases h6) h4 h6, h7.but2 g ej ed, h8.but2 g ej ed⟩
structure Lw (C : Addr) (H6 H : Hp) (jo he sa la : Addr) (s : Jn) (tv : V) (lt : Int) (lm ln : Nat) (i : Nat) : Prop where
  fr : But2 H6 H jo he
  hj : JoAt C H jo s
  nj : ∀ q dx tv s0, H jo = some (.ins C dx (joF s0 tv q)) → q ≠ he
  st : H sa = some (.tup [tv, vO s.bt])
  th : ThAt (fun l => l ≠ he) H s tv
  iv : s.o = true → s.h < s.m ∧ s.m < 16
  js : s.js.length ≤ 5 * i
  ms : s.m ≤ 15
  ls : H la = some (.tup [.int lt, .int ((lm : Nat) : Int), .int ((ln : Nat) : Int)])
  l1 : lm < 16
  l2 : ln ≤ 16
theorem ThAt.imp {P P' : Addr → Prop} {H : Hp} {s : Jn} {tv : V} (h : ThAt P H s tv) (i : ∀ x, P x → P' x) : ThAt P' H s tv := ⟨fun z => let ⟨ta, la, a, p, b⟩ := h.1 z; ⟨ta, la, a, i _ p, b⟩, h.2⟩
theorem takJ_inv {s : Jn} {t : Int} {m n : Nat} {ps : List Int} (hp : PcOk t m n ps) (hi : s.o = true → s.h < s.m ∧ s.m < 16) (hm : s.m ≤ 15) : ((takJ s t m n ps).o = true → (takJ s t m n ps).h < (takJ s t m n ps).m ∧ (takJ s t m n ps).m < 16) ∧ (takJ s t m n ps).m ≤ 15 ∧ (takJ s t m n ps).js.length ≤ s.js.length + 5 := by
  obtain ⟨h1, h2, h3, h4, h5, h6⟩ := hp
  have hl : ps.length ≤ 7 := by
    by_cases c : n + 1 < m
    · rw [if_pos c] at h6; omega
    · rw [if_neg c] at h6; omega
  have ej : (endJ s).js = s.js ∧ (endJ s).m = s.m ∧ (endJ s).h = s.h := by
    unfold endJ
    split <;> exact ⟨rfl, rfl, rfl⟩
  have eo : (endJ s).o = false := endJ_o s
  unfold takJ
  split
  · refine ⟨fun z => ?_, by show m ≤ 15; omega, by show ([] ++ ps.drop 2).length ≤ _; rw [List.nil_append, List.length_drop]; omega⟩
    have z' : (if 0 + 1 < m then true else false) = true := z
    by_cases c : 0 + 1 < m
    · exact ⟨c, h5⟩
    · rw [if_neg c] at z'; cases z'
  · split
    · refine ⟨fun z => ?_, hm, by show (s.js ++ ps.drop 2).length ≤ _; rw [List.length_append, List.length_drop]; omega⟩
      have z' : (if s.h + 1 < s.m then s.o else false) = true := z
      by_cases c : s.h + 1 < s.m
      · rw [if_pos c] at z'; exact ⟨c, (hi z').2⟩
      · rw [if_neg c] at z'; cases z'
    · unfold brkJ
      split
      · exact ⟨(fun z => by rw [eo] at z; cases z), by rw [ej.2.1]; exact hm, by rw [ej.1]; omega⟩
      · exact ⟨(fun z => by have z' : (endJ s).o = true := z; rw [eo] at z'; cases z'), by show (endJ s).m ≤ 15; rw [ej.2.1]; exact hm, by show (endJ s).js.length ≤ _; rw [ej.1]; omega⟩
theorem But1.to2 {H H' : Hp} {j t : Addr} (h : But1 H H' j) : But2 H H' j t := fun x o h1 _ e => h x o h1 e
theorem But2.trans {H H' H'' : Hp} {j t : Addr} (a : But2 H H' j t) (b : But2 H' H'' j t) : But2 H H'' j t := fun x o h1 h2 e => b x o h1 h2 (a x o h1 h2 e)
theorem But2.put {H : Hp} {j t : Addr} {o : HO} : But2 H (upd H t o) j t := fun x u _ h2 e => by rw [upd_ne h2]; exact e
theorem ThAt.but1 {P : Addr → Prop} {H H' : Hp} {s : Jn} {tv : V} {j C dx : Addr} {fs : List (Str × V)} (h : ThAt P H s tv) (g : But1 H H' j) (e : H j = some (.ins C dx fs)) : ThAt P H' s tv :=
  ⟨fun z => let ⟨ta, la, a, p, b, c⟩ := h.1 z; ⟨ta, la, a, p, g _ _ (fun z => by rw [z, e] at b; cases b) b, g _ _ (fun z => by rw [z, e] at c; cases c) c⟩, h.2⟩
theorem Lw.same {C : Addr} {H6 H H' : Hp} {jo he sa la : Addr} {s : Jn} {tv : V} {lt : Int} {lm ln i : Nat} (h : Lw C H6 H jo he sa la s tv lt lm ln i) (g : Same H H') : Lw C H6 H' jo he sa la s tv lt lm ln i := by
  obtain ⟨fr, hj, nj, st, th, iv, js, ms, ls, l1, l2⟩ := h
  obtain ⟨dx, tvj, jl, ej, ejl, htv⟩ := id hj
  refine ⟨fr.trans (But1.of g).to2, hj.same g, fun q dx' tv' s0 e => ?_, g _ _ st, th.same g, iv, js, ms, g _ _ ls, l1, l2⟩
  have e2 := joF_inj ((g _ _ ej).symm.trans e)
  rw [← e2]
  exact nj _ _ _ _ ej
theorem Lw.put {C : Addr} {H6 H : Hp} {jo he sa la : Addr} {s : Jn} {tv : V} {lt : Int} {lm ln i : Nat} {ys zs : List V} (h : Lw C H6 H jo he sa la s tv lt lm ln i) (e : H he = some (.lst ys)) : Lw C H6 (upd H he (.lst zs)) jo he sa la s tv lt lm ln i := by
  obtain ⟨fr, hj, nj, st, th, iv, js, ms, ls, l1, l2⟩ := h
  obtain ⟨dx, tvj, jl, ej, ejl, htv⟩ := id hj
  have njh : jo ≠ he := fun z => by rw [z, e] at ej; cases ej
  refine ⟨fr.trans But2.put, ⟨dx, tvj, jl, (upd_ne njh).trans ej, (upd_ne (nj _ _ _ _ ej)).trans ejl, htv⟩, fun q dx' tv' s0 e' => ?_, (upd_ne (fun z => by rw [z, e] at st; cases st)).trans st, ⟨fun z => ?_, th.2⟩, iv, js, ms, (upd_ne (fun z => by rw [z, e] at ls; cases ls)).trans ls, l1, l2⟩
  · rw [upd_ne njh] at e'
    exact nj _ _ _ _ e'
  · obtain ⟨ta, la', a, p, b, c⟩ := th.1 z
    exact ⟨ta, la', a, p, (upd_ne (fun z => by rw [z, e] at b; cases b)).trans b, (upd_ne p).trans c⟩
def PrQ (he : Addr) (H : Hp) (hs : List Addr) : Prop := ∀ h ∈ hs, ∃ x y, H h = some (.tup [x, y]) ∧ HdV he H x y
theorem PrQ.but2 {H H' : Hp} {hs : List Addr} {jo he C dx : Addr} {fs : List (Str × V)} {ys : List V} (h : PrQ he H hs) (g : But2 H H' jo he) (ej : H jo = some (.ins C dx fs)) (ed : H he = some (.lst ys)) : PrQ he H' hs := fun a ha =>
  let ⟨x, y, e, hd⟩ := h a ha
  ⟨x, y, g _ _ (fun z => by rw [z, ej] at e; cases e) (fun z => by rw [z, ed] at e; cases e) e, hd.but2 g ej ed⟩
theorem Lw.iff {C : Addr} {H6 H : Hp} {jo he sa la : Addr} {s : Jn} {tv : V} {lt : Int} {lm ln i : Nat} (h : Lw C H6 H jo he sa la s tv lt lm ln i) : s.o = true ↔ tv ≠ .non := by
  constructor
  · intro z
    obtain ⟨ta, _, rfl, _⟩ := h.th.1 z
    exact fun y => nomatch y
  · intro z
    cases ho : s.o with
    | true => rfl
    | false => exact absurd (h.th.2 ho) z
theorem HdV.dv {K : PySem.W.Frag} {he : Addr} {H : Hp} {x y : V} (h : HdV he H x y) : ∃ d, DV K H x d ∧ DV K H y d ∧ SeqAt.shaped d = true := by
  rcases h with ⟨rfl, rfl⟩ | ⟨p, q, es, fs, vs, rfl, rfl, _, _, e1, e2, h1, h2⟩
  · exact ⟨.none, .non, .non, rfl⟩
  · exact ⟨_, .lst (SqL.of e1) h1.dvs, .lst (SqL.of e2) h2.dvs, shaped_evs vs⟩
def spTaken : Sp := fun vs H Q _ => ∃ (sa l : Addr) (tv : V) (s : Jn) (ps : List Int) (t : Int) (m n : Nat), vs = [.ref sa, .ref l] ∧ H sa = some (.tup [tv, vO s.bt]) ∧ ThAt (fun _ => True) H s tv ∧ (s.o = true → s.h < s.m ∧ s.m < 16) ∧ s.js.length ≤ 1000 ∧ PcOk t m n ps ∧ H l = some (.lst (ps.map V.int)) ∧
  ∀ p du es tv' H', Same H H' → H du = none → H' p = some (.tup [.ref du, tv', vO (takJ s t m n ps).bt]) → H' du = some (.lst (es.map V.ref)) → EvQ (fun l => H l = none) H' es (takE s t m n ps) → ThAt (fun l => H l = none) H' (takJ s t m n ps) tv' → Q (.ref p) H'

section
variable {P : Program} {w : World} {K : PySem.W.Frag} {mg : Str → Option Value} {base : Heap}
theorem sc_is_size : FnScope ["size", "many", "number"] ["size", "many", "number"] (defScope s_is_size) := ⟨rfl, rfl, rfl, by decide +kernel, rfl, by decide +kernel, by decide +kernel⟩
set_option maxHeartbeats 4000000 in
theorem ok_is_size {a_is_size : Addr} {d_is_size : FuncData} {t_PIECE_BYTES : Tok} (F_is_size : Fun K "is_size" "is_size" s_is_size a_is_size d_is_size) (m_PIECE_BYTES : mg "PIECE_BYTES" = some (.int 5 t_PIECE_BYTES)) :
    FnOk P w K mg base CX0 1 a_is_size d_is_size ["size", "many", "number"] (spIsSize) := by
  refine F_is_size.ok sc_is_size (fun vs H Q E h => ?_) (fun cdv A outer s H vs Q E hr h => ?_)
  · obtain ⟨z, m, n, rfl, _⟩ := h
    rfl
  obtain ⟨z, m, n, rfl, q⟩ := h
  have nd := sc_is_size.nd
  refine ⟨_, (pss_cons (ps_if (md_cmp z_lt (dv 2) (pe_op z_sub (dv 1) pe_int) (nomark _)) (pss_one (ps_ret (pe_cmpR z_eq (dv 0) (pe_glob (v := .int 5) rfl m_PIECE_BYTES ⟨_, rfl⟩) (nomark _)))) pss_nil) (pss_one (ps_ret (md_and (pe_cmpR z_le (dv 0) (pe_glob (v := .int 5) rfl m_PIECE_BYTES ⟨_, rfl⟩) (nomark _)) (pe_one (md_or (pe_cmpR z_gt (dv 0) pe_int (nomark _)) (pe_one (pe_cmpR z_eq (dv 1) pe_int (nomark _))))))))), ?_⟩
  conv => whnf
  refine ite2 (fun c => ?_) (fun c => ?_)
  · have c1 : ((n : Nat) : Int) < ((m : Nat) : Int) - 1 := dec_true c
    have e : decide (if n + 1 < m then z = 5 else (z ≤ 5 ∧ (0 < z ∨ m = 1))) = decide (((z : Nat) : Int) = 5) := by
      rw [Bool.eq_iff_iff, decide_eq_true_iff, decide_eq_true_iff, if_pos (by omega)]; omega
    rw [e] at q
    exact q
  · have c1 : ¬ ((n : Nat) : Int) < ((m : Nat) : Int) - 1 := dec_false c
    have e : decide (if n + 1 < m then z = 5 else (z ≤ 5 ∧ (0 < z ∨ m = 1))) = (decide (((z : Nat) : Int) ≤ 5) && (decide ((0 : Int) < ((z : Nat) : Int)) || decide (((m : Nat) : Int) = 1))) := by
      rw [Bool.eq_iff_iff, decide_eq_true_iff, if_neg (by omega), Bool.and_eq_true, Bool.or_eq_true, decide_eq_true_iff, decide_eq_true_iff, decide_eq_true_iff]; omega
    rw [e] at q
    conv => whnf
    refine ite2 (fun d => ?_) (fun d => ?_)
    · have d1 : decide (((z : Nat) : Int) ≤ 5) = true := d
      rw [d1, Bool.true_and] at q
      conv => whnf
      refine ite2 (fun f => ?_) (fun f => ?_)
      · have f1 : decide ((0 : Int) < ((z : Nat) : Int)) = true := f
        rw [f1, Bool.true_or] at q
        exact q
      · have f1 : decide ((0 : Int) < ((z : Nat) : Int)) = false := decide_eq_false (dec_false f)
        rw [f1, Bool.false_or] at q
        exact q
    · have d1 : decide (((z : Nat) : Int) ≤ 5) = false := decide_eq_false (dec_false d)
      rw [d1, Bool.false_and] at q
      exact q
theorem sc_check_piece : FnScope ["piece", "many", "number"] ["piece"] (defScope s_check_piece) := ⟨rfl, rfl, rfl, by decide +kernel, rfl, by decide +kernel, by decide +kernel⟩
set_option maxHeartbeats 4000000 in
theorem ok_check_piece {a_check_piece : Addr} {d_check_piece : FuncData} {a_is_size : Addr} {d_is_size : FuncData} {a_NoThing : Addr} (F_check_piece : Fun K "check_piece" "check_piece" s_check_piece a_check_piece d_check_piece) (m_len : mg "len" = none) (m_NoThing : mg "NoThing" = some (.ref a_NoThing)) (fact_exc_NoThing : PySem.W.excIn K a_NoThing [.type "ValueError", .type "Exception", .type "BaseException", .type "object"] "ValueError.__new__" = true) (G_is_size : FnOk P w K mg base CX0 1 a_is_size d_is_size ["size", "many", "number"] (spIsSize)) (b_is_size : Binds K d_is_size ["size", "many", "number"] []) (k_is_size : PySem.W.keepIn K (.ref a_is_size) = true) (m_is_size : mg "is_size" = some (.ref a_is_size)) :
    FnOk P w K mg base (CXR P w) 2 a_check_piece d_check_piece ["piece"] (spChkP2 a_NoThing) := by
  refine F_check_piece.okR sc_check_piece (fun vs H Q E h => ?_) (fun cdv A outer s H vs Q E hr h => ?_)
  · obtain ⟨l, ps, rfl, _⟩ := h
    rfl
  obtain ⟨l, ps, rfl, ⟨hl, hs⟩, el, q1, q2⟩ := h
  have nd := sc_check_piece.nd
  refine ⟨_, (pss_cons (ps_if (md_cmp z_lt (pe_callB z_len rfl m_len bt_len (pa_cons (dv 0) pa_nil)) pe_int (nomark _)) (pss_one (ps_raise F.excBase_ValueError m_NoThing fact_exc_NoThing (pa_cons pe_str pa_nil))) pss_nil) (pss_cons (ps_set (i := 1) nd rfl (Or.inl rfl) (pe_op z_fdiv (pe_ix z_ixL (dv 0) pe_int (fun _ _ => rfl)) pe_int)) (pss_cons (ps_set (i := 2) nd rfl (Or.inl rfl) (pe_op z_mod (pe_ix z_ixL (dv 0) pe_int (fun _ _ => rfl)) pe_int)) (pss_cons (ps_if (md_cmp z_ge (dv 2) (dv 1) (nomark _)) (pss_one (ps_raise F.excBase_ValueError m_NoThing fact_exc_NoThing (pa_cons pe_str pa_nil))) pss_nil) (pss_one (ps_if (pt_not (md_val (pe_call G_is_size (hr.mono (by decide)) rfl m_is_size k_is_size b_is_size .nil pass0 (pa_cons (pe_op z_sub (pe_callB z_len rfl m_len bt_len (pa_cons (dv 0) pa_nil)) pe_int) (pa_cons (dv 1) (pa_cons (dv 2) pa_nil)))))) (pss_one (ps_raise F.excBase_ValueError m_NoThing fact_exc_NoThing (pa_cons pe_str pa_nil))) pss_nil)))))), ?_⟩
  refine ⟨_, .inl (SqL.of el), ?_⟩
  rw [List.length_map]
  conv => whnf
  refine ite2 (fun c => ?_) (fun c => ?_)
  · have c1 : ((ps.length : Nat) : Int) < 2 := dec_true c
    refine ⟨small_lit rfl, q2 fun ⟨t, m, n, h⟩ => ?_⟩
    have := h.1
    omega
  have c1 : ¬ ((ps.length : Nat) : Int) < 2 := dec_false c
  rcases hs with hs | ⟨t, m, n, r, rfl, hn, hm⟩
  · omega
  have iff := pcOk_of (t := t) (r := r) hn hm
  have a1 : atI ((t :: (16 * ((m : Nat) : Int) + ((n : Nat) : Int)) :: r).map V.int) 1 = some (.int (16 * ((m : Nat) : Int) + ((n : Nat) : Int))) := atI_nat (j := 1) rfl
  refine ⟨_, _, SqL.of el, a1, ⟨by decide, by decide⟩, _, _, SqL.of el, a1, (by show (0 : Int) < 16; decide), ?_⟩
  have em : (16 * ((m : Nat) : Int) + ((n : Nat) : Int)) / 16 = ((m : Nat) : Int) := by omega
  have en : (16 * ((m : Nat) : Int) + ((n : Nat) : Int)) % 16 = ((n : Nat) : Int) := by omega
  conv => whnf
  refine ite2 (fun c => ?_) (fun c => ?_)
  · have c2 : (16 * ((m : Nat) : Int) + ((n : Nat) : Int)) / 16 ≤ (16 * ((m : Nat) : Int) + ((n : Nat) : Int)) % 16 := dec_true c
    exact ⟨small_lit rfl, q2 fun z => by have := (iff.mp z).1; omega⟩
  have c2 : ¬ (16 * ((m : Nat) : Int) + ((n : Nat) : Int)) / 16 ≤ (16 * ((m : Nat) : Int) + ((n : Nat) : Int)) % 16 := dec_false c
  refine ⟨_, .inl (SqL.of el), ?_⟩
  rw [List.length_map]
  have ez : (((t :: (16 * ((m : Nat) : Int) + ((n : Nat) : Int)) :: r).length : Nat) : Int) - 2 = ((r.length : Nat) : Int) := by rw [List.length_cons, List.length_cons]; omega
  refine ⟨r.length, m, n, (by show [V.int ((((t :: (16 * ((m : Nat) : Int) + ((n : Nat) : Int)) :: r).length : Nat) : Int) - 2), V.int ((16 * ((m : Nat) : Int) + ((n : Nat) : Int)) / 16), V.int ((16 * ((m : Nat) : Int) + ((n : Nat) : Int)) % 16)] = _; rw [ez, em, en]), ?_⟩
  by_cases ok : (if n + 1 < m then r.length = 5 else (r.length ≤ 5 ∧ (0 < r.length ∨ m = 1)))
  · rw [decide_eq_true ok]
    exact q1 (iff.mpr ⟨by omega, ok⟩)
  · rw [decide_eq_false ok]
    exact ⟨small_lit rfl, q2 fun z => ok (iff.mp z).2⟩
theorem sc_Joiner_init : FnScope ["self"] ["self"] (defScope s_Joiner_init) := ⟨rfl, rfl, rfl, by decide +kernel, rfl, by decide +kernel, by decide +kernel⟩
set_option maxHeartbeats 4000000 in
theorem ok_Joiner_init {a_Joiner_init : Addr} {d_Joiner_init : FuncData} {a_Joiner : Addr} (F_Joiner_init : Fun K "__init__" "Joiner.__init__" s_Joiner_init a_Joiner_init d_Joiner_init) (fact_cls_Joiner : Cls K a_Joiner) (fact_na_Joiner_opened : NoAttr K a_Joiner "opened") (fact_na_Joiner_tag : NoAttr K a_Joiner "tag") (fact_na_Joiner_many : NoAttr K a_Joiner "many") (fact_na_Joiner_had : NoAttr K a_Joiner "had") (fact_na_Joiner_joined : NoAttr K a_Joiner "joined") (fact_na_Joiner_broken_tag : NoAttr K a_Joiner "broken_tag") (m_Joiner : mg "Joiner" = some (.ref a_Joiner)) :
    FnOk P w K mg base CX0 1 a_Joiner_init d_Joiner_init ["self"] (spJoInit a_Joiner) := by
  refine F_Joiner_init.ok sc_Joiner_init (fun vs H Q E h => ?_) (fun cdv A outer s H vs Q E hr h => ?_)
  · obtain ⟨j, dx, rfl, _⟩ := h
    rfl
  obtain ⟨j, dx, rfl, e, q⟩ := h
  have nd := sc_Joiner_init.nd
  refine ⟨_, (pss_cons (md_set fact_cls_Joiner fact_na_Joiner_opened (dv 0) pe_bl) (pss_cons (md_set fact_cls_Joiner fact_na_Joiner_tag (dv 0) pe_non) (pss_cons (md_set fact_cls_Joiner fact_na_Joiner_many (dv 0) pe_int) (pss_cons (md_set fact_cls_Joiner fact_na_Joiner_had (dv 0) pe_int) (pss_cons (md_set fact_cls_Joiner fact_na_Joiner_joined (dv 0) (pe_lst pa_nil)) (pss_one (md_set fact_cls_Joiner fact_na_Joiner_broken_tag (dv 0) pe_non))))))), ?_⟩
  refine ⟨dx, _, e, by decide, ?_⟩
  refine ⟨dx, _, upd_same, (show 1 < 1000 by decide), ?_⟩
  refine ⟨dx, _, upd_same, (show 2 < 1000 by decide), ?_⟩
  refine ⟨dx, _, upd_same, (show 3 < 1000 by decide), ?_⟩
  refine ⟨small_lit rfl, fun jl hjl => ?_⟩
  have nj : j ≠ jl := fun z => by rw [z, upd_same] at hjl; cases hjl
  refine ⟨dx, _, (upd_ne nj).trans upd_same, (show 4 < 1000 by decide), ?_⟩
  refine ⟨dx, _, upd_same, (show 5 < 1000 by decide), ?_⟩
  refine q _ ⟨dx, .non, jl, upd_same, ?_, fun z => nomatch z⟩ fun x o hx ex => ?_
  · rw [upd_ne (Ne.symm nj), upd_ne (Ne.symm nj), upd_same]; rfl
  · have hxl : x ≠ jl := fun z => by
      rw [upd_ne (Ne.symm nj), upd_ne (Ne.symm nj), upd_ne (Ne.symm nj), upd_ne (Ne.symm nj)] at hjl
      rw [z, hjl] at ex; cases ex
    rw [upd_ne hx, upd_ne hx, upd_ne hxl, upd_ne hx, upd_ne hx, upd_ne hx, upd_ne hx]
    exact ex
theorem sc_Joiner_end : FnScope ["self"] ["self"] (defScope s_Joiner_end) := ⟨rfl, rfl, rfl, by decide +kernel, rfl, by decide +kernel, by decide +kernel⟩
set_option maxHeartbeats 4000000 in
theorem ok_Joiner_end {a_Joiner_end : Addr} {d_Joiner_end : FuncData} {a_Joiner : Addr} (F_Joiner_end : Fun K "end" "Joiner.end" s_Joiner_end a_Joiner_end d_Joiner_end) (fact_cls_Joiner : Cls K a_Joiner) (fact_na_Joiner_opened : NoAttr K a_Joiner "opened") (fact_na_Joiner_broken_tag : NoAttr K a_Joiner "broken_tag") (fact_na_Joiner_tag : NoAttr K a_Joiner "tag") (m_Joiner : mg "Joiner" = some (.ref a_Joiner)) :
    FnOk P w K mg base CX0 1 a_Joiner_end d_Joiner_end ["self"] (spJoEnd a_Joiner) := by
  refine F_Joiner_end.ok sc_Joiner_end (fun vs H Q E h => ?_) (fun cdv A outer s H vs Q E hr h => ?_)
  · obtain ⟨j, s, rfl, _⟩ := h
    rfl
  obtain ⟨j, s, rfl, hJ, q⟩ := h
  have nd := sc_Joiner_end.nd
  refine ⟨_, (pss_cons (ps_if (pt_not (md_val (md_fld fact_cls_Joiner fact_na_Joiner_opened (dv 0)))) (pss_one (ps_ret (pe_lst pa_nil))) pss_nil) (pss_cons (md_set fact_cls_Joiner fact_na_Joiner_opened (dv 0) pe_bl) (pss_cons (md_set fact_cls_Joiner fact_na_Joiner_broken_tag (dv 0) (md_fld fact_cls_Joiner fact_na_Joiner_tag (dv 0))) (pss_one (ps_ret (pe_lst (pa_cons (pe_tup (pa_cons pe_str (pa_cons (md_fld fact_cls_Joiner fact_na_Joiner_tag (dv 0)) pa_nil))) pa_nil))))))), ?_⟩
  obtain ⟨dx, tv, jl, ej, el, ht⟩ := id hJ
  refine ⟨dx, _, _, ej, rfl, ?_⟩
  cases ho : s.o
  · have e1 : endJ s = s := if_neg (by rw [ho]; exact Bool.false_ne_true)
    have e2 : endE s = [] := if_neg (by rw [ho]; exact Bool.false_ne_true)
    rw [e1, e2] at q
    exact ⟨small_lit rfl, fun p hp => q p [] _ hp upd_same .nil (hJ.same (same_new hp _)) (But1.of (same_new hp _)) (fun q' dx' tv' e' => ⟨hJ.nq hp (upd_ne (ne_of_none ej hp)) q' dx' tv' e', .inr ⟨dx', tv', s, (upd_ne (ne_of_none ej hp)).symm.trans e'⟩⟩)⟩
  · have e1 : endJ s = { s with o := false, bt := some s.tg } := if_pos ho
    have e2 : endE s = [.broken s.tg] := if_pos ho
    rw [e1, e2] at q
    have etv := ht ho
    subst etv
    refine ⟨dx, _, ej, (show 6 < 1000 by decide), ?_⟩
    refine ⟨dx, _, _, upd_same, rfl, dx, _, upd_same, (show 6 < 1000 by decide), ?_⟩
    refine ⟨dx, _, _, upd_same, rfl, small_lit rfl, fun pt hpt => ?_⟩
    have nj : j ≠ pt := fun z => by rw [z, upd_same] at hpt; cases hpt
    refine ⟨small_lit rfl, fun p hp => ?_⟩
    have njp : j ≠ p := fun z => by rw [z, upd_ne (by rw [← z]; exact nj), upd_same] at hp; cases hp
    have njl : jl ≠ j := fun z => by rw [z, ej] at el; cases el
    have hpt' : H pt = none := by rw [upd_ne (Ne.symm nj), upd_ne (Ne.symm nj)] at hpt; exact hpt
    have npt : p ≠ pt := fun z => by rw [z, upd_same] at hp; cases hp
    have hp' : H p = none := by rw [upd_ne npt, upd_ne (Ne.symm njp), upd_ne (Ne.symm njp)] at hp; exact hp
    refine q p [pt] _ hp' upd_same (.cons ?_ .nil) ⟨dx, .int s.tg, jl, ?_, ?_, fun z => nomatch z⟩ (fun x o hx ex => ?_) (fun q' dx' tv' e' => ?_)
    rotate_right
    · rw [upd_ne njp, upd_ne nj, upd_same] at e'
      have e2' : jl = q' := joF_inj (s := { s with o := false, bt := some s.tg }) (s' := { s with o := false, bt := some s.tg }) e'
      subst e2'
      exact ⟨ne_of_none el hp', .inr ⟨dx, _, s, ej⟩⟩
    · show upd _ p _ pt = _
      rw [upd_ne (Ne.symm npt), upd_same]
    · rw [upd_ne njp, upd_ne nj, upd_same]; rfl
    · rw [upd_ne (ne_of_none el hp'), upd_ne (ne_of_none el hpt'), upd_ne njl, upd_ne njl]; exact el
    · rw [upd_ne (ne_of_none ex hp'), upd_ne (ne_of_none ex hpt'), upd_ne hx, upd_ne hx]; exact ex
theorem sc_Joiner_is_open : FnScope ["self"] ["self"] (defScope s_Joiner_is_open) := ⟨rfl, rfl, rfl, by decide +kernel, rfl, by decide +kernel, by decide +kernel⟩
set_option maxHeartbeats 4000000 in
theorem ok_Joiner_is_open {a_Joiner_is_open : Addr} {d_Joiner_is_open : FuncData} {a_Joiner : Addr} (F_Joiner_is_open : Fun K "is_open" "Joiner.is_open" s_Joiner_is_open a_Joiner_is_open d_Joiner_is_open) (fact_cls_Joiner : Cls K a_Joiner) (fact_na_Joiner_opened : NoAttr K a_Joiner "opened") (m_Joiner : mg "Joiner" = some (.ref a_Joiner)) :
    FnOk P w K mg base CX0 1 a_Joiner_is_open d_Joiner_is_open ["self"] (spJoOpen a_Joiner) := by
  refine F_Joiner_is_open.ok sc_Joiner_is_open (fun vs H Q E h => ?_) (fun cdv A outer s H vs Q E hr h => ?_)
  · obtain ⟨j, s, rfl, _⟩ := h
    rfl
  obtain ⟨j, s, rfl, ⟨dx, tv, jl, ej, _⟩, q⟩ := h
  have nd := sc_Joiner_is_open.nd
  refine ⟨_, (pss_one (ps_ret (md_fld fact_cls_Joiner fact_na_Joiner_opened (dv 0)))), ?_⟩
  exact ⟨dx, _, _, ej, rfl, q⟩
theorem sc_Joiner_goes_on : FnScope ["self", "piece"] ["self", "piece"] (defScope s_Joiner_goes_on) := ⟨rfl, rfl, rfl, by decide +kernel, rfl, by decide +kernel, by decide +kernel⟩
set_option maxHeartbeats 4000000 in
theorem ok_Joiner_goes_on {a_Joiner_goes_on : Addr} {d_Joiner_goes_on : FuncData} {a_Joiner : Addr} (F_Joiner_goes_on : Fun K "goes_on" "Joiner.goes_on" s_Joiner_goes_on a_Joiner_goes_on d_Joiner_goes_on) (fact_cls_Joiner : Cls K a_Joiner) (fact_na_Joiner_many : NoAttr K a_Joiner "many") (fact_na_Joiner_had : NoAttr K a_Joiner "had") (fact_na_Joiner_tag : NoAttr K a_Joiner "tag") (fact_na_Joiner_opened : NoAttr K a_Joiner "opened") (m_Joiner : mg "Joiner" = some (.ref a_Joiner)) :
    FnOk P w K mg base CX0 1 a_Joiner_goes_on d_Joiner_goes_on ["self", "piece"] (spJoOn a_Joiner) := by
  refine F_Joiner_goes_on.ok sc_Joiner_goes_on (fun vs H Q E h => ?_) (fun cdv A outer s H vs Q E hr h => ?_)
  · obtain ⟨j, s, l, ps, rfl, _⟩ := h
    rfl
  obtain ⟨j, s, l, ps, rfl, ⟨dx, tv, jl, ej, ejl, ht⟩, hm, el, q⟩ := h
  have nd := sc_Joiner_goes_on.nd
  refine ⟨_, (pss_one (ps_ret (md_and (md_fld fact_cls_Joiner fact_na_Joiner_opened (dv 0)) (pe_one (pe_cmpR (z_eqL hr.units) (pe_slice z_slL (dv 1) po_none (md_part pe_int)) (pe_lst (pa_cons (md_fld fact_cls_Joiner fact_na_Joiner_tag (dv 0)) (pa_cons (pe_op z_add (pe_op z_mul pe_int (md_fld fact_cls_Joiner fact_na_Joiner_many (dv 0))) (md_fld fact_cls_Joiner fact_na_Joiner_had (dv 0))) pa_nil))) (nomark _)))))), ?_⟩
  refine ⟨dx, _, _, ej, rfl, ?_⟩
  cases ho : s.o
  · have e : onB s ps = false := by unfold onB; rw [ho]; rfl
    rw [e] at q
    exact q _ (Same.refl _)
  · have e : onB s ps = decide (ps.take 2 = [s.tg, 16 * ((s.m : Nat) : Int) + ((s.h : Nat) : Int)]) := by unfold onB; rw [ho]; rfl
    rw [e] at q
    have etv := ht ho
    subst etv
    refine ⟨_, SqL.of el, fun p1 hp1 => ?_⟩
    have ec : cutV (ps.map V.int) none (some (2 : Int)) = (ps.take 2).map V.int := cut_take _ 2
    rw [ec]
    have g1 := same_new hp1 (.lst ((ps.take 2).map V.int))
    have e1 := upd_same (H := H) (a := p1) (o := .lst ((ps.take 2).map V.int))
    generalize upd H p1 (.lst ((ps.take 2).map V.int)) = H1 at g1 e1
    refine ⟨dx, _, _, g1 _ _ ej, rfl, dx, _, _, g1 _ _ ej, rfl, ⟨big64 (by decide) (by decide), big64 (by omega) (by omega)⟩, dx, _, _, g1 _ _ ej, rfl, small_lit rfl, fun p2 hp2 => ?_⟩
    have g2 := same_new hp2 (.lst [.int s.tg, .int (16 * ((s.m : Nat) : Int) + ((s.h : Nat) : Int))])
    have e2 : upd H1 p2 (.lst [.int s.tg, .int (16 * ((s.m : Nat) : Int) + ((s.h : Nat) : Int))]) p2 = some (.lst ([s.tg, 16 * ((s.m : Nat) : Int) + ((s.h : Nat) : Int)].map V.int)) := upd_same
    generalize upd H1 p2 (.lst [.int s.tg, .int (16 * ((s.m : Nat) : Int) + ((s.h : Nat) : Int))]) = H2 at g2 e2
    exact ⟨_, _, SqL.of (g2 _ _ e1), SqL.of e2, q _ (g1.trans g2)⟩
theorem sc_Joiner_add_piece : FnScope ["self", "piece"] ["self", "piece"] (defScope s_Joiner_add_piece) := ⟨rfl, rfl, rfl, by decide +kernel, rfl, by decide +kernel, by decide +kernel⟩
set_option maxHeartbeats 4000000 in
theorem ok_Joiner_add_piece {a_Joiner_add_piece : Addr} {d_Joiner_add_piece : FuncData} {a_Joiner : Addr} (F_Joiner_add_piece : Fun K "add_piece" "Joiner.add_piece" s_Joiner_add_piece a_Joiner_add_piece d_Joiner_add_piece) (fact_cls_Joiner : Cls K a_Joiner) (fact_na_Joiner_joined : NoAttr K a_Joiner "joined") (fact_na_Joiner_had : NoAttr K a_Joiner "had") (fact_na_Joiner_many : NoAttr K a_Joiner "many") (fact_na_Joiner_opened : NoAttr K a_Joiner "opened") (m_list : mg "list" = none) (fact_na_Joiner_tag : NoAttr K a_Joiner "tag") (m_Joiner : mg "Joiner" = some (.ref a_Joiner)) :
    FnOk P w K mg base CX0 1 a_Joiner_add_piece d_Joiner_add_piece ["self", "piece"] (spJoAdd a_Joiner) := by
  refine F_Joiner_add_piece.ok sc_Joiner_add_piece (fun vs H Q E h => ?_) (fun cdv A outer s H vs Q E hr h => ?_)
  · obtain ⟨j, s, l, ps, rfl, _⟩ := h
    rfl
  obtain ⟨j, s, l, ps, rfl, ⟨dx, tv, jl, ej, ejl, ht⟩, ho, hjs, hpl, h2, el, q⟩ := h
  have nd := sc_Joiner_add_piece.nd
  refine ⟨_, (pss_cons (md_set fact_cls_Joiner fact_na_Joiner_joined (dv 0) (pe_op z_cat (md_fld fact_cls_Joiner fact_na_Joiner_joined (dv 0)) (pe_slice z_slL (dv 1) (md_part pe_int) po_none))) (pss_cons (md_set fact_cls_Joiner fact_na_Joiner_had (dv 0) (pe_op z_add (md_fld fact_cls_Joiner fact_na_Joiner_had (dv 0)) pe_int)) (pss_cons (ps_if (md_cmp z_lt (md_fld fact_cls_Joiner fact_na_Joiner_had (dv 0)) (md_fld fact_cls_Joiner fact_na_Joiner_many (dv 0)) (nomark _)) (pss_one (ps_ret (pe_lst pa_nil))) pss_nil) (pss_cons (md_set fact_cls_Joiner fact_na_Joiner_opened (dv 0) pe_bl) (pss_one (ps_ret (pe_lst (pa_cons (pe_tup (pa_cons pe_str (pa_cons (md_fld fact_cls_Joiner fact_na_Joiner_tag (dv 0)) (pa_cons (pe_callTy z_listOf rfl m_list bt_list (pa_cons (md_fld fact_cls_Joiner fact_na_Joiner_joined (dv 0)) pa_nil)) pa_nil)))) pa_nil)))))))), ?_⟩
  have etv := ht ho
  subst etv
  refine ⟨dx, _, _, ej, rfl, _, SqL.of el, fun p1 hp1 => ?_⟩
  have ec : cutV (ps.map V.int) (some (2 : Int)) none = (ps.drop 2).map V.int := cut_from (a := 2) h2
  rw [ec]
  have g1 := same_new hp1 (.lst ((ps.drop 2).map V.int))
  have e1 := upd_same (H := H) (a := p1) (o := .lst ((ps.drop 2).map V.int))
  generalize upd H p1 (.lst ((ps.drop 2).map V.int)) = H1 at g1 e1
  refine ⟨_, _, g1 _ _ ejl, e1, (by rw [List.length_map, List.length_map, List.length_drop]; exact Nat.le_of_lt (Nat.lt_of_le_of_lt (show s.js.length + (ps.length - 2) ≤ 100000 by omega) (by decide))), fun p2 hp2 => ?_⟩
  have g2 := same_new hp2 (.lst (s.js.map V.int ++ (ps.drop 2).map V.int))
  have e2 : upd H1 p2 (.lst (s.js.map V.int ++ (ps.drop 2).map V.int)) p2 = some (.lst ((s.js ++ ps.drop 2).map V.int)) := by rw [upd_same, List.map_append]
  generalize upd H1 p2 (.lst (s.js.map V.int ++ (ps.drop 2).map V.int)) = H2 at g2 e2
  have g12 := g1.trans g2
  have ej2 := g12 _ _ ej
  have np2 : p2 ≠ j := fun z => by rw [z, ej2] at e2; cases e2
  refine ⟨dx, _, ej2, (show 6 < 1000 by decide), ?_⟩
  refine ⟨dx, _, _, upd_same, rfl, dx, _, upd_same, (show 6 < 1000 by decide), ?_⟩
  have e3 : upd (upd H2 j (.ins a_Joiner dx (putF "joined" (.ref p2) (joF s (.int s.tg) jl)))) j (.ins a_Joiner dx (putF "had" (.int (((s.h : Nat) : Int) + 1)) (putF "joined" (.ref p2) (joF s (.int s.tg) jl)))) j = some (.ins a_Joiner dx (joF { s with h := s.h + 1, js := s.js ++ ps.drop 2 } (.int s.tg) p2)) := upd_same
  have b3 : But1 H (upd (upd H2 j (.ins a_Joiner dx (putF "joined" (.ref p2) (joF s (.int s.tg) jl)))) j (.ins a_Joiner dx (putF "had" (.int (((s.h : Nat) : Int) + 1)) (putF "joined" (.ref p2) (joF s (.int s.tg) jl))))) j := fun x o hx e => by rw [upd_ne hx, upd_ne hx]; exact g12 _ _ e
  have f3 : upd (upd H2 j (.ins a_Joiner dx (putF "joined" (.ref p2) (joF s (.int s.tg) jl)))) j (.ins a_Joiner dx (putF "had" (.int (((s.h : Nat) : Int) + 1)) (putF "joined" (.ref p2) (joF s (.int s.tg) jl)))) p2 = some (.lst ((s.js ++ ps.drop 2).map V.int)) := by rw [upd_ne np2, upd_ne np2]; exact e2
  generalize upd (upd H2 j (.ins a_Joiner dx (putF "joined" (.ref p2) (joF s (.int s.tg) jl)))) j (.ins a_Joiner dx (putF "had" (.int (((s.h : Nat) : Int) + 1)) (putF "joined" (.ref p2) (joF s (.int s.tg) jl)))) = H3 at e3 b3 f3
  have up3 : ∀ x, H3 x = none → H x = none := fun x e => by
    cases ex : H x with
    | none => rfl
    | some o =>
      exfalso
      by_cases c : x = j
      · rw [c, e3] at e; cases e
      · rw [b3 x o c ex] at e; cases e
  refine ⟨dx, _, _, e3, rfl, dx, _, _, e3, rfl, ?_⟩
  conv => whnf
  refine ite2 (fun c => ?_) (fun c => ?_)
  · have c1 : ((s.h + 1 : Nat) : Int) < ((s.m : Nat) : Int) := dec_true c
    have eE : addE s ps = [] := if_pos (by omega)
    have eJ : addJ s ps = { s with h := s.h + 1, js := s.js ++ ps.drop 2 } := by
      unfold addJ
      rw [if_pos (by omega)]
    rw [eE, eJ] at q
    refine ⟨small_lit rfl, fun p hp => ?_⟩
    have g4 := same_new hp (.lst [])
    exact q p [] _ (up3 p hp) upd_same .nil ⟨dx, .int s.tg, p2, g4 _ _ e3, g4 _ _ f3, fun _ => rfl⟩ (b3.trans (But1.of g4)) (fun q' dx' tv' e' => ⟨JoAt.nq (s := { s with h := s.h + 1, js := s.js ++ ps.drop 2 }) ⟨dx, .int s.tg, p2, e3, f3, fun _ => rfl⟩ hp (upd_ne (ne_of_none e3 hp)) q' dx' tv' e', .inl (by have e2' := joF_inj ((g4 _ _ e3).symm.trans e'); rw [← e2']; exact g1.none hp2)⟩)
  · have c1 : ¬ ((s.h + 1 : Nat) : Int) < ((s.m : Nat) : Int) := dec_false c
    have eE : addE s ps = [.whole s.tg (s.js ++ ps.drop 2)] := if_neg (by omega)
    have eJ : addJ s ps = { s with h := s.h + 1, js := s.js ++ ps.drop 2, o := false } := by
      unfold addJ
      rw [if_neg (by omega)]
    rw [eE, eJ] at q
    refine ⟨dx, _, e3, (show 6 < 1000 by decide), ?_⟩
    have e4 : upd H3 j (.ins a_Joiner dx (putF "opened" (.bl false) (joF { s with h := s.h + 1, js := s.js ++ ps.drop 2 } (.int s.tg) p2))) j = some (.ins a_Joiner dx (joF { s with h := s.h + 1, js := s.js ++ ps.drop 2, o := false } (.int s.tg) p2)) := upd_same
    have b4 : But1 H (upd H3 j (.ins a_Joiner dx (putF "opened" (.bl false) (joF { s with h := s.h + 1, js := s.js ++ ps.drop 2 } (.int s.tg) p2)))) j := fun x o hx e => by rw [upd_ne hx]; exact b3 x o hx e
    have f4 := (upd_ne (H := H3) (o := .ins a_Joiner dx (putF "opened" (.bl false) (joF { s with h := s.h + 1, js := s.js ++ ps.drop 2 } (.int s.tg) p2))) np2).trans f3
    generalize upd H3 j (.ins a_Joiner dx (putF "opened" (.bl false) (joF { s with h := s.h + 1, js := s.js ++ ps.drop 2 } (.int s.tg) p2))) = H4 at e4 b4 f4
    have up4 : ∀ x, H4 x = none → H x = none := fun x e => by
      cases ex : H x with
      | none => rfl
      | some o =>
        exfalso
        by_cases c : x = j
        · rw [c, e4] at e; cases e
        · rw [b4 x o c ex] at e; cases e
    refine ⟨dx, _, _, e4, rfl, dx, _, _, e4, rfl, _, .inl (SqL.of f4), fun pl hpl => ?_⟩
    have g5 := same_new hpl (.lst ((s.js ++ ps.drop 2).map V.int))
    have e5 := upd_same (H := H4) (a := pl) (o := .lst ((s.js ++ ps.drop 2).map V.int))
    generalize upd H4 pl (.lst ((s.js ++ ps.drop 2).map V.int)) = H5 at g5 e5
    refine ⟨small_lit rfl, fun pt hpt => ?_⟩
    have g6 := same_new hpt (.tup [.str "whole", .int s.tg, .ref pl])
    have e6 := upd_same (H := H5) (a := pt) (o := .tup [.str "whole", .int s.tg, .ref pl])
    generalize upd H5 pt (.tup [.str "whole", .int s.tg, .ref pl]) = H6 at g6 e6
    refine ⟨small_lit rfl, fun p hp => ?_⟩
    have g7 := same_new hp (.lst [.ref pt])
    have g47 := g5.trans (g6.trans g7)
    exact q p [pt] _ (up4 p ((g5.trans g6).none hp)) upd_same (.cons ⟨pl, up4 pl hpl, g7 _ _ e6, (g6.trans g7) _ _ e5⟩ .nil) ⟨dx, .int s.tg, p2, g47 _ _ e4, g47 _ _ f4, fun z => nomatch z⟩ (b4.trans (But1.of g47)) (fun q' dx' tv' e' => ⟨JoAt.nq (s := { s with h := s.h + 1, js := s.js ++ ps.drop 2, o := false }) (H := H6) ⟨dx, .int s.tg, p2, (g5.trans g6) _ _ e4, (g5.trans g6) _ _ f4, fun z => nomatch z⟩ hp (upd_ne (ne_of_none ((g5.trans g6) _ _ e4) hp)) q' dx' tv' e', .inl (by have e2' := joF_inj ((g47 _ _ e4).symm.trans e'); rw [← e2']; exact g1.none hp2)⟩)
theorem sc_Joiner_begin_thing : FnScope ["self", "piece", "told"] ["self", "piece"] (defScope s_Joiner_begin_thing) := ⟨rfl, rfl, rfl, by decide +kernel, rfl, by decide +kernel, by decide +kernel⟩
set_option maxHeartbeats 4000000 in
theorem ok_Joiner_begin_thing {a_Joiner_begin_thing : Addr} {d_Joiner_begin_thing : FuncData} {a_Joiner_end : Addr} {d_Joiner_end : FuncData} {a_Joiner_add_piece : Addr} {d_Joiner_add_piece : FuncData} {a_Joiner : Addr} (F_Joiner_begin_thing : Fun K "begin_thing" "Joiner.begin_thing" s_Joiner_begin_thing a_Joiner_begin_thing d_Joiner_begin_thing) (fact_cls_Joiner : Cls K a_Joiner) (fact_meth_Joiner_end : Meth K a_Joiner "end" a_Joiner_end) (fact_na_Joiner_broken_tag : NoAttr K a_Joiner "broken_tag") (fact_na_Joiner_opened : NoAttr K a_Joiner "opened") (fact_na_Joiner_tag : NoAttr K a_Joiner "tag") (fact_na_Joiner_many : NoAttr K a_Joiner "many") (fact_na_Joiner_had : NoAttr K a_Joiner "had") (fact_na_Joiner_joined : NoAttr K a_Joiner "joined") (fact_meth_Joiner_add_piece : Meth K a_Joiner "add_piece" a_Joiner_add_piece) (m_Joiner : mg "Joiner" = some (.ref a_Joiner)) (G_Joiner_end : FnOk P w K mg base CX0 1 a_Joiner_end d_Joiner_end ["self"] (spJoEnd a_Joiner)) (b_Joiner_end : Binds K d_Joiner_end ["self"] []) (G_Joiner_add_piece : FnOk P w K mg base CX0 1 a_Joiner_add_piece d_Joiner_add_piece ["self", "piece"] (spJoAdd a_Joiner)) (b_Joiner_add_piece : Binds K d_Joiner_add_piece ["self", "piece"] []) :
    FnOk P w K mg base CX0 2 a_Joiner_begin_thing d_Joiner_begin_thing ["self", "piece"] (spJoBeg a_Joiner) := by
  refine F_Joiner_begin_thing.ok sc_Joiner_begin_thing (fun vs H Q E h => ?_) (fun cdv A outer s H vs Q E hr h => ?_)
  · obtain ⟨j, s, l, ps, t, m, n, rfl, _⟩ := h
    rfl
  obtain ⟨j, s, l, ps, t, m, n, rfl, hJ, hp, el, q⟩ := h
  have nd := sc_Joiner_begin_thing.nd
  refine ⟨_, (pss_cons (ps_set (i := 2) nd rfl (Or.inl rfl) (md_meth0 fact_cls_Joiner fact_meth_Joiner_end G_Joiner_end (hr.mono (by decide)) b_Joiner_end .nil pass0 (dv 0))) (pss_cons (md_set fact_cls_Joiner fact_na_Joiner_broken_tag (dv 0) pe_non) (pss_cons (md_set fact_cls_Joiner fact_na_Joiner_opened (dv 0) pe_bl) (pss_cons (md_set fact_cls_Joiner fact_na_Joiner_tag (dv 0) (pe_ix z_ixL (dv 1) pe_int (fun _ _ => rfl))) (pss_cons (md_set fact_cls_Joiner fact_na_Joiner_many (dv 0) (pe_op z_fdiv (pe_ix z_ixL (dv 1) pe_int (fun _ _ => rfl)) pe_int)) (pss_cons (md_set fact_cls_Joiner fact_na_Joiner_had (dv 0) pe_int) (pss_cons (md_set fact_cls_Joiner fact_na_Joiner_joined (dv 0) (pe_lst pa_nil)) (pss_one (ps_ret (pe_op z_cat (dv 2) (md_meth fact_cls_Joiner fact_meth_Joiner_add_piece G_Joiner_add_piece (hr.mono (by decide)) b_Joiner_add_piece .nil pass0 (dv 0) (pa_cons (dv 1) pa_nil)))))))))))), ?_⟩
  obtain ⟨a0, a1⟩ := pc_at hp
  obtain ⟨h1, h2, h3, h4, h5, h6⟩ := hp
  have hp7 : ps.length ≤ 7 := by
    by_cases c : n + 1 < m
    · rw [if_pos c] at h6; omega
    · rw [if_neg c] at h6; omega
  obtain ⟨dx, tv, jl, ej, ejl, ht⟩ := id hJ
  have nl : l ≠ j := fun z => by rw [z, ej] at el; cases el
  refine ⟨⟨dx, _, ej, rfl⟩, j, s, rfl, hJ, fun p0 es0 H1 hp0 ep0 hE0 hJ1 b1 nq1 => ?_⟩
  obtain ⟨dx1, tv1, jl1, ej1, ejl1, _⟩ := hJ1
  have el1 := b1 _ _ nl el
  have nej0 : p0 ≠ j := fun z => by rw [z, ej1] at ep0; cases ep0
  refine ⟨dx1, _, ej1, (show 6 < 1000 by decide), ?_⟩
  refine ⟨dx1, _, upd_same, (show 6 < 1000 by decide), ?_⟩
  refine ⟨_, _, SqL.of ((upd_ne nl).trans ((upd_ne nl).trans el1)), a0, dx1, _, upd_same, (show 6 < 1000 by decide), ?_⟩
  refine ⟨_, _, SqL.of ((upd_ne nl).trans ((upd_ne nl).trans ((upd_ne nl).trans el1))), a1, ⟨by decide, by decide⟩, dx1, _, upd_same, (show 6 < 1000 by decide), ?_⟩
  refine ⟨dx1, _, upd_same, (show 6 < 1000 by decide), ?_⟩
  refine ⟨small_lit rfl, fun p2 hp2 => ?_⟩
  have njp : j ≠ p2 := fun z => by rw [← z, upd_same] at hp2; cases hp2
  have hp2' : H1 p2 = none := by
    rw [upd_ne (Ne.symm njp), upd_ne (Ne.symm njp), upd_ne (Ne.symm njp), upd_ne (Ne.symm njp), upd_ne (Ne.symm njp)] at hp2
    exact hp2
  refine ⟨dx1, _, (upd_ne njp).trans upd_same, (show 6 < 1000 by decide), ?_⟩
  generalize hE : upd _ j _ = H8
  have em : (16 * ((m : Nat) : Int) + ((n : Nat) : Int)) / 16 = ((m : Nat) : Int) := by omega
  have e8 : H8 j = some (.ins a_Joiner dx1 (joF (opn (endJ s) t m) (.int t) p2)) := by
    rw [← hE, upd_same]
    show some (HO.ins a_Joiner dx1 [("opened", .bl true), ("tag", .int t), ("many", .int ((16 * ((m : Nat) : Int) + ((n : Nat) : Int)) / 16)), ("had", .int 0), ("joined", .ref p2), ("broken_tag", .non)]) = _
    rw [em]
    rfl
  have b8 : But1 H1 H8 j := fun x o hx e => by
    have hxp : x ≠ p2 := ne_of_none e hp2'
    rw [← hE, upd_ne hx, upd_ne hxp, upd_ne hx, upd_ne hx, upd_ne hx, upd_ne hx, upd_ne hx]
    exact e
  have f8 : H8 p2 = some (.lst (([] : List Int).map V.int)) := by rw [← hE, upd_ne (Ne.symm njp), upd_same]; rfl
  clear hE hp2
  have hJ8 : JoAt a_Joiner H8 j (opn (endJ s) t m) := ⟨dx1, .int t, p2, e8, f8, fun _ => rfl⟩
  refine ⟨⟨dx1, _, e8, rfl⟩, j, opn (endJ s) t m, l, ps, rfl, hJ8, rfl, Nat.zero_le _, by omega, h1, b8 _ _ nl el1, fun p9 es9 H9 hp9 ep9 hE9 hJ9 b9 nq9 => ?_⟩
  have ep09 := b9 _ _ nej0 (b8 _ _ nej0 ep0)
  have hl0 := endE_len s
  have hl9 := addE_len (opn (endJ s) t m) ps
  have l0 := hE0.len
  have l9 := hE9.len
  obtain ⟨dx9, tv9, jl9, ej9, _⟩ := id hJ9
  have b19 := b8.trans b9
  have bA := b1.trans b19
  refine ⟨_, _, ep09, ep9, (by rw [List.length_map, List.length_map]; exact small (by omega)), fun p10 hp10 => ?_⟩
  have g10 := same_new hp10 (.lst (es0.map V.ref ++ es9.map V.ref))
  refine q p10 (es0 ++ es9) _ (bA.none ej9 hp10) (by rw [upd_same, List.map_append]) ?_ (hJ9.same g10) (bA.trans (But1.of g10)) (fun q' dx' tv' e' => ⟨hJ9.nq hp10 (upd_ne (ne_of_none ej9 hp10)) q' dx' tv' e', .inl ?_⟩)
  · exact ((hE0.but b19 ej1).append (hE9.imp fun x z => (b1.trans b8).none e8 z)).same g10
  · have e9' : H9 j = some (.ins a_Joiner dx' (joF (addJ (opn (endJ s) t m) ps) tv' q')) := (upd_ne (ne_of_none ej9 hp10)).symm.trans e'
    rcases (nq9 q' dx' tv' e9').2 with z | ⟨dxz, tvz, sz, ez⟩
    · exact (b1.trans b8).none e8 z
    · have e2' := joF_inj (e8.symm.trans ez)
      rw [← e2']
      exact b1.none ej1 hp2'
theorem sc_Joiner_break_off : FnScope ["self", "tag", "told"] ["self", "tag"] (defScope s_Joiner_break_off) := ⟨rfl, rfl, rfl, by decide +kernel, rfl, by decide +kernel, by decide +kernel⟩
set_option maxHeartbeats 4000000 in
theorem ok_Joiner_break_off {a_Joiner_break_off : Addr} {d_Joiner_break_off : FuncData} {a_Joiner_end : Addr} {d_Joiner_end : FuncData} {a_Joiner : Addr} (F_Joiner_break_off : Fun K "break_off" "Joiner.break_off" s_Joiner_break_off a_Joiner_break_off d_Joiner_break_off) (fact_cls_Joiner : Cls K a_Joiner) (fact_meth_Joiner_end : Meth K a_Joiner "end" a_Joiner_end) (fact_na_Joiner_broken_tag : NoAttr K a_Joiner "broken_tag") (m_Joiner : mg "Joiner" = some (.ref a_Joiner)) (G_Joiner_end : FnOk P w K mg base CX0 1 a_Joiner_end d_Joiner_end ["self"] (spJoEnd a_Joiner)) (b_Joiner_end : Binds K d_Joiner_end ["self"] []) :
    FnOk P w K mg base CX0 2 a_Joiner_break_off d_Joiner_break_off ["self", "tag"] (spJoBrk a_Joiner) := by
  refine F_Joiner_break_off.ok sc_Joiner_break_off (fun vs H Q E h => ?_) (fun cdv A outer s H vs Q E hr h => ?_)
  · obtain ⟨j, s, t, rfl, _⟩ := h
    rfl
  obtain ⟨j, s, t, rfl, hJ, q⟩ := h
  have nd := sc_Joiner_break_off.nd
  refine ⟨_, (pss_cons (ps_set (i := 2) nd rfl (Or.inl rfl) (md_meth0 fact_cls_Joiner fact_meth_Joiner_end G_Joiner_end (hr.mono (by decide)) b_Joiner_end .nil pass0 (dv 0))) (pss_cons (ps_cut (ps_if (md_cmp z_ne (dv 1) (md_fld fact_cls_Joiner fact_na_Joiner_broken_tag (dv 0)) (nomark _)) (pss_cons (md_set fact_cls_Joiner fact_na_Joiner_broken_tag (dv 0) (dv 1)) (pss_one (ps_expr (md_append (dv 2) (pa_cons (pe_tup (pa_cons pe_str (pa_cons (dv 1) pa_nil))) pa_nil))))) pss_nil)) (pss_one (ps_ret (dv 2))))), ?_⟩
  obtain ⟨dx, tv, jl, ej, ejl, ht⟩ := id hJ
  refine ⟨⟨dx, _, ej, rfl⟩, j, s, rfl, hJ, fun p0 es0 H1 hp0 ep0 hE0 hJ1 b1 nq1 => ?_⟩
  obtain ⟨dx1, tv1, jl1, ej1, ejl1, ht1⟩ := id hJ1
  have nej0 : p0 ≠ j := fun z => by rw [z, ej1] at ep0; cases ep0
  have hl0 := endE_len s
  have l0 := hE0.len
  refine ⟨fun σ' H' => σ' = [some (.ref j), some (.int t), some (.ref p0)] ∧ ∃ es, H' p0 = some (.lst (es.map V.ref)) ∧ EvQ (fun l => H l = none) H' es (brkE s t) ∧ JoAt a_Joiner H' j (brkJ s t) ∧ But1 H H' j ∧ (∀ q dx tv, H' j = some (.ins a_Joiner dx (joF (brkJ s t) tv q)) → q ≠ p0 ∧ (H q = none ∨ ∃ dx tv s0, H j = some (.ins a_Joiner dx (joF s0 tv q)))), ?_, ?_⟩
  · refine ⟨dx1, _, _, ej1, rfl, ?_⟩
    by_cases c : (endJ s).bt = some t
    · have eJ : brkJ s t = endJ s := if_pos c
      have eE : brkE s t = endE s := by unfold brkE; rw [if_pos c, List.append_nil]
      rw [eJ, eE]
      have ev : vO (endJ s).bt = .int t := by rw [c]; rfl
      rw [ev]
      conv => whnf
      refine iteNS rfl ⟨rfl, es0, ep0, hE0, hJ1, b1, nq1⟩
    · have eJ : brkJ s t = { endJ s with bt := some t } := if_neg c
      have eE : brkE s t = endE s ++ [.broken t] := by unfold brkE; rw [if_neg c]
      rw [eJ, eE]
      have go : ∀ (P : Prop), P → eqW (fun b => vB (.bl (!b)) fun k => if k = true then P else False) (.int t) (vO (endJ s).bt) := fun P hP => by
        cases e : (endJ s).bt with
        | none => exact hP
        | some u =>
          show (if (!decide (t = u)) = true then P else False)
          have hne : ¬ t = u := fun z => c (by rw [e, z])
          rw [decide_eq_false hne]
          exact hP
      have hcase : (endJ s).bt = none ∨ ∃ u, (endJ s).bt = some u ∧ ¬ t = u := by
        cases e : (endJ s).bt with
        | none => exact .inl rfl
        | some u => exact .inr ⟨u, rfl, fun z => c (by rw [e, z])⟩
      have njp0 := nq1 jl1 dx1 tv1 ej1
      have eEB : ∀ v ∈ endE s ++ [Ev.broken t], ∃ u, v = .broken u := fun v hv => by
        rcases List.mem_append.mp hv with z | z
        · unfold endE at z
          split at z
          · exact ⟨_, List.mem_singleton.mp z⟩
          · exact absurd z List.not_mem_nil
        · exact ⟨_, List.mem_singleton.mp z⟩
      have fin : ∀ H', H' = upd H1 j (.ins a_Joiner dx1 (putF "broken_tag" (.int t) (joF (endJ s) tv1 jl1))) → JoAt a_Joiner H' j { endJ s with bt := some t } ∧ But1 H1 H' j := fun H' e => by
        subst e
        have njl : jl1 ≠ j := fun z => by rw [z, ej1] at ejl1; cases ejl1
        exact ⟨⟨dx1, tv1, jl1, upd_same, (upd_ne njl).trans ejl1, ht1⟩, fun x o hx ex => by rw [upd_ne hx]; exact ex⟩
      rcases hcase with hn | ⟨u, hu, hne⟩
      · have ev : vO (endJ s).bt = .non := by rw [hn]; rfl
        rw [ev]
        refine ⟨dx1, _, ej1, (show 6 < 1000 by decide), ?_⟩
        generalize hE : upd H1 j _ = H2
        obtain ⟨hJ2, b2⟩ := fin H2 hE.symm
        have ep02 := b2 _ _ nej0 ep0
        have ej2 : H2 j = some (.ins a_Joiner dx1 (joF { endJ s with bt := some t } tv1 jl1)) := by rw [← hE, upd_same]; rfl
        have ejl2 : H2 jl1 = some (.lst ((endJ s).js.map V.int)) := b2 _ _ (fun z => by rw [z, ej1] at ejl1; cases ejl1) ejl1
        refine ⟨⟨_, SqL.of ep02⟩, small_lit rfl, fun pt hpt => ?_⟩
        have g3 := same_new hpt (.tup [.str "broken", .int t])
        have e3 := upd_same (H := H2) (a := pt) (o := .tup [.str "broken", .int t])
        generalize upd H2 pt (.tup [.str "broken", .int t]) = H3 at g3 e3
        have ep03 := g3 _ _ ep02
        have hE3 : EvQ (fun l => H l = none) H3 (es0 ++ [pt]) (endE s ++ [.broken t]) := ((hE0.but b2 ej1).same g3).append (.cons e3 .nil)
        have hJ3 := hJ2.same g3
        have ej3 := g3 _ _ ej2
        have ejl3 := g3 _ _ ejl2
        have npj : j ≠ p0 := Ne.symm nej0
        refine ⟨_, ep03, small1 (by rw [List.length_map]; omega), rfl, es0 ++ [pt], by rw [upd_same, List.map_append]; rfl, ?_, ⟨dx1, tv1, jl1, (upd_ne npj).trans ej3, (upd_ne njp0.1).trans ejl3, ht1⟩, (fun x o hx ex => ?_), (fun q' dx' tv' e' => ?_)⟩
        · exact hE3.monoB eEB fun x xs ex => by rw [upd_ne (fun z => by rw [z, ep03] at ex; cases ex)]; exact ex
        · have hx0 : x ≠ p0 := fun z => by rw [z, hp0] at ex; cases ex
          rw [upd_ne hx0]
          exact g3 _ _ (b2 x o hx (b1 x o hx ex))
        · rw [upd_ne npj, ej3] at e'
          have e2' := joF_inj e'
          rw [← e2']; exact njp0
      · have ev : vO (endJ s).bt = .int u := by rw [hu]; rfl
        rw [ev]
        conv => whnf
        refine ite2 (fun _ => ?_) (fun z => absurd (show (!decide (t = u)) = true by rw [decide_eq_false hne]; rfl) z)
        refine ⟨dx1, _, ej1, (show 6 < 1000 by decide), ?_⟩
        generalize hE : upd H1 j _ = H2
        obtain ⟨hJ2, b2⟩ := fin H2 hE.symm
        have ep02 := b2 _ _ nej0 ep0
        have ej2 : H2 j = some (.ins a_Joiner dx1 (joF { endJ s with bt := some t } tv1 jl1)) := by rw [← hE, upd_same]; rfl
        have ejl2 : H2 jl1 = some (.lst ((endJ s).js.map V.int)) := b2 _ _ (fun z => by rw [z, ej1] at ejl1; cases ejl1) ejl1
        refine ⟨⟨_, SqL.of ep02⟩, small_lit rfl, fun pt hpt => ?_⟩
        have g3 := same_new hpt (.tup [.str "broken", .int t])
        have e3 := upd_same (H := H2) (a := pt) (o := .tup [.str "broken", .int t])
        generalize upd H2 pt (.tup [.str "broken", .int t]) = H3 at g3 e3
        have ep03 := g3 _ _ ep02
        have hE3 : EvQ (fun l => H l = none) H3 (es0 ++ [pt]) (endE s ++ [.broken t]) := ((hE0.but b2 ej1).same g3).append (.cons e3 .nil)
        have hJ3 := hJ2.same g3
        have ej3 := g3 _ _ ej2
        have ejl3 := g3 _ _ ejl2
        have npj : j ≠ p0 := Ne.symm nej0
        refine ⟨_, ep03, small1 (by rw [List.length_map]; omega), rfl, es0 ++ [pt], by rw [upd_same, List.map_append]; rfl, ?_, ⟨dx1, tv1, jl1, (upd_ne npj).trans ej3, (upd_ne njp0.1).trans ejl3, ht1⟩, (fun x o hx ex => ?_), (fun q' dx' tv' e' => ?_)⟩
        · exact hE3.monoB eEB fun x xs ex => by rw [upd_ne (fun z => by rw [z, ep03] at ex; cases ex)]; exact ex
        · have hx0 : x ≠ p0 := fun z => by rw [z, hp0] at ex; cases ex
          rw [upd_ne hx0]
          exact g3 _ _ (b2 x o hx (b1 x o hx ex))
        · rw [upd_ne npj, ej3] at e'
          have e2' := joF_inj e'
          rw [← e2']; exact njp0
  rintro σ' H2 ⟨rfl, es, e2, hE2, hJ2, b2, nq2⟩
  exact q p0 es H2 hp0 e2 hE2 hJ2 b2 nq2
theorem sc_Joiner_take : FnScope ["self", "piece", "number"] ["self", "piece"] (defScope s_Joiner_take) := ⟨rfl, rfl, rfl, by decide +kernel, rfl, by decide +kernel, by decide +kernel⟩
set_option maxHeartbeats 4000000 in
theorem ok_Joiner_take {a_Joiner_take : Addr} {d_Joiner_take : FuncData} {a_check_piece : Addr} {d_check_piece : FuncData} {a_Joiner_begin_thing : Addr} {d_Joiner_begin_thing : FuncData} {a_Joiner_goes_on : Addr} {d_Joiner_goes_on : FuncData} {a_Joiner_add_piece : Addr} {d_Joiner_add_piece : FuncData} {a_Joiner_break_off : Addr} {d_Joiner_break_off : FuncData} {a_Joiner : Addr} {a_NoThing : Addr} (F_Joiner_take : Fun K "take" "Joiner.take" s_Joiner_take a_Joiner_take d_Joiner_take) (fact_cls_Joiner : Cls K a_Joiner) (fact_meth_Joiner_begin_thing : Meth K a_Joiner "begin_thing" a_Joiner_begin_thing) (fact_meth_Joiner_goes_on : Meth K a_Joiner "goes_on" a_Joiner_goes_on) (fact_meth_Joiner_add_piece : Meth K a_Joiner "add_piece" a_Joiner_add_piece) (fact_meth_Joiner_break_off : Meth K a_Joiner "break_off" a_Joiner_break_off) (m_Joiner : mg "Joiner" = some (.ref a_Joiner)) (m_NoThing : mg "NoThing" = some (.ref a_NoThing)) (G_check_piece : FnOk P w K mg base (CXR P w) 2 a_check_piece d_check_piece ["piece"] (spChkP2 a_NoThing)) (b_check_piece : Binds K d_check_piece ["piece"] []) (k_check_piece : PySem.W.keepIn K (.ref a_check_piece) = true) (m_check_piece : mg "check_piece" = some (.ref a_check_piece)) (G_Joiner_begin_thing : FnOk P w K mg base CX0 2 a_Joiner_begin_thing d_Joiner_begin_thing ["self", "piece"] (spJoBeg a_Joiner)) (b_Joiner_begin_thing : Binds K d_Joiner_begin_thing ["self", "piece"] []) (G_Joiner_goes_on : FnOk P w K mg base CX0 1 a_Joiner_goes_on d_Joiner_goes_on ["self", "piece"] (spJoOn a_Joiner)) (b_Joiner_goes_on : Binds K d_Joiner_goes_on ["self", "piece"] []) (G_Joiner_add_piece : FnOk P w K mg base CX0 1 a_Joiner_add_piece d_Joiner_add_piece ["self", "piece"] (spJoAdd a_Joiner)) (b_Joiner_add_piece : Binds K d_Joiner_add_piece ["self", "piece"] []) (G_Joiner_break_off : FnOk P w K mg base CX0 2 a_Joiner_break_off d_Joiner_break_off ["self", "tag"] (spJoBrk a_Joiner)) (b_Joiner_break_off : Binds K d_Joiner_break_off ["self", "tag"] []) :
    FnOk P w K mg base (CXR P w) 4 a_Joiner_take d_Joiner_take ["self", "piece"] (spJoTake2 a_Joiner a_NoThing) := by
  refine F_Joiner_take.okR sc_Joiner_take (fun vs H Q E h => ?_) (fun cdv A outer s H vs Q E hr h => ?_)
  · obtain ⟨j, s, l, ps, rfl, _⟩ := h
    rfl
  obtain ⟨j, s, l, ps, rfl, hJ, hjs, hm, hS, el, q1, q2⟩ := h
  have nd := sc_Joiner_take.nd
  refine ⟨_, (pss_cons (ps_expr (pe_call G_check_piece (hr.mono (by decide)) rfl m_check_piece k_check_piece b_check_piece .nil (passR fun _ _ _ z => z) (pa_cons (dv 1) pa_nil))) (pss_cons (ps_set (i := 2) nd rfl (Or.inl rfl) (pe_op z_mod (pe_ix z_ixL (dv 1) pe_int (fun _ _ => rfl)) pe_int)) (pss_cons (ps_if (md_cmp z_eq (dv 2) pe_int (nomark _)) (pss_one (ps_ret (md_meth fact_cls_Joiner fact_meth_Joiner_begin_thing G_Joiner_begin_thing (hr.mono (by decide)) b_Joiner_begin_thing .nil pass0 (dv 0) (pa_cons (dv 1) pa_nil)))) pss_nil) (pss_cons (ps_if (md_val (md_meth fact_cls_Joiner fact_meth_Joiner_goes_on G_Joiner_goes_on (hr.mono (by decide)) b_Joiner_goes_on .nil pass0 (dv 0) (pa_cons (dv 1) pa_nil))) (pss_one (ps_ret (md_meth fact_cls_Joiner fact_meth_Joiner_add_piece G_Joiner_add_piece (hr.mono (by decide)) b_Joiner_add_piece .nil pass0 (dv 0) (pa_cons (dv 1) pa_nil)))) pss_nil) (pss_one (ps_ret (md_meth fact_cls_Joiner fact_meth_Joiner_break_off G_Joiner_break_off (hr.mono (by decide)) b_Joiner_break_off .nil pass0 (dv 0) (pa_cons (pe_ix z_ixL (dv 1) pe_int (fun _ _ => rfl)) pa_nil)))))))), ?_⟩
  refine ⟨l, ps, rfl, hS, el, fun ⟨t, m, n, hp⟩ => ?_, q2⟩
  have q := q1 t m n hp
  obtain ⟨a0, a1⟩ := pc_at hp
  obtain ⟨dx, tv, jl, ej, ejl, ht⟩ := id hJ
  refine ⟨_, _, SqL.of el, a1, (by show (0 : Int) < 16; decide), ?_⟩
  obtain ⟨h1, h2, h3, h4, h5, h6⟩ := id hp
  have hp7 : ps.length ≤ 7 := by
    by_cases c : n + 1 < m
    · rw [if_pos c] at h6; omega
    · rw [if_neg c] at h6; omega
  conv => whnf
  refine ite2 (fun c => ?_) (fun c => ?_)
  · have c1 : (16 * ((m : Nat) : Int) + ((n : Nat) : Int)) % 16 = 0 := dec_true c
    have eJ : takJ s t m n ps = begJ s t m ps := if_pos (by omega)
    have eE : takE s t m n ps = begE s t m ps := if_pos (by omega)
    rw [eJ, eE] at q
    exact ⟨⟨dx, _, ej, rfl⟩, j, s, l, ps, t, m, n, rfl, hJ, hp, el, q⟩
  have c1 : ¬ (16 * ((m : Nat) : Int) + ((n : Nat) : Int)) % 16 = 0 := dec_false c
  have n0 : ¬ n = 0 := by omega
  refine ⟨⟨dx, _, ej, rfl⟩, j, s, l, ps, rfl, hJ, hm, el, fun H1 g1 => ?_⟩
  have hJ1 := hJ.same g1
  have el1 := g1 _ _ el
  have ej1 := g1 _ _ ej
  cases hon : onB s ps
  · have eJ : takJ s t m n ps = brkJ s t := by unfold takJ; rw [if_neg n0, hon, if_neg Bool.false_ne_true]
    have eE : takE s t m n ps = brkE s t := by unfold takE; rw [if_neg n0, hon, if_neg Bool.false_ne_true]
    rw [eJ, eE] at q
    refine ⟨⟨dx, _, ej1, rfl⟩, _, _, SqL.of el1, a0, j, s, t, rfl, hJ1, fun p es H2 hp2 ep hE hJ2 b2 nq => q p es H2 (g1.none hp2) ep (hE.imp fun x z => g1.none z) hJ2 ((But1.of g1).trans b2) (fun q' dx' tv' e' => ⟨(nq q' dx' tv' e').1, (nq q' dx' tv' e').2.imp (fun z => g1.none z) fun ⟨d, v, z, w⟩ => ⟨dx, tv, s, by have e2' := joF_inj (ej1.symm.trans w); rw [← e2']; exact ej⟩⟩)⟩
  · have eJ : takJ s t m n ps = addJ s ps := by unfold takJ; rw [if_neg n0, hon, if_pos rfl]
    have eE : takE s t m n ps = addE s ps := by unfold takE; rw [if_neg n0, hon, if_pos rfl]
    rw [eJ, eE] at q
    have ho : s.o = true := ((Bool.and_eq_true _ _).mp hon).1
    exact ⟨⟨dx, _, ej1, rfl⟩, j, s, l, ps, rfl, hJ1, ho, hjs, by omega, h1, el1, fun p es H2 hp2 ep hE hJ2 b2 nq => q p es H2 (g1.none hp2) ep (hE.imp fun x z => g1.none z) hJ2 ((But1.of g1).trans b2) (fun q' dx' tv' e' => ⟨(nq q' dx' tv' e').1, (nq q' dx' tv' e').2.imp (fun z => g1.none z) fun ⟨d, v, z, w⟩ => ⟨dx, tv, s, by have e2' := joF_inj (ej1.symm.trans w); rw [← e2']; exact ej⟩⟩)⟩
theorem sc__law_mix : FnScope ["_law_cell", "_law_k", "_law_many", "_law_seed"] ["_law_cell", "_law_k", "_law_many"] (defScope s__law_mix) := ⟨rfl, rfl, rfl, by decide +kernel, rfl, by decide +kernel, by decide +kernel⟩
set_option maxHeartbeats 4000000 in
theorem ok__law_mix {a__law_mix : Addr} {d__law_mix : FuncData} (F__law_mix : Fun K "_law_mix" "_law_mix" s__law_mix a__law_mix d__law_mix)  :
    FnOk P w K mg base CX0 1 a__law_mix d__law_mix ["_law_cell", "_law_k", "_law_many"] (spMix) := by
  refine F__law_mix.ok sc__law_mix (fun vs H Q E h => ?_) (fun cdv A outer s H vs Q E hr h => ?_)
  · obtain ⟨c, k, m, rfl, _⟩ := h
    rfl
  obtain ⟨v, k, m, rfl, k0, k1, m0, q⟩ := h
  have nd := sc__law_mix.nd
  refine ⟨_, (pss_cons (ps_set (i := 3) nd rfl (Or.inl rfl) (pe_op z_add (pe_op z_add (pe_op z_mod (dv 0) pe_int) (pe_op z_mul (pe_op z_mul pe_int (dv 1)) (dv 1))) pe_int)) (pss_one (ps_ret (pe_op z_mod (pe_op z_mod (pe_op z_mul (pe_op z_mod (pe_op z_mul (dv 3) pe_int) pe_int) pe_int) pe_int) (dv 2))))), ?_⟩
  have k2 : 31 * k * k ≤ 31 * 100000 * 100000 := Int.mul_le_mul (by omega) k1 k0 (by decide)
  have k3 : 0 ≤ 31 * k * k := Int.mul_nonneg (by omega) k0
  refine ⟨(by show (0 : Int) < _; decide), ⟨big64 (by decide) (by decide), big64 (by omega) (by omega)⟩, ⟨big64 (by omega) (by omega), big64 (by omega) (by omega)⟩, ?_⟩
  have s0 : 0 ≤ v % 1000003 := Int.emod_nonneg _ (by decide)
  have s1 : v % 1000003 < 1000003 := Int.emod_lt_of_pos _ (by decide)
  refine ⟨⟨big64 (by omega) (by omega), big64 (by decide) (by decide)⟩, (by show (0 : Int) < _; decide), ?_⟩
  have t0 : 0 ≤ (v % 1000003 + 31 * k * k + 1) * 48271 % 999983 := Int.emod_nonneg _ (by decide)
  have t1 : (v % 1000003 + 31 * k * k + 1) * 48271 % 999983 < 999983 := Int.emod_lt_of_pos _ (by decide)
  refine ⟨⟨big64 (by omega) (by omega), big64 (by decide) (by decide)⟩, (by show (0 : Int) < _; decide), m0, ?_⟩
  exact q _ (Int.emod_nonneg _ (by omega)) (Int.emod_lt_of_pos _ m0)
theorem sc__law_is_piece : FnScope ["_law_data"] ["_law_data"] (defScope s__law_is_piece) := ⟨rfl, rfl, rfl, by decide +kernel, rfl, by decide +kernel, by decide +kernel⟩
set_option maxHeartbeats 4000000 in
theorem ok__law_is_piece {a__law_is_piece : Addr} {d__law_is_piece : FuncData} (F__law_is_piece : Fun K "_law_is_piece" "_law_is_piece" s__law_is_piece a__law_is_piece d__law_is_piece) (m_len : mg "len" = none) :
    FnOk P w K mg base CX0 1 a__law_is_piece d__law_is_piece ["_law_data"] (spIsPiece) := by
  refine F__law_is_piece.ok sc__law_is_piece (fun vs H Q E h => ?_) (fun cdv A outer s H vs Q E hr h => ?_)
  · obtain ⟨l, ps, rfl, _⟩ := h
    rfl
  obtain ⟨l, ps, rfl, ⟨hl, hs⟩, el, q1, q2⟩ := h
  have nd := sc__law_is_piece.nd
  refine ⟨_, (pss_cons (ps_if (PW.pt (pw_or (md_cmp z_lt (pe_callB z_len rfl m_len bt_len (pa_cons (dv 0) pa_nil)) pe_int (nomark _)) (pw_or1 (md_cmp z_ge (pe_op z_mod (pe_ix z_ixL (dv 0) pe_int (fun _ _ => rfl)) pe_int) (pe_op z_fdiv (pe_ix z_ixL (dv 0) pe_int (fun _ _ => rfl)) pe_int) (nomark _))))) (pss_one (ps_ret pe_bl)) pss_nil) (pss_cons (ps_if (md_cmp z_lt (pe_op z_mod (pe_ix z_ixL (dv 0) pe_int (fun _ _ => rfl)) pe_int) (pe_op z_sub (pe_op z_fdiv (pe_ix z_ixL (dv 0) pe_int (fun _ _ => rfl)) pe_int) pe_int) (nomark _)) (pss_one (ps_ret (pe_cmpR z_eq (pe_callB z_len rfl m_len bt_len (pa_cons (dv 0) pa_nil)) pe_int (nomark _)))) pss_nil) (pss_one (ps_ret (md_and (pe_cmpR z_lt (pe_callB z_len rfl m_len bt_len (pa_cons (dv 0) pa_nil)) pe_int (nomark _)) (pe_one (md_or (pe_cmpR z_gt (pe_callB z_len rfl m_len bt_len (pa_cons (dv 0) pa_nil)) pe_int (nomark _)) (pe_one (pe_cmpR z_eq (pe_op z_fdiv (pe_ix z_ixL (dv 0) pe_int (fun _ _ => rfl)) pe_int) pe_int (nomark _)))))))))), ?_⟩
  refine ⟨_, .inl (SqL.of el), ?_⟩
  rw [List.length_map]
  conv => whnf
  refine ite2 (fun c => ?_) (fun c => ?_)
  · have c1 : ((ps.length : Nat) : Int) < 2 := dec_true c
    exact q2 fun ⟨t, m, n, h⟩ => by have := h.1; omega
  have c1 : ¬ ((ps.length : Nat) : Int) < 2 := dec_false c
  rcases hs with hs | ⟨t, m, n, r, rfl, hn, hm⟩
  · omega
  have iff := pcOk_of (t := t) (r := r) hn hm
  have a1 : atI ((t :: (16 * ((m : Nat) : Int) + ((n : Nat) : Int)) :: r).map V.int) 1 = some (.int (16 * ((m : Nat) : Int) + ((n : Nat) : Int))) := atI_nat (j := 1) rfl
  have elen : (t :: (16 * ((m : Nat) : Int) + ((n : Nat) : Int)) :: r).length = r.length + 2 := by rw [List.length_cons, List.length_cons]
  have decq : ∀ (b : Bool), (b = true ↔ IsPc (t :: (16 * ((m : Nat) : Int) + ((n : Nat) : Int)) :: r)) → Q (.bl b) H := fun b hb => by
    cases b
    · exact q2 fun z => by have := hb.mpr z; cases this
    · exact q1 (hb.mp rfl)
  refine ⟨_, _, SqL.of el, a1, (by show (0 : Int) < 16; decide), _, _, SqL.of el, a1, ⟨by decide, by decide⟩, ?_⟩
  conv => whnf
  refine ite2 (fun c => ?_) (fun c => ?_)
  · have c2 : (16 * ((m : Nat) : Int) + ((n : Nat) : Int)) / 16 ≤ (16 * ((m : Nat) : Int) + ((n : Nat) : Int)) % 16 := dec_true c
    exact q2 fun z => by have := (iff.mp z).1; omega
  have c2 : ¬ (16 * ((m : Nat) : Int) + ((n : Nat) : Int)) / 16 ≤ (16 * ((m : Nat) : Int) + ((n : Nat) : Int)) % 16 := dec_false c
  refine ⟨_, _, SqL.of el, a1, (by show (0 : Int) < 16; decide), _, _, SqL.of el, a1, ⟨by decide, by decide⟩, ?_⟩
  conv => whnf
  refine ite2 (fun c => ?_) (fun c => ?_)
  · have c3 : (16 * ((m : Nat) : Int) + ((n : Nat) : Int)) % 16 < (16 * ((m : Nat) : Int) + ((n : Nat) : Int)) / 16 - 1 := dec_true c
    refine ⟨_, .inl (SqL.of el), ?_⟩
    rw [List.length_map, elen]
    refine decq _ ?_
    rw [decide_eq_true_iff, iff, if_pos (by omega)]
    omega
  have c3 : ¬ (16 * ((m : Nat) : Int) + ((n : Nat) : Int)) % 16 < (16 * ((m : Nat) : Int) + ((n : Nat) : Int)) / 16 - 1 := dec_false c
  rw [if_neg (by omega)] at iff
  refine ⟨_, .inl (SqL.of el), ?_⟩
  rw [List.length_map, elen]
  conv => whnf
  refine ite2 (fun c => ?_) (fun c => ?_)
  · have c4 : ((r.length + 2 : Nat) : Int) < 8 := dec_true c
    refine ⟨_, .inl (SqL.of el), ?_⟩
    rw [List.length_map, elen]
    conv => whnf
    refine ite2 (fun d => ?_) (fun d => ?_)
    · have d1 : (2 : Int) < ((r.length + 2 : Nat) : Int) := dec_true d
      exact q1 (iff.mpr ⟨by omega, by omega, by omega⟩)
    · have d1 : ¬ (2 : Int) < ((r.length + 2 : Nat) : Int) := dec_false d
      refine ⟨_, _, SqL.of el, a1, ⟨by decide, by decide⟩, decq _ ?_⟩
      rw [decide_eq_true_iff, iff]
      omega
  · have c4 : ¬ ((r.length + 2 : Nat) : Int) < 8 := dec_false c
    exact q2 fun z => by have := (iff.mp z).2; omega
theorem sc__law_told : FnScope ["_law_joiner", "_law_data", "_law_told_here"] ["_law_joiner", "_law_data"] (defScope s__law_told) := ⟨rfl, rfl, rfl, by decide +kernel, rfl, by decide +kernel, by decide +kernel⟩
set_option maxHeartbeats 4000000 in
theorem ok__law_told {a__law_told : Addr} {d__law_told : FuncData} {a_Joiner_take : Addr} {d_Joiner_take : FuncData} {a_NoThing : Addr} {a_Joiner : Addr} (F__law_told : Fun K "_law_told" "_law_told" s__law_told a__law_told d__law_told) (fact_cls_Joiner : Cls K a_Joiner) (fact_meth_Joiner_take : Meth K a_Joiner "take" a_Joiner_take) (m_NoThing : mg "NoThing" = some (.ref a_NoThing)) (m_Joiner : mg "Joiner" = some (.ref a_Joiner)) (fact_self : PySem.W.exmOne K (.ref a_NoThing) (.ref a_NoThing) = some true) (G_Joiner_take : FnOk P w K mg base (CXR P w) 4 a_Joiner_take d_Joiner_take ["self", "piece"] (spJoTake2 a_Joiner a_NoThing)) (b_Joiner_take : Binds K d_Joiner_take ["self", "piece"] []) :
    FnOk P w K mg base CX0 5 a__law_told d__law_told ["_law_joiner", "_law_data"] (spToldJ a_Joiner) := by
  refine F__law_told.ok sc__law_told (fun vs H Q E h => ?_) (fun cdv A outer s H vs Q E hr h => ?_)
  · obtain ⟨j, s, l, ps, rfl, _⟩ := h
    rfl
  obtain ⟨j, s, l, ps, rfl, hJ, hjs, hm, hS, el, q1, q2⟩ := h
  have nd := sc__law_told.nd
  refine ⟨_, (pss_cons (ps_set (i := 2) nd rfl (Or.inl rfl) pe_non) (pss_cons (ps_tryH (fun pins0 σ0 EX => (pss_one (ps_set (i := 2) nd rfl (Or.inl rfl) (md_methT fact_cls_Joiner fact_meth_Joiner_take G_Joiner_take (hr.mono (by decide)) b_Joiner_take .nil (dv 0) (pa_cons (dv 1) pa_nil))))) (ph_no rfl m_NoThing (fun ev => (pss_one (ps_set (i := 2) nd rfl (Or.inl rfl) pe_non))) ph_nil) rfl rfl) (pss_one (ps_ret (dv 2))))), ?_⟩
  obtain ⟨dx, tv, jl, ej, _⟩ := id hJ
  refine ⟨⟨dx, _, ej, rfl⟩, rfl, j, s, l, ps, rfl, hJ, hjs, hm, hS, el, fun t m n hp => q1 t m n hp, fun no => .inl ⟨fact_self, fun x hx => ?_⟩⟩
  exact q2 no _ (same_new hx _)
theorem sc__law_is_asked_well : FnScope ["_law_joiner", "_law_state", "_law_found"] ["_law_joiner", "_law_state"] (defScope s__law_is_asked_well) := ⟨rfl, rfl, rfl, by decide +kernel, rfl, by decide +kernel, by decide +kernel⟩
set_option maxHeartbeats 4000000 in
theorem ok__law_is_asked_well {a__law_is_asked_well : Addr} {d__law_is_asked_well : FuncData} {a_Joiner_is_open : Addr} {d_Joiner_is_open : FuncData} {a_Joiner : Addr} (F__law_is_asked_well : Fun K "_law_is_asked_well" "_law_is_asked_well" s__law_is_asked_well a__law_is_asked_well d__law_is_asked_well) (fact_cls_Joiner : Cls K a_Joiner) (fact_meth_Joiner_is_open : Meth K a_Joiner "is_open" a_Joiner_is_open) (m_isinstance : mg "isinstance" = none) (m_bool : mg "bool" = none) (m_Joiner : mg "Joiner" = some (.ref a_Joiner)) (G_Joiner_is_open : FnOk P w K mg base CX0 1 a_Joiner_is_open d_Joiner_is_open ["self"] (spJoOpen a_Joiner)) (b_Joiner_is_open : Binds K d_Joiner_is_open ["self"] []) :
    FnOk P w K mg base CX0 2 a__law_is_asked_well d__law_is_asked_well ["_law_joiner", "_law_state"] (spAsked a_Joiner) := by
  refine F__law_is_asked_well.ok sc__law_is_asked_well (fun vs H Q E h => ?_) (fun cdv A outer s H vs Q E hr h => ?_)
  · obtain ⟨j, s, sa, tv, gv, rfl, _⟩ := h
    rfl
  obtain ⟨j, s, sa, tv, gv, rfl, hJ, es, hi, q⟩ := h
  have nd := sc__law_is_asked_well.nd
  refine ⟨_, (pss_cons (ps_set (i := 2) nd rfl (Or.inl rfl) (md_meth0 fact_cls_Joiner fact_meth_Joiner_is_open G_Joiner_is_open (hr.mono (by decide)) b_Joiner_is_open .nil pass0 (dv 0))) (pss_one (ps_ret (md_and (pe_callB z_isi_bool rfl m_isinstance bt_isinstance (pa_cons (dv 2) (pa_cons (pe_bltn (v := .ty "bool") rfl m_bool bt_bool rfl) pa_nil))) (pe_one (pe_cmpR z_eq (dv 2) (pe_cmpR z_notN (pe_ix z_ixT (dv 1) pe_int (fun _ _ => rfl)) pe_non (nomark _)) (nomark _))))))), ?_⟩
  obtain ⟨dx, tvj, jl, ej, _⟩ := id hJ
  refine ⟨⟨dx, _, ej, rfl⟩, j, s, rfl, hJ, rfl, _, _, SqT.of es, rfl, ?_⟩
  have : decide (s.o = !decide (tv = .non)) = true := by
    rw [decide_eq_true_iff]
    cases ho : s.o with
    | true => rw [decide_eq_false (hi.mp ho)]; rfl
    | false =>
      have : tv = .non := Decidable.byContradiction fun z => by rw [hi.mpr z] at ho; cases ho
      rw [decide_eq_true this]; rfl
  rw [← this] at q
  exact q
theorem sc__law_taken : FnScope ["_law_state", "_law_data", "_law_thing", "_law_gone", "_law_number", "_law_due"] ["_law_state", "_law_data"] (defScope s__law_taken) := ⟨rfl, rfl, rfl, by decide +kernel, rfl, by decide +kernel, by decide +kernel⟩
set_option maxHeartbeats 4000000 in
theorem ok__law_taken {a__law_taken : Addr} {d__law_taken : FuncData} (F__law_taken : Fun K "_law_taken" "_law_taken" s__law_taken a__law_taken d__law_taken)  :
    FnOk P w K mg base CX0 1 a__law_taken d__law_taken ["_law_state", "_law_data"] (spTaken) := by
  refine F__law_taken.ok sc__law_taken (fun vs H Q E h => ?_) (fun cdv A outer s H vs Q E hr h => ?_)
  · obtain ⟨sa, l, tv, s, ps, t, m, n, rfl, _⟩ := h
    rfl
  obtain ⟨sa, l, tv, s, ps, t, m, n, rfl, es0, hT, hinv, hjs, hp, el, q⟩ := h
  have nd := sc__law_taken.nd
  refine ⟨_, (pss_cons (ps_set (i := 2) nd rfl (Or.inl rfl) (pe_ix z_ixT (dv 0) pe_int (fun _ _ => rfl))) (pss_cons (ps_set (i := 3) nd rfl (Or.inl rfl) (pe_ix z_ixT (dv 0) pe_int (fun _ _ => rfl))) (pss_cons (ps_set (i := 4) nd rfl (Or.inl rfl) (pe_op z_mod (pe_ix z_ixL (dv 1) pe_int (fun _ _ => rfl)) pe_int)) (pss_cons (ps_set (i := 5) nd rfl (Or.inl rfl) (pe_lst pa_nil)) (pss_cons (ps_cut (ps_if (PW.pt (pw_and (md_cmp z_gt (dv 4) pe_int (nomark _)) (pw_and (md_cmp z_notN (dv 2) pe_non (nomark _)) (pw_and1 (md_cmp (z_eqD hr.units) (pe_slice sl_tup (dv 2) po_none (md_part pe_int)) (pe_tup (pa_cons (pe_ix z_ixL (dv 1) pe_int (fun _ _ => rfl)) (pa_cons (pe_op z_fdiv (pe_ix z_ixL (dv 1) pe_int (fun _ _ => rfl)) pe_int) (pa_cons (dv 4) pa_nil)))) (nomark _)))))) (pss_one (ps_set (i := 2) nd rfl (Or.inl rfl) (pe_tup (pa_cons (pe_ix z_ixL (dv 1) pe_int (fun _ _ => rfl)) (pa_cons (pe_op z_fdiv (pe_ix z_ixL (dv 1) pe_int (fun _ _ => rfl)) pe_int) (pa_cons (pe_op z_add (dv 4) pe_int) (pa_cons (pe_op z_cat (pe_ix z_ixT (dv 2) pe_int (fun _ _ => rfl)) (pe_slice z_slL (dv 1) (md_part pe_int) po_none)) pa_nil))))))) (pss_cons (ps_cut (ps_if (md_cmp z_notN (dv 2) pe_non (nomark _)) (pss_cons (ps_expr (md_append (dv 5) (pa_cons (pe_tup (pa_cons pe_str (pa_cons (pe_ix z_ixT (dv 2) pe_int (fun _ _ => rfl)) pa_nil))) pa_nil))) (pss_one (ps_set (i := 3) nd rfl (Or.inl rfl) (pe_ix z_ixT (dv 2) pe_int (fun _ _ => rfl))))) pss_nil)) (pss_cons (ps_set (i := 2) nd rfl (Or.inl rfl) pe_non) (pss_one (ps_if (md_cmp z_eq (dv 4) pe_int (nomark _)) (pss_cons (ps_set (i := 3) nd rfl (Or.inl rfl) pe_non) (pss_one (ps_set (i := 2) nd rfl (Or.inl rfl) (pe_tup (pa_cons (pe_ix z_ixL (dv 1) pe_int (fun _ _ => rfl)) (pa_cons (pe_op z_fdiv (pe_ix z_ixL (dv 1) pe_int (fun _ _ => rfl)) pe_int) (pa_cons pe_int (pa_cons (pe_slice z_slL (dv 1) (md_part pe_int) po_none) pa_nil)))))))) (pss_one (ps_if (md_cmp z_ne (dv 3) (pe_ix z_ixL (dv 1) pe_int (fun _ _ => rfl)) (nomark _)) (pss_cons (ps_expr (md_append (dv 5) (pa_cons (pe_tup (pa_cons pe_str (pa_cons (pe_ix z_ixL (dv 1) pe_int (fun _ _ => rfl)) pa_nil))) pa_nil))) (pss_one (ps_set (i := 3) nd rfl (Or.inl rfl) (pe_ix z_ixL (dv 1) pe_int (fun _ _ => rfl))))) pss_nil)))))))) (pss_cons (ps_cut (ps_if (PW.pt (pw_and (md_cmp z_notN (dv 2) pe_non (nomark _)) (pw_and1 (md_cmp z_eq (pe_ix z_ixT (dv 2) pe_int (fun _ _ => rfl)) (pe_ix z_ixT (dv 2) pe_int (fun _ _ => rfl)) (nomark _))))) (pss_cons (ps_expr (md_append (dv 5) (pa_cons (pe_tup (pa_cons pe_str (pa_cons (pe_ix z_ixT (dv 2) pe_int (fun _ _ => rfl)) (pa_cons (pe_ix z_ixT (dv 2) pe_int (fun _ _ => rfl)) pa_nil)))) pa_nil))) (pss_one (ps_set (i := 2) nd rfl (Or.inl rfl) pe_non))) pss_nil)) (pss_one (ps_ret (pe_tup (pa_cons (dv 5) (pa_cons (dv 2) (pa_cons (dv 3) pa_nil)))))))))))), ?_⟩
  obtain ⟨a0, a1⟩ := pc_at hp
  obtain ⟨h1, h2, h3, h4, h5, h6⟩ := id hp
  refine ⟨_, _, SqT.of es0, rfl, _, _, SqT.of es0, rfl, _, _, SqL.of el, a1, (by show (0 : Int) < 16; decide), small_lit rfl, fun du hdu => ?_⟩
  have en : (16 * ((m : Nat) : Int) + ((n : Nat) : Int)) % 16 = ((n : Nat) : Int) := by omega
  have em : (16 * ((m : Nat) : Int) + ((n : Nat) : Int)) / 16 = ((m : Nat) : Int) := by omega
  have g1 := same_new hdu (.lst [])
  have e1 : upd H du (.lst []) du = some (.lst (([] : List Addr).map V.ref)) := upd_same
  generalize upd H du (.lst []) = H1 at g1 e1
  refine ⟨fun σ' H2 => ∃ (tv2 gv2 : V) (es : List Addr) (E2 : List Ev), σ' = [some (.ref sa), some (.ref l), some tv2, some gv2, some (.int ((16 * ((m : Nat) : Int) + ((n : Nat) : Int)) % 16)), some (.ref du)] ∧ Same H H2 ∧ H2 du = some (.lst (es.map V.ref)) ∧ EvQ (fun l => H l = none) H2 es E2 ∧ E2.length ≤ 2 ∧ (∀ v ∈ E2, ∃ u, v = Ev.broken u) ∧ gv2 = vO (takJ s t m n ps).bt ∧ Mid H du H2 tv2 t m (takJ s t m n ps) (takE s t m n ps) E2, ?_, ?_⟩
  · conv => whnf
    refine ite2 (fun c => ?_) (fun c => iteF ?_)
    · have c1 : (0 : Int) < (16 * ((m : Nat) : Int) + ((n : Nat) : Int)) % 16 := dec_true c
      rcases Bool.eq_false_or_eq_true s.o with hso | hso
      · obtain ⟨ta, la, etv, _, eta, ela⟩ := hT.1 hso
        obtain ⟨ih, im⟩ := hinv hso
        have eta1 := g1 _ _ eta
        rw [etv]
        refine ⟨ta, _, rfl, SqT.of eta1, (by show ¬ (0 = 0 ∧ 3 = 4); decide), fun p3 hp3 => ?_⟩
        have g3 := same_new hp3 (.tup (cutV [V.int s.tg, .int ((s.m : Nat) : Int), .int ((s.h : Nat) : Int), .ref la] none (some (3 : Int))))
        have e3 : upd H1 p3 (.tup (cutV [V.int s.tg, .int ((s.m : Nat) : Int), .int ((s.h : Nat) : Int), .ref la] none (some (3 : Int)))) p3 = some (.tup [.int s.tg, .int ((s.m : Nat) : Int), .int ((s.h : Nat) : Int)]) := by rw [upd_same]; rfl
        generalize upd H1 p3 (.tup (cutV [V.int s.tg, .int ((s.m : Nat) : Int), .int ((s.h : Nat) : Int), .ref la] none (some (3 : Int)))) = H3 at g3 e3
        refine ⟨_, _, SqL.of ((g1.trans g3) _ _ el), a0, _, _, SqL.of ((g1.trans g3) _ _ el), a1, ⟨by decide, by decide⟩, small_lit rfl, fun p4 hp4 => ?_⟩
        have g4 := same_new hp4 (.tup [.int t, .int ((16 * ((m : Nat) : Int) + ((n : Nat) : Int)) / 16), .int ((16 * ((m : Nat) : Int) + ((n : Nat) : Int)) % 16)])
        have e4 : upd H3 p4 (.tup [.int t, .int ((16 * ((m : Nat) : Int) + ((n : Nat) : Int)) / 16), .int ((16 * ((m : Nat) : Int) + ((n : Nat) : Int)) % 16)]) p4 = some (.tup [.int t, .int ((m : Nat) : Int), .int ((n : Nat) : Int)]) := by rw [upd_same, em, en]
        generalize upd H3 p4 (.tup [.int t, .int ((16 * ((m : Nat) : Int) + ((n : Nat) : Int)) / 16), .int ((16 * ((m : Nat) : Int) + ((n : Nat) : Int)) % 16)]) = H4 at g4 e4
        have g34 := g3.trans g4
        refine ⟨.tuple [.int s.tg, .int ((s.m : Nat) : Int), .int ((s.h : Nat) : Int)], .tuple [.int t, .int ((m : Nat) : Int), .int ((n : Nat) : Int)], .tup (SqT.of (g4 _ _ e3)) (.cons (.int _) (.cons (.int _) (.cons (.int _) .nil))), .tup (SqT.of e4) (.cons (.int _) (.cons (.int _) (.cons (.int _) .nil))), rfl, rfl, ?_⟩
        rw [eqv3]
        conv => whnf
        refine ite2 (fun d => ?_) (fun d => ?_)
        · skip
          have d1 := of_decide_eq_true (show decide (s.tg = t ∧ ((s.m : Nat) : Int) = ((m : Nat) : Int) ∧ ((s.h : Nat) : Int) = ((n : Nat) : Int)) = true from d)
          obtain ⟨dt, dm, dn⟩ := d1
          have dm' : s.m = m := by omega
          have dn' : s.h = n := by omega
          have hon : onB s ps = true := by rw [onB_iff hso h2 h4 (by omega)]; exact decide_eq_true ⟨dt, dm, dn⟩
          have n0 : ¬ n = 0 := by omega
          have eJ : takJ s t m n ps = addJ s ps := by unfold takJ; rw [if_neg n0, hon, if_pos rfl]
          have eE : takE s t m n ps = addE s ps := by unfold takE; rw [if_neg n0, hon, if_pos rfl]
          have gH4 := g1.trans g34
          refine ⟨_, _, SqL.of (gH4 _ _ el), a0, _, _, SqL.of (gH4 _ _ el), a1, ⟨by decide, by decide⟩, _, _, SqT.of (gH4 _ _ eta), rfl, _, SqL.of (gH4 _ _ el), fun pl hpl => ?_⟩
          have ec : cutV (ps.map V.int) (some (2 : Int)) none = (ps.drop 2).map V.int := cut_from (a := 2) h1
          rw [ec]
          have g6 := same_new hpl (.lst ((ps.drop 2).map V.int))
          have e6 := upd_same (H := H4) (a := pl) (o := .lst ((ps.drop 2).map V.int))
          generalize upd H4 pl (.lst ((ps.drop 2).map V.int)) = H6 at g6 e6
          have hp7 : ps.length ≤ 7 := by
            by_cases z : n + 1 < m
            · rw [if_pos z] at h6; omega
            · rw [if_neg z] at h6; omega
          refine ⟨_, _, (gH4.trans g6) _ _ ela, e6, (by rw [List.length_map, List.length_map, List.length_drop]; exact Nat.le_of_lt (Nat.lt_of_le_of_lt (show s.js.length + (ps.length - 2) ≤ 100000 by omega) (by decide))), fun pn hpn => ?_⟩
          have g7 := same_new hpn (.lst (s.js.map V.int ++ (ps.drop 2).map V.int))
          have e7 : upd H6 pn (.lst (s.js.map V.int ++ (ps.drop 2).map V.int)) pn = some (.lst ((s.js ++ ps.drop 2).map V.int)) := by rw [upd_same, List.map_append]
          generalize upd H6 pn (.lst (s.js.map V.int ++ (ps.drop 2).map V.int)) = H7 at g7 e7
          have npn : pn ≠ du := fun z => by rw [z, (g34.trans g6) _ _ e1] at hpn; cases hpn
          refine ⟨small_lit rfl, fun pt hpt => ?_⟩
          have g8 := same_new hpt (.tup [.int t, .int ((16 * ((m : Nat) : Int) + ((n : Nat) : Int)) / 16), .int ((16 * ((m : Nat) : Int) + ((n : Nat) : Int)) % 16 + 1), .ref pn])
          have e8 : upd H7 pt (.tup [.int t, .int ((16 * ((m : Nat) : Int) + ((n : Nat) : Int)) / 16), .int ((16 * ((m : Nat) : Int) + ((n : Nat) : Int)) % 16 + 1), .ref pn]) pt = some (.tup [.int t, .int ((m : Nat) : Int), .int ((s.h + 1 : Nat) : Int), .ref pn]) := by
            rw [upd_same, em, en, ← dn]
            rfl
          generalize upd H7 pt (.tup [.int t, .int ((16 * ((m : Nat) : Int) + ((n : Nat) : Int)) / 16), .int ((16 * ((m : Nat) : Int) + ((n : Nat) : Int)) % 16 + 1), .ref pn]) = H8 at g8 e8
          have g48 := g6.trans (g7.trans g8)
          refine ⟨.ref pt, vO s.bt, [], [], rfl, gH4.trans g48, (g34.trans g48) _ _ e1, .nil, Nat.zero_le _, (fun _ z => absurd z List.not_mem_nil), by rw [eJ]; rfl, ?_⟩
          rw [eJ, eE]
          refine .inr ⟨pt, pn, rfl, ⟨npn, (gH4.trans g6).none hpn⟩, e8, g8 _ _ e7, dt, dm', ?_, ?_, ?_⟩
          · show (if s.h + 1 < s.m then [] else [Ev.whole s.tg (s.js ++ ps.drop 2)]) = [] ++ (if s.h + 1 < m then [] else [Ev.whole t (s.js ++ ps.drop 2)])
            rw [List.nil_append, dm', dt]
          · show (if s.h + 1 < s.m then s.o else false) = decide (s.h + 1 < m)
            rw [dm', hso]
            by_cases z : s.h + 1 < m
            · rw [if_pos z, decide_eq_true z]
            · rw [if_neg z, decide_eq_false z]
          · show s.h + 1 ≤ m
            omega
        · have hoff : ¬ n = 0 → onB s ps = false := fun _ => by rw [onB_iff hso h2 h4 (by omega)]; exact decide_eq_false fun z => d (decide_eq_true z)
          have gH4 := g1.trans g34
          have eH4 := g34 _ _ e1
          rw [← etv]
          refine ⟨fun σ' H5 => ∃ (es : List Addr), σ' = [some (.ref sa), some (.ref l), some tv, some (vO (endJ s).bt), some (.int ((16 * ((m : Nat) : Int) + ((n : Nat) : Int)) % 16)), some (.ref du)] ∧ Same H H5 ∧ H5 du = some (.lst (es.map V.ref)) ∧ EvQ (fun l => H l = none) H5 es (endE s), ?_, ?_⟩
          · cases hso : s.o with
            | false =>
              have etv := hT.2 hso
              subst etv
              rw [endJ_nil' hso, endE_nil' hso]
              exact ⟨[], rfl, gH4, eH4, .nil⟩
            | true =>
              obtain ⟨ta, la, rfl, _, eta, ela⟩ := hT.1 hso
              have een : (endJ s).bt = some s.tg := by rw [show endJ s = { s with o := false, bt := some s.tg } from if_pos hso]
              have eee : endE s = [.broken s.tg] := if_pos hso
              rw [een, eee]
              refine ⟨⟨_, SqL.of eH4⟩, _, _, SqT.of (gH4 _ _ eta), rfl, small_lit rfl, fun pt hpt => ?_⟩
              have gx := same_new hpt (.tup [.str "broken", .int s.tg])
              have ex := upd_same (H := H4) (a := pt) (o := .tup [.str "broken", .int s.tg])
              generalize upd H4 pt (.tup [.str "broken", .int s.tg]) = Hx at gx ex
              have edx := gx _ _ eH4
              have npd : pt ≠ du := fun z => by rw [z, eH4] at hpt; cases hpt
              refine ⟨_, edx, small1 (by show 0 ≤ 1000; decide), ?_⟩
              have gy : Same H (upd Hx du (.lst (([] : List Addr).map V.ref ++ [.ref pt]))) := (gH4.trans gx).put hdu
              have etay := gy _ _ eta
              exact ⟨_, _, SqT.of etay, rfl, [pt], rfl, gy, upd_same, .cons ((upd_ne npd).trans ex) .nil⟩
          rintro σ5 H5 ⟨es5, rfl, g5, e5, hE5⟩
          have ld := hE5.len
          have ld1 := endE_len s
          conv => whnf
          refine ite2 (fun d => ?_) (fun d => ?_)
          · have d1 : (16 * ((m : Nat) : Int) + ((n : Nat) : Int)) % 16 = 0 := dec_true d
            have n0 : n = 0 := by omega
            have eJ : takJ s t m n ps = addJ (opn (endJ s) t m) ps := if_pos n0
            have eE : takE s t m n ps = endE s ++ addE (opn (endJ s) t m) ps := if_pos n0
            refine ⟨_, _, SqL.of (g5 _ _ el), a0, _, _, SqL.of (g5 _ _ el), a1, ⟨by decide, by decide⟩, _, SqL.of (g5 _ _ el), fun pl hpl => ?_⟩
            have ec : cutV (ps.map V.int) (some (2 : Int)) none = (ps.drop 2).map V.int := cut_from (a := 2) h1
            rw [ec]
            have g6 := same_new hpl (.lst ((ps.drop 2).map V.int))
            have e6 := upd_same (H := H5) (a := pl) (o := .lst ((ps.drop 2).map V.int))
            generalize upd H5 pl (.lst ((ps.drop 2).map V.int)) = H6 at g6 e6
            have npl : pl ≠ du := fun z => by rw [z, e5] at hpl; cases hpl
            refine ⟨small_lit rfl, fun pt hpt => ?_⟩
            have g7 := same_new hpt (.tup [.int t, .int ((16 * ((m : Nat) : Int) + ((n : Nat) : Int)) / 16), .int 1, .ref pl])
            have e7 : upd H6 pt (.tup [.int t, .int ((16 * ((m : Nat) : Int) + ((n : Nat) : Int)) / 16), .int 1, .ref pl]) pt = some (.tup [.int t, .int ((m : Nat) : Int), .int 1, .ref pl]) := by rw [upd_same, em]
            generalize upd H6 pt (.tup [.int t, .int ((16 * ((m : Nat) : Int) + ((n : Nat) : Int)) / 16), .int 1, .ref pl]) = H7 at g7 e7
            refine ⟨.ref pt, .non, es5, endE s, rfl, g5.trans (g6.trans g7), (g6.trans g7) _ _ e5, hE5.same (g6.trans g7), by omega, endE_brk s, by rw [eJ]; rfl, ?_⟩
            rw [eJ, eE]
            refine .inr ⟨pt, pl, rfl, ⟨npl, g5.none hpl⟩, e7, ?_, rfl, rfl, rfl, ?_, ?_⟩
            · show H7 pl = some (.lst (([] ++ ps.drop 2).map V.int))
              rw [List.nil_append]
              exact g7 _ _ e6
            · show (if 0 + 1 < m then true else false) = decide (0 + 1 < m)
              by_cases z : 0 + 1 < m
              · rw [if_pos z, decide_eq_true z]
              · rw [if_neg z, decide_eq_false z]
            · show 0 + 1 ≤ m
              omega
          · have d1 : ¬ (16 * ((m : Nat) : Int) + ((n : Nat) : Int)) % 16 = 0 := dec_false d
            have n0 : ¬ n = 0 := by omega
            have ho := hoff n0
            have eJ : takJ s t m n ps = brkJ s t := by unfold takJ; rw [if_neg n0, ho, if_neg Bool.false_ne_true]
            have eE : takE s t m n ps = brkE s t := by unfold takE; rw [if_neg n0, ho, if_neg Bool.false_ne_true]
            refine ⟨_, _, SqL.of (g5 _ _ el), a0, ?_⟩
            by_cases cb : (endJ s).bt = some t
            · have ev : vO (endJ s).bt = .int t := by rw [cb]; rfl
              have eJ2 : brkJ s t = endJ s := if_pos cb
              have eE2 : brkE s t = endE s := by unfold brkE; rw [if_pos cb, List.append_nil]
              rw [ev]
              conv => whnf
              refine iteNS rfl ⟨.non, .int t, es5, endE s, rfl, g5, e5, hE5, by omega, endE_brk s, by rw [eJ, eJ2, ev], .inl ⟨rfl, ?_, ?_⟩⟩
              · rw [eJ, eJ2]; exact endJ_o s
              · rw [eE, eE2]
            · have eJ2 : brkJ s t = { endJ s with bt := some t } := if_neg cb
              have eE2 : brkE s t = endE s ++ [.broken t] := by unfold brkE; rw [if_neg cb]
              have hcase : (endJ s).bt = none ∨ ∃ u, (endJ s).bt = some u ∧ ¬ u = t := by
                cases e : (endJ s).bt with
                | none => exact .inl rfl
                | some u => exact .inr ⟨u, rfl, fun z => cb (by rw [e, z])⟩
              have fin : ∀ (pt : Addr) (Hx : Hp), Same H5 Hx → Hx pt = some (.tup [.str "broken", .int t]) → pt ≠ du → ∀ Hy, Hy = upd Hx du (.lst (es5.map V.ref ++ [.ref pt])) → ∃ (tv2 gv2 : V) (es : List Addr) (E2 : List Ev), ([some (V.ref sa), some (.ref l), some .non, some (.int t), some (.int ((16 * ((m : Nat) : Int) + ((n : Nat) : Int)) % 16)), some (.ref du)] : List (Option V)) = [some (.ref sa), some (.ref l), some tv2, some gv2, some (.int ((16 * ((m : Nat) : Int) + ((n : Nat) : Int)) % 16)), some (.ref du)] ∧ Same H Hy ∧ Hy du = some (.lst (es.map V.ref)) ∧ EvQ (fun l => H l = none) Hy es E2 ∧ E2.length ≤ 2 ∧ (∀ v ∈ E2, ∃ u, v = Ev.broken u) ∧ gv2 = vO (takJ s t m n ps).bt ∧ Mid H du Hy tv2 t m (takJ s t m n ps) (takE s t m n ps) E2 := fun pt Hx gx ept npt Hy eHy => by
                subst eHy
                have edx := gx _ _ e5
                have hb : ∀ v ∈ endE s ++ [Ev.broken t], ∃ u, v = Ev.broken u := fun v hv => (List.mem_append.mp hv).elim (endE_brk s v) fun z => ⟨t, List.mem_singleton.mp z⟩
                have hEx : EvQ (fun l => H l = none) Hx (es5 ++ [pt]) (endE s ++ [.broken t]) := (hE5.same gx).append (.cons ept .nil)
                refine ⟨.non, .int t, es5 ++ [pt], endE s ++ [.broken t], rfl, (g5.trans gx).put hdu, by rw [upd_same, List.map_append]; rfl, hEx.monoB hb fun x xs ex => by rw [upd_ne (fun z => by rw [z, edx] at ex; cases ex)]; exact ex, by rw [List.length_append, List.length_singleton]; omega, hb, by rw [eJ, eJ2]; rfl, .inl ⟨rfl, by rw [eJ, eJ2]; exact endJ_o s, by rw [eE, eE2]⟩⟩
              rcases hcase with hn' | ⟨u, hu, hne⟩
              · have ev : vO (endJ s).bt = .non := by rw [hn']; rfl
                rw [ev]
                refine ⟨⟨_, SqL.of e5⟩, _, _, SqL.of (g5 _ _ el), a0, small_lit rfl, fun pt hpt => ?_⟩
                have gx := same_new hpt (.tup [.str "broken", .int t])
                refine ⟨_, gx _ _ e5, small1 (by rw [List.length_map]; omega), _, _, SqL.of (((g5.trans gx).put hdu) _ _ el), a0, ?_⟩
                exact fin pt _ gx upd_same (fun z => by rw [z, e5] at hpt; cases hpt) _ rfl
              · have ev : vO (endJ s).bt = .int u := by rw [hu]; rfl
                rw [ev]
                conv => whnf
                refine ite2 (fun _ => ?_) (fun z => absurd (show (!decide (u = t)) = true by rw [decide_eq_false hne]; rfl) z)
                refine ⟨⟨_, SqL.of e5⟩, _, _, SqL.of (g5 _ _ el), a0, small_lit rfl, fun pt hpt => ?_⟩
                have gx := same_new hpt (.tup [.str "broken", .int t])
                refine ⟨_, gx _ _ e5, small1 (by rw [List.length_map]; omega), _, _, SqL.of (((g5.trans gx).put hdu) _ _ el), a0, ?_⟩
                exact fin pt _ gx upd_same (fun z => by rw [z, e5] at hpt; cases hpt) _ rfl
      · have etv := hT.2 hso
        have hoff : ¬ n = 0 → onB s ps = false := fun _ => by unfold onB; rw [hso]; rfl
        rw [etv]
        refine ⟨fun σ' H5 => ∃ (es : List Addr), σ' = [some (.ref sa), some (.ref l), some .non, some (vO (endJ s).bt), some (.int ((16 * ((m : Nat) : Int) + ((n : Nat) : Int)) % 16)), some (.ref du)] ∧ Same H H5 ∧ H5 du = some (.lst (es.map V.ref)) ∧ EvQ (fun l => H l = none) H5 es (endE s), ?_, ?_⟩
        · rw [endJ_nil' hso, endE_nil' hso]
          exact ⟨[], rfl, g1, e1, .nil⟩
        rintro σ5 H5 ⟨es5, rfl, g5, e5, hE5⟩
        have ld := hE5.len
        have ld1 := endE_len s
        conv => whnf
        refine ite2 (fun d => ?_) (fun d => ?_)
        · have d1 : (16 * ((m : Nat) : Int) + ((n : Nat) : Int)) % 16 = 0 := dec_true d
          have n0 : n = 0 := by omega
          have eJ : takJ s t m n ps = addJ (opn (endJ s) t m) ps := if_pos n0
          have eE : takE s t m n ps = endE s ++ addE (opn (endJ s) t m) ps := if_pos n0
          refine ⟨_, _, SqL.of (g5 _ _ el), a0, _, _, SqL.of (g5 _ _ el), a1, ⟨by decide, by decide⟩, _, SqL.of (g5 _ _ el), fun pl hpl => ?_⟩
          have ec : cutV (ps.map V.int) (some (2 : Int)) none = (ps.drop 2).map V.int := cut_from (a := 2) h1
          rw [ec]
          have g6 := same_new hpl (.lst ((ps.drop 2).map V.int))
          have e6 := upd_same (H := H5) (a := pl) (o := .lst ((ps.drop 2).map V.int))
          generalize upd H5 pl (.lst ((ps.drop 2).map V.int)) = H6 at g6 e6
          have npl : pl ≠ du := fun z => by rw [z, e5] at hpl; cases hpl
          refine ⟨small_lit rfl, fun pt hpt => ?_⟩
          have g7 := same_new hpt (.tup [.int t, .int ((16 * ((m : Nat) : Int) + ((n : Nat) : Int)) / 16), .int 1, .ref pl])
          have e7 : upd H6 pt (.tup [.int t, .int ((16 * ((m : Nat) : Int) + ((n : Nat) : Int)) / 16), .int 1, .ref pl]) pt = some (.tup [.int t, .int ((m : Nat) : Int), .int 1, .ref pl]) := by rw [upd_same, em]
          generalize upd H6 pt (.tup [.int t, .int ((16 * ((m : Nat) : Int) + ((n : Nat) : Int)) / 16), .int 1, .ref pl]) = H7 at g7 e7
          refine ⟨.ref pt, .non, es5, endE s, rfl, g5.trans (g6.trans g7), (g6.trans g7) _ _ e5, hE5.same (g6.trans g7), by omega, endE_brk s, by rw [eJ]; rfl, ?_⟩
          rw [eJ, eE]
          refine .inr ⟨pt, pl, rfl, ⟨npl, g5.none hpl⟩, e7, ?_, rfl, rfl, rfl, ?_, ?_⟩
          · show H7 pl = some (.lst (([] ++ ps.drop 2).map V.int))
            rw [List.nil_append]
            exact g7 _ _ e6
          · show (if 0 + 1 < m then true else false) = decide (0 + 1 < m)
            by_cases z : 0 + 1 < m
            · rw [if_pos z, decide_eq_true z]
            · rw [if_neg z, decide_eq_false z]
          · show 0 + 1 ≤ m
            omega
        · have d1 : ¬ (16 * ((m : Nat) : Int) + ((n : Nat) : Int)) % 16 = 0 := dec_false d
          have n0 : ¬ n = 0 := by omega
          have ho := hoff n0
          have eJ : takJ s t m n ps = brkJ s t := by unfold takJ; rw [if_neg n0, ho, if_neg Bool.false_ne_true]
          have eE : takE s t m n ps = brkE s t := by unfold takE; rw [if_neg n0, ho, if_neg Bool.false_ne_true]
          refine ⟨_, _, SqL.of (g5 _ _ el), a0, ?_⟩
          by_cases cb : (endJ s).bt = some t
          · have ev : vO (endJ s).bt = .int t := by rw [cb]; rfl
            have eJ2 : brkJ s t = endJ s := if_pos cb
            have eE2 : brkE s t = endE s := by unfold brkE; rw [if_pos cb, List.append_nil]
            rw [ev]
            conv => whnf
            refine iteNS rfl ⟨.non, .int t, es5, endE s, rfl, g5, e5, hE5, by omega, endE_brk s, by rw [eJ, eJ2, ev], .inl ⟨rfl, ?_, ?_⟩⟩
            · rw [eJ, eJ2]; exact endJ_o s
            · rw [eE, eE2]
          · have eJ2 : brkJ s t = { endJ s with bt := some t } := if_neg cb
            have eE2 : brkE s t = endE s ++ [.broken t] := by unfold brkE; rw [if_neg cb]
            have hcase : (endJ s).bt = none ∨ ∃ u, (endJ s).bt = some u ∧ ¬ u = t := by
              cases e : (endJ s).bt with
              | none => exact .inl rfl
              | some u => exact .inr ⟨u, rfl, fun z => cb (by rw [e, z])⟩
            have fin : ∀ (pt : Addr) (Hx : Hp), Same H5 Hx → Hx pt = some (.tup [.str "broken", .int t]) → pt ≠ du → ∀ Hy, Hy = upd Hx du (.lst (es5.map V.ref ++ [.ref pt])) → ∃ (tv2 gv2 : V) (es : List Addr) (E2 : List Ev), ([some (V.ref sa), some (.ref l), some .non, some (.int t), some (.int ((16 * ((m : Nat) : Int) + ((n : Nat) : Int)) % 16)), some (.ref du)] : List (Option V)) = [some (.ref sa), some (.ref l), some tv2, some gv2, some (.int ((16 * ((m : Nat) : Int) + ((n : Nat) : Int)) % 16)), some (.ref du)] ∧ Same H Hy ∧ Hy du = some (.lst (es.map V.ref)) ∧ EvQ (fun l => H l = none) Hy es E2 ∧ E2.length ≤ 2 ∧ (∀ v ∈ E2, ∃ u, v = Ev.broken u) ∧ gv2 = vO (takJ s t m n ps).bt ∧ Mid H du Hy tv2 t m (takJ s t m n ps) (takE s t m n ps) E2 := fun pt Hx gx ept npt Hy eHy => by
              subst eHy
              have edx := gx _ _ e5
              have hb : ∀ v ∈ endE s ++ [Ev.broken t], ∃ u, v = Ev.broken u := fun v hv => (List.mem_append.mp hv).elim (endE_brk s v) fun z => ⟨t, List.mem_singleton.mp z⟩
              have hEx : EvQ (fun l => H l = none) Hx (es5 ++ [pt]) (endE s ++ [.broken t]) := (hE5.same gx).append (.cons ept .nil)
              refine ⟨.non, .int t, es5 ++ [pt], endE s ++ [.broken t], rfl, (g5.trans gx).put hdu, by rw [upd_same, List.map_append]; rfl, hEx.monoB hb fun x xs ex => by rw [upd_ne (fun z => by rw [z, edx] at ex; cases ex)]; exact ex, by rw [List.length_append, List.length_singleton]; omega, hb, by rw [eJ, eJ2]; rfl, .inl ⟨rfl, by rw [eJ, eJ2]; exact endJ_o s, by rw [eE, eE2]⟩⟩
            rcases hcase with hn' | ⟨u, hu, hne⟩
            · have ev : vO (endJ s).bt = .non := by rw [hn']; rfl
              rw [ev]
              refine ⟨⟨_, SqL.of e5⟩, _, _, SqL.of (g5 _ _ el), a0, small_lit rfl, fun pt hpt => ?_⟩
              have gx := same_new hpt (.tup [.str "broken", .int t])
              refine ⟨_, gx _ _ e5, small1 (by rw [List.length_map]; omega), _, _, SqL.of (((g5.trans gx).put hdu) _ _ el), a0, ?_⟩
              exact fin pt _ gx upd_same (fun z => by rw [z, e5] at hpt; cases hpt) _ rfl
            · have ev : vO (endJ s).bt = .int u := by rw [hu]; rfl
              rw [ev]
              conv => whnf
              refine ite2 (fun _ => ?_) (fun z => absurd (show (!decide (u = t)) = true by rw [decide_eq_false hne]; rfl) z)
              refine ⟨⟨_, SqL.of e5⟩, _, _, SqL.of (g5 _ _ el), a0, small_lit rfl, fun pt hpt => ?_⟩
              have gx := same_new hpt (.tup [.str "broken", .int t])
              refine ⟨_, gx _ _ e5, small1 (by rw [List.length_map]; omega), _, _, SqL.of (((g5.trans gx).put hdu) _ _ el), a0, ?_⟩
              exact fin pt _ gx upd_same (fun z => by rw [z, e5] at hpt; cases hpt) _ rfl
    · have c1 : ¬ (0 : Int) < (16 * ((m : Nat) : Int) + ((n : Nat) : Int)) % 16 := dec_false c
      have hoff : ¬ n = 0 → onB s ps = false := fun z => absurd (show n = 0 by omega) z
      refine ⟨fun σ' H5 => ∃ (es : List Addr), σ' = [some (.ref sa), some (.ref l), some tv, some (vO (endJ s).bt), some (.int ((16 * ((m : Nat) : Int) + ((n : Nat) : Int)) % 16)), some (.ref du)] ∧ Same H H5 ∧ H5 du = some (.lst (es.map V.ref)) ∧ EvQ (fun l => H l = none) H5 es (endE s), ?_, ?_⟩
      · cases hso : s.o with
        | false =>
          have etv := hT.2 hso
          subst etv
          rw [endJ_nil' hso, endE_nil' hso]
          exact ⟨[], rfl, g1, e1, .nil⟩
        | true =>
          obtain ⟨ta, la, rfl, _, eta, ela⟩ := hT.1 hso
          have een : (endJ s).bt = some s.tg := by rw [show endJ s = { s with o := false, bt := some s.tg } from if_pos hso]
          have eee : endE s = [.broken s.tg] := if_pos hso
          rw [een, eee]
          refine ⟨⟨_, SqL.of e1⟩, _, _, SqT.of (g1 _ _ eta), rfl, small_lit rfl, fun pt hpt => ?_⟩
          have gx := same_new hpt (.tup [.str "broken", .int s.tg])
          have ex := upd_same (H := H1) (a := pt) (o := .tup [.str "broken", .int s.tg])
          generalize upd H1 pt (.tup [.str "broken", .int s.tg]) = Hx at gx ex
          have edx := gx _ _ e1
          have npd : pt ≠ du := fun z => by rw [z, e1] at hpt; cases hpt
          refine ⟨_, edx, small1 (by show 0 ≤ 1000; decide), ?_⟩
          have gy : Same H (upd Hx du (.lst (([] : List Addr).map V.ref ++ [.ref pt]))) := (g1.trans gx).put hdu
          have etay := gy _ _ eta
          exact ⟨_, _, SqT.of etay, rfl, [pt], rfl, gy, upd_same, .cons ((upd_ne npd).trans ex) .nil⟩
      rintro σ5 H5 ⟨es5, rfl, g5, e5, hE5⟩
      have ld := hE5.len
      have ld1 := endE_len s
      conv => whnf
      refine ite2 (fun d => ?_) (fun d => ?_)
      · have d1 : (16 * ((m : Nat) : Int) + ((n : Nat) : Int)) % 16 = 0 := dec_true d
        have n0 : n = 0 := by omega
        have eJ : takJ s t m n ps = addJ (opn (endJ s) t m) ps := if_pos n0
        have eE : takE s t m n ps = endE s ++ addE (opn (endJ s) t m) ps := if_pos n0
        refine ⟨_, _, SqL.of (g5 _ _ el), a0, _, _, SqL.of (g5 _ _ el), a1, ⟨by decide, by decide⟩, _, SqL.of (g5 _ _ el), fun pl hpl => ?_⟩
        have ec : cutV (ps.map V.int) (some (2 : Int)) none = (ps.drop 2).map V.int := cut_from (a := 2) h1
        rw [ec]
        have g6 := same_new hpl (.lst ((ps.drop 2).map V.int))
        have e6 := upd_same (H := H5) (a := pl) (o := .lst ((ps.drop 2).map V.int))
        generalize upd H5 pl (.lst ((ps.drop 2).map V.int)) = H6 at g6 e6
        have npl : pl ≠ du := fun z => by rw [z, e5] at hpl; cases hpl
        refine ⟨small_lit rfl, fun pt hpt => ?_⟩
        have g7 := same_new hpt (.tup [.int t, .int ((16 * ((m : Nat) : Int) + ((n : Nat) : Int)) / 16), .int 1, .ref pl])
        have e7 : upd H6 pt (.tup [.int t, .int ((16 * ((m : Nat) : Int) + ((n : Nat) : Int)) / 16), .int 1, .ref pl]) pt = some (.tup [.int t, .int ((m : Nat) : Int), .int 1, .ref pl]) := by rw [upd_same, em]
        generalize upd H6 pt (.tup [.int t, .int ((16 * ((m : Nat) : Int) + ((n : Nat) : Int)) / 16), .int 1, .ref pl]) = H7 at g7 e7
        refine ⟨.ref pt, .non, es5, endE s, rfl, g5.trans (g6.trans g7), (g6.trans g7) _ _ e5, hE5.same (g6.trans g7), by omega, endE_brk s, by rw [eJ]; rfl, ?_⟩
        rw [eJ, eE]
        refine .inr ⟨pt, pl, rfl, ⟨npl, g5.none hpl⟩, e7, ?_, rfl, rfl, rfl, ?_, ?_⟩
        · show H7 pl = some (.lst (([] ++ ps.drop 2).map V.int))
          rw [List.nil_append]
          exact g7 _ _ e6
        · show (if 0 + 1 < m then true else false) = decide (0 + 1 < m)
          by_cases z : 0 + 1 < m
          · rw [if_pos z, decide_eq_true z]
          · rw [if_neg z, decide_eq_false z]
        · show 0 + 1 ≤ m
          omega
      · have d1 : ¬ (16 * ((m : Nat) : Int) + ((n : Nat) : Int)) % 16 = 0 := dec_false d
        have n0 : ¬ n = 0 := by omega
        have ho := hoff n0
        have eJ : takJ s t m n ps = brkJ s t := by unfold takJ; rw [if_neg n0, ho, if_neg Bool.false_ne_true]
        have eE : takE s t m n ps = brkE s t := by unfold takE; rw [if_neg n0, ho, if_neg Bool.false_ne_true]
        refine ⟨_, _, SqL.of (g5 _ _ el), a0, ?_⟩
        by_cases cb : (endJ s).bt = some t
        · have ev : vO (endJ s).bt = .int t := by rw [cb]; rfl
          have eJ2 : brkJ s t = endJ s := if_pos cb
          have eE2 : brkE s t = endE s := by unfold brkE; rw [if_pos cb, List.append_nil]
          rw [ev]
          conv => whnf
          refine iteNS rfl ⟨.non, .int t, es5, endE s, rfl, g5, e5, hE5, by omega, endE_brk s, by rw [eJ, eJ2, ev], .inl ⟨rfl, ?_, ?_⟩⟩
          · rw [eJ, eJ2]; exact endJ_o s
          · rw [eE, eE2]
        · have eJ2 : brkJ s t = { endJ s with bt := some t } := if_neg cb
          have eE2 : brkE s t = endE s ++ [.broken t] := by unfold brkE; rw [if_neg cb]
          have hcase : (endJ s).bt = none ∨ ∃ u, (endJ s).bt = some u ∧ ¬ u = t := by
            cases e : (endJ s).bt with
            | none => exact .inl rfl
            | some u => exact .inr ⟨u, rfl, fun z => cb (by rw [e, z])⟩
          have fin : ∀ (pt : Addr) (Hx : Hp), Same H5 Hx → Hx pt = some (.tup [.str "broken", .int t]) → pt ≠ du → ∀ Hy, Hy = upd Hx du (.lst (es5.map V.ref ++ [.ref pt])) → ∃ (tv2 gv2 : V) (es : List Addr) (E2 : List Ev), ([some (V.ref sa), some (.ref l), some .non, some (.int t), some (.int ((16 * ((m : Nat) : Int) + ((n : Nat) : Int)) % 16)), some (.ref du)] : List (Option V)) = [some (.ref sa), some (.ref l), some tv2, some gv2, some (.int ((16 * ((m : Nat) : Int) + ((n : Nat) : Int)) % 16)), some (.ref du)] ∧ Same H Hy ∧ Hy du = some (.lst (es.map V.ref)) ∧ EvQ (fun l => H l = none) Hy es E2 ∧ E2.length ≤ 2 ∧ (∀ v ∈ E2, ∃ u, v = Ev.broken u) ∧ gv2 = vO (takJ s t m n ps).bt ∧ Mid H du Hy tv2 t m (takJ s t m n ps) (takE s t m n ps) E2 := fun pt Hx gx ept npt Hy eHy => by
            subst eHy
            have edx := gx _ _ e5
            have hb : ∀ v ∈ endE s ++ [Ev.broken t], ∃ u, v = Ev.broken u := fun v hv => (List.mem_append.mp hv).elim (endE_brk s v) fun z => ⟨t, List.mem_singleton.mp z⟩
            have hEx : EvQ (fun l => H l = none) Hx (es5 ++ [pt]) (endE s ++ [.broken t]) := (hE5.same gx).append (.cons ept .nil)
            refine ⟨.non, .int t, es5 ++ [pt], endE s ++ [.broken t], rfl, (g5.trans gx).put hdu, by rw [upd_same, List.map_append]; rfl, hEx.monoB hb fun x xs ex => by rw [upd_ne (fun z => by rw [z, edx] at ex; cases ex)]; exact ex, by rw [List.length_append, List.length_singleton]; omega, hb, by rw [eJ, eJ2]; rfl, .inl ⟨rfl, by rw [eJ, eJ2]; exact endJ_o s, by rw [eE, eE2]⟩⟩
          rcases hcase with hn' | ⟨u, hu, hne⟩
          · have ev : vO (endJ s).bt = .non := by rw [hn']; rfl
            rw [ev]
            refine ⟨⟨_, SqL.of e5⟩, _, _, SqL.of (g5 _ _ el), a0, small_lit rfl, fun pt hpt => ?_⟩
            have gx := same_new hpt (.tup [.str "broken", .int t])
            refine ⟨_, gx _ _ e5, small1 (by rw [List.length_map]; omega), _, _, SqL.of (((g5.trans gx).put hdu) _ _ el), a0, ?_⟩
            exact fin pt _ gx upd_same (fun z => by rw [z, e5] at hpt; cases hpt) _ rfl
          · have ev : vO (endJ s).bt = .int u := by rw [hu]; rfl
            rw [ev]
            conv => whnf
            refine ite2 (fun _ => ?_) (fun z => absurd (show (!decide (u = t)) = true by rw [decide_eq_false hne]; rfl) z)
            refine ⟨⟨_, SqL.of e5⟩, _, _, SqL.of (g5 _ _ el), a0, small_lit rfl, fun pt hpt => ?_⟩
            have gx := same_new hpt (.tup [.str "broken", .int t])
            refine ⟨_, gx _ _ e5, small1 (by rw [List.length_map]; omega), _, _, SqL.of (((g5.trans gx).put hdu) _ _ el), a0, ?_⟩
            exact fin pt _ gx upd_same (fun z => by rw [z, e5] at hpt; cases hpt) _ rfl
  rintro σ' H2 ⟨tv2, gv2, es, E2, rfl, g2, e2, hE2, hE2l, hb2, rfl, hM⟩
  have hl2 := hE2.len
  refine ⟨fun σ' H3 => ∃ (tv3 : V) (es : List Addr), σ' = [some (.ref sa), some (.ref l), some tv3, some (vO (takJ s t m n ps).bt), some (.int ((16 * ((m : Nat) : Int) + ((n : Nat) : Int)) % 16)), some (.ref du)] ∧ Same H H3 ∧ H3 du = some (.lst (es.map V.ref)) ∧ EvQ (fun l => H l = none) H3 es (takE s t m n ps) ∧ ThAt (fun l => H l = none) H3 (takJ s t m n ps) tv3, ?_, ?_⟩
  · rcases hM with ⟨rfl, ho, eE⟩ | ⟨ta, la, rfl, ⟨nla, fla⟩, eta, ela, eg, emm, eE, eo, hle⟩
    · exact ⟨.non, es, rfl, g2, e2, by rw [eE]; exact hE2, ⟨(fun z => by rw [ho] at z; cases z), fun _ => rfl⟩⟩
    · refine ⟨_, _, SqT.of eta, rfl, _, _, SqT.of eta, rfl, ?_⟩
      conv => whnf
      refine ite2 (fun d => ?_) (fun d => ?_)
      · have d1 : (((takJ s t m n ps).h : Nat) : Int) = ((m : Nat) : Int) := dec_true d
        rw [if_neg (by omega)] at eE
        refine ⟨⟨_, SqL.of e2⟩, _, _, SqT.of eta, rfl, _, _, SqT.of eta, rfl, small_lit rfl, fun pt hpt => ?_⟩
        have g3 := same_new hpt (.tup [.str "whole", .int t, .ref la])
        have e3 := upd_same (H := H2) (a := pt) (o := .tup [.str "whole", .int t, .ref la])
        generalize upd H2 pt (.tup [.str "whole", .int t, .ref la]) = H3 at g3 e3
        have ed3 := g3 _ _ e2
        have npt : pt ≠ du := fun z => by rw [z, e2] at hpt; cases hpt
        have hlE : es.length ≤ 500 := by omega
        refine ⟨_, ed3, small1 (by rw [List.length_map]; omega), .non, es ++ [pt], rfl, (g2.trans g3).put hdu, by rw [upd_same, List.map_append]; rfl, ?_, ⟨(fun z => by rw [eo, decide_eq_false (by omega)] at z; cases z), fun _ => rfl⟩⟩
        rw [eE]
        refine ((hE2.same g3).monoB hb2 fun x xs ex => by rw [upd_ne (fun z => by rw [z, ed3] at ex; cases ex)]; exact ex).append (.cons ⟨la, fla, ?_, ?_⟩ .nil)
        · rw [upd_ne npt]; exact e3
        · rw [upd_ne nla]; exact g3 _ _ ela
      · have d1 : ¬ (((takJ s t m n ps).h : Nat) : Int) = ((m : Nat) : Int) := dec_false d
        rw [if_pos (by omega), List.append_nil] at eE
        refine ⟨.ref ta, es, rfl, g2, e2, by rw [eE]; exact hE2, ⟨fun _ => ⟨ta, la, rfl, fla, ?_, ela⟩, (fun z => by rw [eo, decide_eq_true (by omega)] at z; cases z)⟩⟩
        rw [eg, emm]
        exact eta
  rintro σ' H3 ⟨tv3, es3, rfl, g3, e3, hE3, hT3⟩
  refine ⟨small_lit rfl, fun p hp => ?_⟩
  have g4 := same_new hp (.tup [.ref du, tv3, vO (takJ s t m n ps).bt])
  exact q p du es3 tv3 _ (g3.trans g4) hdu upd_same (g4 _ _ e3) (hE3.same g4) (hT3.same g4)
theorem sc__law_piece : FnScope ["_law_cell", "_law_last", "_law_few", "_law_tags", "_law_tag", "_law_pieces", "_law_number", "_law_way", "_law_size", "_law_spoil", "_law_data"] ["_law_cell", "_law_last", "_law_few", "_law_tags"] (defScope s__law_piece) := ⟨rfl, rfl, rfl, by decide +kernel, rfl, by decide +kernel, by decide +kernel⟩
set_option maxHeartbeats 4000000 in
theorem ok__law_piece {a__law_piece : Addr} {d__law_piece : FuncData} {a__law_mix : Addr} {d__law_mix : FuncData} (F__law_piece : Fun K "_law_piece" "_law_piece" s__law_piece a__law_piece d__law_piece) (m_max : mg "max" = none) (m_range : mg "range" = none) (G__law_mix : FnOk P w K mg base CX0 1 a__law_mix d__law_mix ["_law_cell", "_law_k", "_law_many"] (spMix)) (b__law_mix : Binds K d__law_mix ["_law_cell", "_law_k", "_law_many"] []) (k__law_mix : PySem.W.keepIn K (.ref a__law_mix) = true) (m__law_mix : mg "_law_mix" = some (.ref a__law_mix)) :
    FnOk P w K mg base CX0 2 a__law_piece d__law_piece ["_law_cell", "_law_last", "_law_few", "_law_tags"] (spPieceJ) := by
  refine F__law_piece.ok sc__law_piece (fun vs H Q E h => ?_) (fun cdv A outer s H vs Q E hr h => ?_)
  · obtain ⟨c, la, tg, few, lt, lm, ln, ts, rfl, _⟩ := h
    rfl
  obtain ⟨c, la, tg, few, lt, lm, ln, ts, rfl, ela, hlm, hln, etg, hts, q⟩ := h
  have nd := sc__law_piece.nd
  refine ⟨_, (pss_cons (ps_set (i := 4) nd rfl (Or.inl rfl) (pe_ix z_ixL (dv 3) (pe_call G__law_mix (hr.mono (by decide)) rfl m__law_mix k__law_mix b__law_mix .nil pass0 (pa_cons (dv 0) (pa_cons pe_int (pa_cons pe_int pa_nil)))) (fun _ _ => rfl))) (pss_cons (ps_set (i := 5) nd rfl (Or.inl rfl) (pe_cut (pe_ifExp (md_val (dv 2)) (pe_op z_add pe_int (pe_call G__law_mix (hr.mono (by decide)) rfl m__law_mix k__law_mix b__law_mix .nil pass0 (pa_cons (dv 0) (pa_cons pe_int (pa_cons pe_int pa_nil))))) (pe_call G__law_mix (hr.mono (by decide)) rfl m__law_mix k__law_mix b__law_mix .nil pass0 (pa_cons (dv 0) (pa_cons pe_int (pa_cons pe_int pa_nil))))))) (pss_cons (ps_set (i := 6) nd rfl (Or.inl rfl) (pe_op z_mod (pe_call G__law_mix (hr.mono (by decide)) rfl m__law_mix k__law_mix b__law_mix .nil pass0 (pa_cons (dv 0) (pa_cons pe_int (pa_cons pe_int pa_nil)))) (pe_callB (z_max2 rfl) rfl m_max bt_max (pa_cons pe_int (pa_cons (pe_op z_add (dv 5) (pe_call G__law_mix (hr.mono (by decide)) rfl m__law_mix k__law_mix b__law_mix .nil pass0 (pa_cons (dv 0) (pa_cons pe_int (pa_cons pe_int pa_nil))))) pa_nil))))) (pss_cons (ps_set (i := 7) nd rfl (Or.inl rfl) (pe_call G__law_mix (hr.mono (by decide)) rfl m__law_mix k__law_mix b__law_mix .nil pass0 (pa_cons (dv 0) (pa_cons pe_int (pa_cons pe_int pa_nil))))) (pss_cons (ps_cut (ps_if (md_cmp z_gt (dv 7) pe_int (nomark _)) (pss_cons (ps_set (i := 4) nd rfl (Or.inl rfl) (pe_ix z_ixT (dv 1) pe_int (fun _ _ => rfl))) (pss_cons (ps_set (i := 5) nd rfl (Or.inl rfl) (pe_ix z_ixT (dv 1) pe_int (fun _ _ => rfl))) (pss_one (ps_set (i := 6) nd rfl (Or.inl rfl) (pe_ix z_ixT (dv 1) pe_int (fun _ _ => rfl)))))) pss_nil)) (pss_cons (ps_cut (ps_if (PW.pt (pw_or (md_cmp z_eq (dv 7) pe_int (nomark _)) (pw_or1 (PW.pt (pw_and (md_cmp z_gt (dv 7) pe_int (nomark _)) (pw_and1 (md_cmp z_ge (dv 6) (dv 5) (nomark _)))))))) (pss_one (ps_set (i := 6) nd rfl (Or.inl rfl) pe_int)) pss_nil)) (pss_cons (ps_set (i := 8) nd rfl (Or.inl rfl) pe_int) (pss_cons (ps_cut (ps_if (md_cmp z_eq (dv 6) (pe_op z_sub (dv 5) pe_int) (nomark _)) (pss_one (ps_set (i := 8) nd rfl (Or.inl rfl) (pe_cut (pe_ifExp (md_cmp z_eq (dv 5) pe_int (nomark _)) (pe_call G__law_mix (hr.mono (by decide)) rfl m__law_mix k__law_mix b__law_mix .nil pass0 (pa_cons (dv 0) (pa_cons pe_int (pa_cons pe_int pa_nil)))) (pe_op z_add pe_int (pe_call G__law_mix (hr.mono (by decide)) rfl m__law_mix k__law_mix b__law_mix .nil pass0 (pa_cons (dv 0) (pa_cons pe_int (pa_cons pe_int pa_nil))))))))) pss_nil)) (pss_cons (ps_set (i := 9) nd rfl (Or.inl rfl) (pe_call G__law_mix (hr.mono (by decide)) rfl m__law_mix k__law_mix b__law_mix .nil pass0 (pa_cons (dv 0) (pa_cons pe_int (pa_cons pe_int pa_nil))))) (pss_cons (ps_cut (ps_if (md_cmp z_eq (dv 9) pe_int (nomark _)) (pss_one (ps_set (i := 8) nd rfl (Or.inl rfl) pe_int)) pss_nil)) (pss_cons (ps_cut (ps_if (md_cmp z_eq (dv 9) pe_int (nomark _)) (pss_one (ps_set (i := 8) nd rfl (Or.inl rfl) (pe_call G__law_mix (hr.mono (by decide)) rfl m__law_mix k__law_mix b__law_mix .nil pass0 (pa_cons (dv 0) (pa_cons pe_int (pa_cons pe_int pa_nil)))))) pss_nil)) (pss_cons (ps_set (i := 10) nd rfl (Or.inl rfl) (pe_op z_cat (pe_lst (pa_cons (dv 4) (pa_cons (pe_op z_add (pe_op z_mul pe_int (dv 5)) (pe_op z_mod (dv 6) pe_int)) pa_nil))) (pe_comp rfl (ix := [0]) (mi_range1 rfl m_range (pa_cons (dv 8) pa_nil)) (fun C fp s0 H0 at0 => pts_nil) (fun C fp s0 H0 at0 => (pe_call G__law_mix (hr.mono (by decide)) rfl m__law_mix k__law_mix b__law_mix .nil pass0 (pa_cons (dv 1) (pa_cons (pe_op z_add pe_int (dv 0)) (pa_cons pe_int pa_nil))))) rfl rfl (by rfl) (show ([".0", "_law_k", "_law_cell"] : List Str).Nodup by decide +kernel)))) (pss_one (ps_ret (pe_cut (pe_ifExp (md_cmp z_eq (dv 9) pe_int (nomark _)) (pe_slice z_slL (dv 10) po_none (md_part (pe_call G__law_mix (hr.mono (by decide)) rfl m__law_mix k__law_mix b__law_mix .nil pass0 (pa_cons (dv 0) (pa_cons pe_int (pa_cons pe_int pa_nil)))))) (dv 10))))))))))))))))), ?_⟩
  refine ⟨c, 1, 3, rfl, by decide, by decide, by decide, fun d1 d10 d11 => ?_⟩
  obtain ⟨d1, rfl⟩ := Int.eq_ofNat_of_zero_le d10
  refine ⟨_, _, SqL.of etg, at_ints (show d1 < ts.length by omega), ?_⟩
  refine ⟨fun x H' => (∃ pm : Nat, pm < 16 ∧ x = .int ((pm : Nat) : Int)) ∧ H' = H, ?_, ?_⟩
  · cases few
    · refine ⟨c, 2, 16, rfl, by decide, by decide, by decide, fun d d0 d' => ?_⟩
      obtain ⟨d, rfl⟩ := Int.eq_ofNat_of_zero_le d0
      exact ⟨⟨d, by omega, rfl⟩, rfl⟩
    · refine ⟨c, 2, 3, rfl, by decide, by decide, by decide, fun d d0 d' => ?_⟩
      obtain ⟨d, rfl⟩ := Int.eq_ofNat_of_zero_le d0
      exact ⟨⟨1 + d, by omega, by show V.int ((1 : Int) + ((d : Nat) : Int)) = _; rw [show (1 : Int) + ((d : Nat) : Int) = ((1 + d : Nat) : Int) by omega]⟩, rfl⟩
  rintro x H' ⟨⟨pm, hpm, rfl⟩, rfl⟩
  refine ⟨c, 3, 16, rfl, by decide, by decide, by decide, fun d3 d30 d31 => ?_⟩
  refine ⟨c, 4, 2, rfl, by decide, by decide, by decide, fun d4 d40 d41 => ?_⟩
  refine ⟨(by show (0 : Int) < max 1 (((pm : Nat) : Int) + d4); omega), ?_⟩
  have nn0 : 0 ≤ d3 % max 1 (((pm : Nat) : Int) + d4) := Int.emod_nonneg _ (by omega)
  have nn1 : d3 % max 1 (((pm : Nat) : Int) + d4) ≤ d3 := by
    by_cases z : d3 < max 1 (((pm : Nat) : Int) + d4)
    · rw [Int.emod_eq_of_lt d30 z]; exact Int.le_refl _
    · have := Int.emod_lt_of_pos d3 (show 0 < max 1 (((pm : Nat) : Int) + d4) by omega)
      omega
  obtain ⟨nn, enn⟩ := Int.eq_ofNat_of_zero_le nn0
  refine ⟨c, 5, 8, rfl, by decide, by decide, by decide, fun wy wy0 wy1 => ?_⟩
  refine ⟨fun σ' H2 => (∃ (tt : Int) (pm nn : Nat), pm < 16 ∧ nn ≤ 16 ∧ σ' = [some (.int c), some (.ref la), some (.bl few), some (.ref tg), some (.int tt), some (.int ((pm : Nat) : Int)), some (.int ((nn : Nat) : Int)), some (.int wy), none, none, none]) ∧ H2 = H', ?_, ?_⟩
  · conv => whnf
    refine ite2 (fun _ => ?_) (fun _ => ⟨⟨ts[d1]'(show d1 < ts.length by omega), pm, nn, hpm, by omega, ?_⟩, rfl⟩)
    · exact ⟨_, _, SqT.of ela, rfl, _, _, SqT.of ela, rfl, _, _, SqT.of ela, rfl, ⟨lt, lm, ln, hlm, hln, rfl⟩, rfl⟩
    · show [some (V.int c), some (.ref la), some (.bl few), some (.ref tg), some (.int (ts[d1]'(show d1 < ts.length by omega))), some (.int ((pm : Nat) : Int)), some (.int (d3 % max 1 (((pm : Nat) : Int) + d4))), some (.int wy), none, none, none] = _
      rw [enn]
  clear enn nn nn0 nn1 hpm pm d3 d30 d31 d4 d40 d41
  rintro σ' H2 ⟨⟨tt, pm, nn, hpm, hnn, rfl⟩, rfl⟩
  refine ⟨fun σ' H3 => (∃ nn : Nat, nn ≤ 16 ∧ σ' = [some (.int c), some (.ref la), some (.bl few), some (.ref tg), some (.int tt), some (.int ((pm : Nat) : Int)), some (.int ((nn : Nat) : Int)), some (.int wy), none, none, none]) ∧ H3 = H2, ?_, ?_⟩
  · have same : (∃ nn' : Nat, nn' ≤ 16 ∧ ([some (V.int c), some (.ref la), some (.bl few), some (.ref tg), some (.int tt), some (.int ((pm : Nat) : Int)), some (.int ((nn : Nat) : Int)), some (.int wy), none, none, none] : List (Option V)) = [some (V.int c), some (.ref la), some (.bl few), some (.ref tg), some (.int tt), some (.int ((pm : Nat) : Int)), some (.int ((nn' : Nat) : Int)), some (.int wy), none, none, none]) ∧ H2 = H2 := ⟨⟨nn, hnn, rfl⟩, rfl⟩
    have zero : (∃ nn' : Nat, nn' ≤ 16 ∧ ([some (V.int c), some (.ref la), some (.bl few), some (.ref tg), some (.int tt), some (.int ((pm : Nat) : Int)), some (.int 0), some (.int wy), none, none, none] : List (Option V)) = [some (V.int c), some (.ref la), some (.bl few), some (.ref tg), some (.int tt), some (.int ((pm : Nat) : Int)), some (.int ((nn' : Nat) : Int)), some (.int wy), none, none, none]) ∧ H2 = H2 := ⟨⟨0, Nat.zero_le _, rfl⟩, rfl⟩
    conv => whnf
    refine ite2 (fun _ => zero) (fun _ => ?_)
    conv => whnf
    refine ite2 (fun _ => ?_) (fun _ => iteF same)
    conv => whnf
    exact ite2 (fun _ => zero) (fun _ => same)
  clear hnn nn
  rintro σ' H3 ⟨⟨nn, hnn, rfl⟩, rfl⟩
  refine ⟨fun σ' H4 => (∃ sz : Nat, sz ≤ 6 ∧ σ' = [some (.int c), some (.ref la), some (.bl few), some (.ref tg), some (.int tt), some (.int ((pm : Nat) : Int)), some (.int ((nn : Nat) : Int)), some (.int wy), some (.int ((sz : Nat) : Int)), none, none]) ∧ H4 = H3, ?_, ?_⟩
  · conv => whnf
    refine ite2 (fun _ => ?_) (fun _ => ⟨⟨5, by decide, rfl⟩, rfl⟩)
    refine ⟨fun x H5 => (∃ sz : Nat, sz ≤ 6 ∧ x = .int ((sz : Nat) : Int)) ∧ H5 = H3, ?_, ?_⟩
    · conv => whnf
      refine ite2 (fun _ => ?_) (fun _ => ?_)
      · refine ⟨c, 6, 6, rfl, by decide, by decide, by decide, fun d d0 d' => ?_⟩
        obtain ⟨d, rfl⟩ := Int.eq_ofNat_of_zero_le d0
        exact ⟨⟨d, by omega, rfl⟩, rfl⟩
      · refine ⟨c, 6, 5, rfl, by decide, by decide, by decide, fun d d0 d' => ?_⟩
        obtain ⟨d, rfl⟩ := Int.eq_ofNat_of_zero_le d0
        exact ⟨⟨1 + d, by omega, by show V.int ((1 : Int) + ((d : Nat) : Int)) = _; rw [show (1 : Int) + ((d : Nat) : Int) = ((1 + d : Nat) : Int) by omega]⟩, rfl⟩
    rintro x H5 ⟨⟨sz, hsz, rfl⟩, rfl⟩
    exact ⟨⟨sz, hsz, rfl⟩, rfl⟩
  rintro σ' H4 ⟨⟨sz, hsz, rfl⟩, rfl⟩
  refine ⟨c, 7, 12, rfl, by decide, by decide, by decide, fun sp sp0 sp1 => ?_⟩
  refine ⟨fun σ' H5 => (∃ sz : Nat, sz ≤ 6 ∧ σ' = [some (.int c), some (.ref la), some (.bl few), some (.ref tg), some (.int tt), some (.int ((pm : Nat) : Int)), some (.int ((nn : Nat) : Int)), some (.int wy), some (.int ((sz : Nat) : Int)), some (.int sp), none]) ∧ H5 = H4, ?_, ?_⟩
  · conv => whnf
    exact ite2 (fun _ => ⟨⟨6, by decide, rfl⟩, rfl⟩) (fun _ => ⟨⟨sz, hsz, rfl⟩, rfl⟩)
  clear hsz sz
  rintro σ' H5 ⟨⟨sz, hsz, rfl⟩, rfl⟩
  refine ⟨fun σ' H6 => (∃ sz : Nat, sz ≤ 6 ∧ σ' = [some (.int c), some (.ref la), some (.bl few), some (.ref tg), some (.int tt), some (.int ((pm : Nat) : Int)), some (.int ((nn : Nat) : Int)), some (.int wy), some (.int ((sz : Nat) : Int)), some (.int sp), none]) ∧ H6 = H5, ?_, ?_⟩
  · conv => whnf
    refine ite2 (fun _ => ?_) (fun _ => ⟨⟨sz, hsz, rfl⟩, rfl⟩)
    refine ⟨c, 8, 6, rfl, by decide, by decide, by decide, fun d d0 d' => ?_⟩
    obtain ⟨d, rfl⟩ := Int.eq_ofNat_of_zero_le d0
    exact ⟨⟨d, by omega, rfl⟩, rfl⟩
  clear hsz sz
  rintro σ' H6 ⟨⟨sz, hsz, rfl⟩, rfl⟩
  refine ⟨⟨big64 (by decide) (by decide), big64 (by omega) (by omega)⟩, (by show (0 : Int) < 16; decide), small_lit rfl, fun p1 hp1 => ?_⟩
  have g1 := same_new hp1 (.lst [.int tt, .int (16 * ((pm : Nat) : Int) + ((nn : Nat) : Int) % 16)])
  have e1 := upd_same (H := H6) (a := p1) (o := .lst [.int tt, .int (16 * ((pm : Nat) : Int) + ((nn : Nat) : Int) % 16)])
  generalize upd H6 p1 (.lst [.int tt, .int (16 * ((pm : Nat) : Int) + ((nn : Nat) : Int) % 16)]) = H7 at g1 e1
  have em : ((sz : Nat) : Int).toNat = sz := Int.toNat_natCast sz
  refine ⟨⟨by omega, by omega⟩, comp_range (fun i ys H' => (∃ ds : List Int, ys = ds.map V.int ∧ ds.length = i) ∧ H' = H7) ?_ ⟨⟨[], rfl, rfl⟩, rfl⟩ ?_ ?_⟩
  · rintro i ys H' hi ⟨⟨ds, rfl, hl⟩, _⟩
    refine small1 ?_
    rw [List.length_map]; omega
  · rintro i ys H' hi ⟨⟨ds, rfl, hl⟩, rfl⟩
    refine ⟨c, _, 256, rfl, (by show (0 : Int) ≤ 10 + (0 + (i : Int)); omega), (by show 10 + (0 + (i : Int)) ≤ 100000; omega), by decide, fun d _ _ => ?_⟩
    exact ⟨⟨ds ++ [d], by rw [List.map_append]; rfl, by rw [List.length_append, hl]; rfl⟩, rfl⟩
  rintro ys H' ⟨⟨ds, rfl, hl⟩, rfl⟩ p2 hp2
  rw [em] at hl
  have g2 := same_new hp2 (.lst (ds.map V.int))
  have e2 := upd_same (H := H') (a := p2) (o := .lst (ds.map V.int))
  generalize upd H' p2 (.lst (ds.map V.int)) = H8 at g2 e2
  refine ⟨_, _, g2 _ _ e1, e2, (by rw [List.length_map]; exact small (by show 2 + ds.length ≤ 1000; omega)), fun p3 hp3 => ?_⟩
  have g3 := same_new hp3 (.lst ([.int tt, .int (16 * ((pm : Nat) : Int) + ((nn : Nat) : Int) % 16)] ++ ds.map V.int))
  have en : ((nn : Nat) : Int) % 16 = ((nn % 16 : Nat) : Int) := by omega
  have e3 : upd H8 p3 (.lst ([.int tt, .int (16 * ((pm : Nat) : Int) + ((nn : Nat) : Int) % 16)] ++ ds.map V.int)) p3 = some (.lst ((tt :: (16 * ((pm : Nat) : Int) + ((nn % 16 : Nat) : Int)) :: ds).map V.int)) := by rw [upd_same, en]; rfl
  generalize upd H8 p3 (.lst ([.int tt, .int (16 * ((pm : Nat) : Int) + ((nn : Nat) : Int) % 16)] ++ ds.map V.int)) = H9 at g3 e3
  have gs := g1.trans (g2.trans g3)
  have hps : PcS (tt :: (16 * ((pm : Nat) : Int) + ((nn % 16 : Nat) : Int)) :: ds) := ⟨by rw [List.length_cons, List.length_cons]; omega, .inr ⟨tt, pm, nn % 16, ds, rfl, Nat.mod_lt _ (by decide), hpm⟩⟩
  refine ⟨fun x H10 => ∃ (p : Addr) (ps : List Int), x = .ref p ∧ Same H6 H10 ∧ H10 p = some (.lst (ps.map V.int)) ∧ PcS ps, ?_, ?_⟩
  · conv => whnf
    refine ite2 (fun _ => ?_) (fun _ => ⟨p3, _, rfl, gs, e3, hps⟩)
    refine ⟨c, 9, 2, rfl, by decide, by decide, by decide, fun d d0 d' => ?_⟩
    obtain ⟨d, rfl⟩ := Int.eq_ofNat_of_zero_le d0
    refine ⟨_, SqL.of e3, fun p4 hp4 => ?_⟩
    have ec : cutV ((tt :: (16 * ((pm : Nat) : Int) + ((nn % 16 : Nat) : Int)) :: ds).map V.int) none (some ((d : Nat) : Int)) = ((tt :: (16 * ((pm : Nat) : Int) + ((nn % 16 : Nat) : Int)) :: ds).take d).map V.int := cut_take _ d
    rw [ec]
    refine ⟨p4, _, rfl, gs.trans (same_new hp4 _), upd_same, ?_, .inl ?_⟩
    · rw [List.length_take]; omega
    · rw [List.length_take]; omega
  rintro x H10 ⟨p, ps, rfl, g10, e10, hp10⟩
  exact q p H10 ps g10 e10 hp10
theorem sc_law : FnScope ["_law_script", "_law_joiner", "_law_head", "_law_few", "_law_tags", "_law_state", "_law_last", "_law_held", "_law_cell", "_law_due", "_law_told_here", "_law_data", "_law_handed", "_law_step", "_law_pair"] ["_law_script"] (defScope s_law) := ⟨rfl, rfl, rfl, by decide +kernel, rfl, by decide +kernel, by decide +kernel⟩
set_option maxHeartbeats 4000000 in
theorem ok_law {a_law : Addr} {d_law : FuncData} {a_Joiner_init : Addr} {d_Joiner_init : FuncData} {a__law_mix : Addr} {d__law_mix : FuncData} {a__law_is_asked_well : Addr} {d__law_is_asked_well : FuncData} {a_Joiner_end : Addr} {d_Joiner_end : FuncData} {a__law_piece : Addr} {d__law_piece : FuncData} {a__law_told : Addr} {d__law_told : FuncData} {a__law_is_piece : Addr} {d__law_is_piece : FuncData} {a__law_taken : Addr} {d__law_taken : FuncData} {a_Joiner : Addr} {a_NoThing : Addr} (F_law : Fun K "law" "law" s_law a_law d_law) (m_Joiner : mg "Joiner" = some (.ref a_Joiner)) (fact_mk_Joiner : Mk K a_Joiner a_Joiner_init) (m_len : mg "len" = none) (m_range : mg "range" = none) (fact_cls_Joiner : Cls K a_Joiner) (fact_meth_Joiner_end : Meth K a_Joiner "end" a_Joiner_end) (m_list : mg "list" = none) (m_isinstance : mg "isinstance" = none) (m_NoThing : mg "NoThing" = some (.ref a_NoThing)) (G_Joiner_init : FnOk P w K mg base CX0 1 a_Joiner_init d_Joiner_init ["self"] (spJoInit a_Joiner)) (b_Joiner_init : Binds K d_Joiner_init ["self"] []) (G__law_mix : FnOk P w K mg base CX0 1 a__law_mix d__law_mix ["_law_cell", "_law_k", "_law_many"] (spMix)) (b__law_mix : Binds K d__law_mix ["_law_cell", "_law_k", "_law_many"] []) (k__law_mix : PySem.W.keepIn K (.ref a__law_mix) = true) (m__law_mix : mg "_law_mix" = some (.ref a__law_mix)) (G__law_is_asked_well : FnOk P w K mg base CX0 2 a__law_is_asked_well d__law_is_asked_well ["_law_joiner", "_law_state"] (spAsked a_Joiner)) (b__law_is_asked_well : Binds K d__law_is_asked_well ["_law_joiner", "_law_state"] []) (k__law_is_asked_well : PySem.W.keepIn K (.ref a__law_is_asked_well) = true) (m__law_is_asked_well : mg "_law_is_asked_well" = some (.ref a__law_is_asked_well)) (G_Joiner_end : FnOk P w K mg base CX0 1 a_Joiner_end d_Joiner_end ["self"] (spJoEnd a_Joiner)) (b_Joiner_end : Binds K d_Joiner_end ["self"] []) (G__law_piece : FnOk P w K mg base CX0 2 a__law_piece d__law_piece ["_law_cell", "_law_last", "_law_few", "_law_tags"] (spPieceJ)) (b__law_piece : Binds K d__law_piece ["_law_cell", "_law_last", "_law_few", "_law_tags"] []) (k__law_piece : PySem.W.keepIn K (.ref a__law_piece) = true) (m__law_piece : mg "_law_piece" = some (.ref a__law_piece)) (G__law_told : FnOk P w K mg base CX0 5 a__law_told d__law_told ["_law_joiner", "_law_data"] (spToldJ a_Joiner)) (b__law_told : Binds K d__law_told ["_law_joiner", "_law_data"] []) (k__law_told : PySem.W.keepIn K (.ref a__law_told) = true) (m__law_told : mg "_law_told" = some (.ref a__law_told)) (G__law_is_piece : FnOk P w K mg base CX0 1 a__law_is_piece d__law_is_piece ["_law_data"] (spIsPiece)) (b__law_is_piece : Binds K d__law_is_piece ["_law_data"] []) (k__law_is_piece : PySem.W.keepIn K (.ref a__law_is_piece) = true) (m__law_is_piece : mg "_law_is_piece" = some (.ref a__law_is_piece)) (G__law_taken : FnOk P w K mg base CX0 1 a__law_taken d__law_taken ["_law_state", "_law_data"] (spTaken)) (b__law_taken : Binds K d__law_taken ["_law_state", "_law_data"] []) (k__law_taken : PySem.W.keepIn K (.ref a__law_taken) = true) (m__law_taken : mg "_law_taken" = some (.ref a__law_taken)) :
    FnOk P w K mg base CX0 6 a_law d_law ["_law_script"] (spLaw K) := by
  refine F_law.ok sc_law (fun vs H Q E h => ?_) (fun cdv A outer s H vs Q E hr h => ?_)
  · obtain ⟨a, ns, rfl, _⟩ := h
    rfl
  obtain ⟨a, ns, rfl, hS, h63, q⟩ := h
  have nd := sc_law.nd
  refine ⟨_, (pss_cons (ps_set (i := 1) nd rfl (Or.inl rfl) (pe_make0 fact_mk_Joiner G_Joiner_init (hr.mono (by decide)) rfl m_Joiner b_Joiner_init .nil pass0)) (pss_cons (ps_set (i := 2) nd rfl (Or.inr rfl) (pe_cut (pe_ifExp (md_cmp z_gt (pe_callB z_len rfl m_len bt_len (pa_cons (dv 0) pa_nil)) pe_int (nomark _)) (pe_ix z_ixL (dv 0) pe_int (fun _ _ => rfl)) pe_int))) (pss_cons (ps_set (i := 3) nd rfl (Or.inl rfl) (pe_cmpR z_eq (pe_call G__law_mix (hr.mono (by decide)) rfl m__law_mix k__law_mix b__law_mix .nil pass0 (pa_cons (dv 2) (pa_cons pe_int (pa_cons pe_int pa_nil)))) pe_int (nomark _))) (pss_cons (ps_setComp (j := 4) nd rfl rfl rfl (ix := [2]) (mi_range1 rfl m_range (pa_cons pe_int pa_nil)) (fun C fp s0 H0 at0 => pts_nil) (fun C fp s0 H0 at0 => (pe_call G__law_mix (hr.mono (by decide)) rfl m__law_mix k__law_mix b__law_mix .nil pass0 (pa_cons (dv 1) (pa_cons (pe_op z_add pe_int (dv 0)) (pa_cons pe_int pa_nil))))) rfl rfl (by rfl) (show ([".0", "_law_k", "_law_head"] : List Str).Nodup by decide +kernel)) (pss_cons (ps_set (i := 5) nd rfl (Or.inl rfl) (pe_tup (pa_cons pe_non (pa_cons pe_non pa_nil)))) (pss_cons (ps_set (i := 6) nd rfl (Or.inl rfl) (pe_tup (pa_cons (pe_ix z_ixL (dv 4) pe_int (fun _ _ => rfl)) (pa_cons pe_int (pa_cons pe_int pa_nil))))) (pss_cons (ps_set (i := 7) nd rfl (Or.inl rfl) (pe_lst pa_nil)) (pss_cons (ps_for PassesOwn.never rfl (mi_list (pe_slice z_slL (dv 0) po_none (md_part pe_int))) (pg_name (i := 8) nd rfl (Or.inl rfl)) (pss_cons (ps_cut (ps_if (PW.pt (pw_and (md_cmp z_eq (pe_call G__law_mix (hr.mono (by decide)) rfl m__law_mix k__law_mix b__law_mix .nil pass0 (pa_cons (dv 8) (pa_cons pe_int (pa_cons pe_int pa_nil)))) pe_int (nomark _)) (pw_and1 (pt_not (md_val (pe_call G__law_is_asked_well (hr.mono (by decide)) rfl m__law_is_asked_well k__law_is_asked_well b__law_is_asked_well .nil pass0 (pa_cons (dv 1) (pa_cons (dv 5) pa_nil)))))))) (pss_one (ps_ret pe_bl)) pss_nil)) (pss_cons (ps_cut (ps_if (md_cmp z_eq (pe_call G__law_mix (hr.mono (by decide)) rfl m__law_mix k__law_mix b__law_mix .nil pass0 (pa_cons (dv 8) (pa_cons pe_int (pa_cons pe_int pa_nil)))) pe_int (nomark _)) (pss_cons (ps_set (i := 9) nd rfl (Or.inl rfl) (pe_cut (pe_ifExp (md_cmp z_isN (pe_ix z_ixT (dv 5) pe_int (fun _ _ => rfl)) pe_non (nomark _)) (pe_lst pa_nil) (pe_lst (pa_cons (pe_tup (pa_cons pe_str (pa_cons (pe_ix z_ixT (pe_ix z_ixT (dv 5) pe_int (fun _ _ => rfl)) pe_int (fun _ _ => rfl)) pa_nil))) pa_nil))))) (pss_cons (ps_set (i := 10) nd rfl (Or.inl rfl) (md_meth0 fact_cls_Joiner fact_meth_Joiner_end G_Joiner_end (hr.mono (by decide)) b_Joiner_end .nil pass0 (dv 1))) (pss_one (ps_set (i := 5) nd rfl (Or.inl rfl) (pe_tup (pa_cons pe_non (pa_cons (pe_cut (pe_ifExp (md_cmp z_notN (pe_ix z_ixT (dv 5) pe_int (fun _ _ => rfl)) pe_non (nomark _)) (pe_ix z_ixT (pe_ix z_ixT (dv 5) pe_int (fun _ _ => rfl)) pe_int (fun _ _ => rfl)) (pe_ix z_ixT (dv 5) pe_int (fun _ _ => rfl)))) pa_nil))))))) (pss_cons (ps_set (i := 11) nd rfl (Or.inl rfl) (pe_call G__law_piece (hr.mono (by decide)) rfl m__law_piece k__law_piece b__law_piece .nil pass0 (pa_cons (dv 8) (pa_cons (dv 6) (pa_cons (dv 3) (pa_cons (dv 4) pa_nil)))))) (pss_cons (ps_set (i := 12) nd rfl (Or.inl rfl) (pe_callTy z_listOf rfl m_list bt_list (pa_cons (dv 11) pa_nil))) (pss_cons (ps_set (i := 10) nd rfl (Or.inl rfl) (pe_call G__law_told (hr.mono (by decide)) rfl m__law_told k__law_told b__law_told .nil pass0 (pa_cons (dv 1) (pa_cons (dv 12) pa_nil)))) (pss_cons (ps_if (md_cmp (z_neL hr.units) (dv 12) (dv 11) (nomark _)) (pss_one (ps_ret pe_bl)) pss_nil) (pss_cons (ps_expr (md_append (dv 12) (pa_cons pe_int pa_nil))) (pss_cons (ps_set (i := 9) nd rfl (Or.inl rfl) pe_non) (pss_one (ps_if (md_val (pe_call G__law_is_piece (hr.mono (by decide)) rfl m__law_is_piece k__law_is_piece b__law_is_piece .nil pass0 (pa_cons (dv 11) pa_nil))) (pss_cons (ps_set (i := 13) nd rfl (Or.inl rfl) (pe_call G__law_taken (hr.mono (by decide)) rfl m__law_taken k__law_taken b__law_taken .nil pass0 (pa_cons (dv 5) (pa_cons (dv 11) pa_nil)))) (pss_cons (ps_set (i := 9) nd rfl (Or.inl rfl) (pe_ix z_ixT (dv 13) pe_int (fun _ _ => rfl))) (pss_cons (ps_set (i := 5) nd rfl (Or.inl rfl) (pe_tup (pa_cons (pe_ix z_ixT (dv 13) pe_int (fun _ _ => rfl)) (pa_cons (pe_ix z_ixT (dv 13) pe_int (fun _ _ => rfl)) pa_nil)))) (pss_one (ps_set (i := 6) nd rfl (Or.inl rfl) (pe_tup (pa_cons (pe_ix z_ixL (dv 11) pe_int (fun _ _ => rfl)) (pa_cons (pe_op z_fdiv (pe_ix z_ixL (dv 11) pe_int (fun _ _ => rfl)) pe_int) (pa_cons (pe_op z_add (pe_op z_mod (pe_ix z_ixL (dv 11) pe_int (fun _ _ => rfl)) pe_int) pe_int) pa_nil))))))))) pss_nil)))))))))) (pss_cons (ps_if (PW.pt (pw_or (PW.pt (pw_and (md_cmp z_notN (dv 10) pe_non (nomark _)) (pw_and1 (pt_not (md_val (pe_callB z_isi_list rfl m_isinstance bt_isinstance (pa_cons (dv 10) (pa_cons (pe_bltn (v := .ty "list") rfl m_list bt_list rfl) pa_nil)))))))) (pw_or1 (md_cmp (z_neS hr.units) (dv 10) (dv 9) (nomark _))))) (pss_one (ps_ret pe_bl)) pss_nil) (pss_one (ps_expr (md_append (dv 7) (pa_cons (pe_tup (pa_cons (dv 10) (pa_cons (dv 9) pa_nil))) pa_nil)))))))) (pss_cons (ps_for PassesOwn.never rfl (mi_list (dv 7)) (pg_name (i := 14) nd rfl (Or.inl rfl)) (pss_one (ps_if (md_cmp (z_neS hr.units) (pe_ix z_ixT (dv 14) pe_int (fun _ _ => rfl)) (pe_ix z_ixT (dv 14) pe_int (fun _ _ => rfl)) (nomark _)) (pss_one (ps_ret pe_bl)) pss_nil))) (pss_one (ps_ret (pe_call G__law_is_asked_well (hr.mono (by decide)) rfl m__law_is_asked_well k__law_is_asked_well b__law_is_asked_well .nil pass0 (pa_cons (dv 1) (pa_cons (dv 5) pa_nil)))))))))))))), ?_⟩
  refine fun jo dj hjo hdj _ => ⟨jo, dj, rfl, upd_same, fun H1 hJ1 b1 => ⟨rfl, ?_⟩⟩
  have sm : Same H (upd (upd H dj (.own jo)) jo (.ins a_Joiner dj [])) := fun x o e => by rw [upd_ne (ne_of_none e hjo), upd_ne (ne_of_none e hdj)]; exact e
  have g1 : Same H H1 := fun x o e => b1 x o (ne_of_none e hjo) (sm x o e)
  clear b1 sm hdj
  refine ⟨fun x H' => (∃ hd : Int, x = .int hd) ∧ H' = H1, ?_, ?_⟩
  · refine ⟨_, .inl (g1.seq hS), ?_⟩
    rw [List.length_map]
    conv => whnf
    refine ite2 (fun c => ?_) (fun _ => ⟨⟨0, rfl⟩, rfl⟩)
    have c1 : (0 : Int) < ((ns.length : Nat) : Int) := dec_true c
    exact ⟨_, _, g1.seq hS, at_ints (i := 0) (by omega), ⟨_, rfl⟩, rfl⟩
  rintro x H' ⟨⟨hd, rfl⟩, rfl⟩
  refine ⟨hd, 20, 2, rfl, by decide, by decide, by decide, fun fw _ _ => ?_⟩
  refine ⟨⟨by decide, by decide⟩, comp_range (fun i ys H'' => (∃ ds : List Int, ys = ds.map V.int ∧ ds.length = i) ∧ H'' = H') ?_ ⟨⟨[], rfl, rfl⟩, rfl⟩ ?_ ?_⟩
  · rintro i ys H'' hi ⟨⟨ds, rfl, hl⟩, _⟩
    refine small1 ?_
    have hi' : i ≤ 3 := hi
    rw [List.length_map]; omega
  · rintro i ys H'' hi ⟨⟨ds, rfl, hl⟩, rfl⟩
    have hi' : i < 3 := hi
    refine ⟨hd, _, 256, rfl, (by show (0 : Int) ≤ 21 + (0 + (i : Int)); omega), (by show 21 + (0 + (i : Int)) ≤ 100000; omega), by decide, fun d _ _ => ?_⟩
    exact ⟨⟨ds ++ [d], by rw [List.map_append]; rfl, by rw [List.length_append, hl]; rfl⟩, rfl⟩
  rintro ys H'' ⟨⟨ts, rfl, hts⟩, rfl⟩ tg htg
  have hts : ts.length = 3 := hts
  have g2 := same_new htg (.lst (ts.map V.int))
  have e2 := upd_same (H := H'') (a := tg) (o := .lst (ts.map V.int))
  generalize upd H'' tg (.lst (ts.map V.int)) = H2 at g2 e2
  refine ⟨small_lit rfl, fun sa hsa => ?_⟩
  have g3 := same_new hsa (.tup [.non, .non])
  have e3 := upd_same (H := H2) (a := sa) (o := .tup [.non, .non])
  generalize upd H2 sa (.tup [.non, .non]) = H3 at g3 e3
  refine ⟨_, _, SqL.of (g3 _ _ e2), at_ints (i := 0) (by omega), small_lit rfl, fun la hla => ?_⟩
  generalize (ts[0]'(by omega)) = lt0 at *
  have g4 := same_new hla (.tup [.int lt0, .int 2, .int 0])
  have e4 := upd_same (H := H3) (a := la) (o := .tup [.int lt0, .int 2, .int 0])
  generalize upd H3 la (.tup [.int lt0, .int 2, .int 0]) = H4 at g4 e4
  refine ⟨small_lit rfl, fun he hhe => ?_⟩
  have g5 := same_new hhe (.lst [])
  have e5 : upd H4 he (.lst []) he = some (.lst (([] : List Addr).map V.ref)) := upd_same
  generalize upd H4 he (.lst []) = H5 at g5 e5
  have g15 := g2.trans (g3.trans (g4.trans g5))
  have g05 := g1.trans g15
  have hJ5 := hJ1.same g15
  have nj5 : ∀ q dx tv s0, H5 jo = some (.ins a_Joiner dx (joF s0 tv q)) → q ≠ he := fun q dx tv s0 e z => by
    obtain ⟨dx5, tv5, jl5, ee, el5, _⟩ := hJ1
    have e2' := joF_inj ((g15 _ _ ee).symm.trans e)
    rw [← e2'] at z
    rw [z] at el5
    rw [(g2.trans (g3.trans g4)) _ _ el5] at hhe; cases hhe
  refine ⟨_, g05.seq hS, fun sl hsl => ?_⟩
  have ec : cutV (ns.map V.int) none (some (60 : Int)) = (ns.take 60).map V.int := cut_take ns 60
  rw [ec]
  have g6 := same_new hsl (.lst ((ns.take 60).map V.int))
  have e6 := upd_same (H := H5) (a := sl) (o := .lst ((ns.take 60).map V.int))
  generalize upd H5 sl (.lst ((ns.take 60).map V.int)) = H6 at g6 e6
  have hJ6 := hJ5.same g6
  have nsh : sl ≠ he := fun z => by rw [z, e5] at hsl; cases hsl
  obtain ⟨dx6, tv6, jl6, ej6, ejl6, _⟩ := id hJ6
  have nsj : sl ≠ jo := fun z => by rw [z, ej6] at e6; cases e6
  have ntj : tg ≠ jo := fun z => by have := (g3.trans (g4.trans (g5.trans g6))) _ _ e2; rw [z, ej6] at this; cases this
  have nth : tg ≠ he := fun z => by have := (g3.trans g4) _ _ e2; rw [z, hhe] at this; cases this
  have L0 : Lw a_Joiner H6 H6 jo he sa la ⟨false, 0, 0, 0, [], none⟩ .non lt0 2 0 0 := ⟨fun x o _ _ e => e, hJ6, (fun q dx tv s0 e => by
    obtain ⟨dx5, tv5, jl5, ee, el5, _⟩ := hJ5
    have e2' := joF_inj ((g6 _ _ ee).symm.trans e)
    rw [← e2']
    exact nj5 _ _ _ _ ee), (g4.trans (g5.trans g6)) _ _ e3, ⟨(fun z => nomatch z), fun _ => rfl⟩, (fun z => nomatch z), Nat.zero_le _, Nat.zero_le _, (g5.trans g6) _ _ e4, by decide, by decide⟩
  have etg6 := (g3.trans (g4.trans (g5.trans g6))) _ _ e2
  have ehe6 := g6 _ _ e5
  have hl60 : (ns.take 60).length ≤ 60 := by rw [List.length_take]; omega
  clear g2 g3 g4 g5 e2 e3 e4 e5 hJ1 hJ5 nj5 ec hsl g15 g05 hjo g1
  refine ⟨⟨_, SqL.of e6⟩, for_list (xs := (ns.take 60).map V.int) (fun i σ H' => ∃ (sa la : Addr) (s : Jn) (tv : V) (lt : Int) (lm ln : Nat) (hs : List Addr) (x8 x9 x10 x11 x12 x13 : Option V), Lw a_Joiner H6 H' jo he sa la s tv lt lm ln i ∧ H' he = some (.lst (hs.map V.ref)) ∧ hs.length ≤ i ∧ PrQ he H' hs ∧ σ = [some (.ref a), some (.ref jo), some (.int hd), some (.bl (decide (fw = 0))), some (.ref tg), some (.ref sa), some (.ref la), some (.ref he), x8, x9, x10, x11, x12, x13, none]) ⟨sa, la, _, _, _, _, _, [], _, _, _, _, _, _, L0, ehe6, Nat.le_refl _, (fun h hh => absurd hh List.not_mem_nil), rfl⟩ ?_ ?_ ?_⟩
  · rintro i σ H' _ ⟨sa, la, s, tv, lt, lm, ln, hs, x8, x9, x10, x11, x12, x13, L, _⟩
    exact SqL.of (L.fr _ _ nsj nsh e6)
  · clear L0 hhe hla hsa sa la
    rintro i x σ H' hx ⟨sa, la, s, tv, lt, lm, ln, hs, x8, x9, x10, x11, x12, x13, L, ehe, hhl, hP, rfl⟩
    rw [List.getElem?_map] at hx
    obtain ⟨c, hc, rfl⟩ := Option.map_eq_some_iff.mp hx
    have hi : i < 60 := by have := (List.getElem?_eq_some_iff.mp hc).1; omega
    obtain ⟨dx, tvj, jl, ej, ejl, htv⟩ := id L.hj
    have njh : jo ≠ he := fun z => by rw [z, ehe] at ej; cases ej
    have ixs := L.iff
    refine ⟨fun σ' H'' => σ' = [some (.ref a), some (.ref jo), some (.int hd), some (.bl (decide (fw = 0))), some (.ref tg), some (.ref sa), some (.ref la), some (.ref he), some (.int c), x9, x10, x11, x12, x13, none] ∧ H'' = H', ?_, ?_⟩
    · refine ⟨c, 40, 3, rfl, by decide, by decide, by decide, fun d _ _ => ?_⟩
      conv => whnf
      refine ite2 (fun _ => ?_) (fun _ => ⟨rfl, rfl⟩)
      exact ⟨jo, s, sa, tv, _, rfl, L.hj, L.st, ixs, rfl, rfl⟩
    rintro σ' H'' ⟨rfl, rfl⟩
    refine ⟨fun σ' H2 => ∃ (sa la : Addr) (s : Jn) (tv : V) (lt : Int) (lm ln : Nat) (x y : V) (x11 x12 x13 : Option V), Lw a_Joiner H6 H2 jo he sa la s tv lt lm ln (i + 1) ∧ But1 H'' H2 jo ∧ HdV he H2 x y ∧ σ' = [some (.ref a), some (.ref jo), some (.int hd), some (.bl (decide (fw = 0))), some (.ref tg), some (.ref sa), some (.ref la), some (.ref he), some (.int c), some y, some x, x11, x12, x13, none], ?_, ?_⟩
    · refine ⟨c, 41, 14, rfl, by decide, by decide, by decide, fun d _ _ => ?_⟩
      conv => whnf
      refine ite2 (fun _ => ?_) (fun _ => ?_)
      · refine ⟨fun x H1 => ∃ p es, x = .ref p ∧ Same H'' H1 ∧ H'' p = none ∧ H1 p = some (.lst (es.map V.ref)) ∧ EvQ (fun l => l ≠ he) H1 es (endE s), ?_, ?_⟩
        · refine ⟨_, _, SqT.of L.st, rfl, ?_⟩
          cases hso : s.o with
          | false =>
            have etv := L.th.2 hso
            rw [etv, endE_nil' hso]
            exact ⟨small_lit rfl, fun p hp => ⟨p, [], rfl, same_new hp _, hp, upd_same, .nil⟩⟩
          | true =>
            obtain ⟨ta, la', etv, _, eta, _⟩ := L.th.1 hso
            have eee : endE s = [.broken s.tg] := if_pos hso
            have est := L.st
            rw [etv] at est ⊢
            rw [eee]
            refine ⟨_, _, SqT.of est, rfl, _, _, SqT.of eta, rfl, small_lit rfl, fun pt hpt => ?_⟩
            have gx := same_new hpt (.tup [.str "broken", .int s.tg])
            have ex := upd_same (H := H'') (a := pt) (o := .tup [.str "broken", .int s.tg])
            generalize upd H'' pt (.tup [.str "broken", .int s.tg]) = Hx at gx ex
            exact ⟨small_lit rfl, fun p hp => ⟨p, [pt], rfl, gx.trans (same_new hp _), gx.none hp, upd_same, .cons ((same_new hp _) _ _ ex) .nil⟩⟩
        rintro x H1 ⟨pd, ed, rfl, g1, hpd, epd, hEd⟩
        refine ⟨⟨dx, _, g1 _ _ ej, rfl⟩, jo, s, rfl, L.hj.same g1, fun pt et H2 hpt ept hEt hJ2 b2 nq2 => ?_⟩
        have ej1 := g1 _ _ ej
        have b12 : But1 H'' H2 jo := (But1.of g1).trans b2
        have est2 := b12 _ _ (fun z => by have := L.st; rw [z, ej] at this; cases this) L.st
        obtain ⟨dx2, tv2, jl2, ej2, _⟩ := id hJ2
        refine ⟨fun x H3 => x = vO (endJ s).bt ∧ H3 = H2, ?_, ?_⟩
        · refine ⟨_, _, SqT.of est2, rfl, ?_⟩
          cases hso : s.o with
          | false =>
            have etv := L.th.2 hso
            rw [etv] at est2 ⊢
            rw [endJ_nil' hso]
            exact ⟨_, _, SqT.of est2, rfl, rfl, rfl⟩
          | true =>
            obtain ⟨ta, la', etv, _, eta, _⟩ := L.th.1 hso
            have een : (endJ s).bt = some s.tg := by rw [show endJ s = { s with o := false, bt := some s.tg } from if_pos hso]
            have eta2 := b12 _ _ (fun z => by rw [z, ej] at eta; cases eta) eta
            rw [etv] at est2 ⊢
            rw [een]
            exact ⟨_, _, SqT.of est2, rfl, _, _, SqT.of eta2, rfl, rfl, rfl⟩
        rintro x H3 ⟨rfl, rfl⟩
        refine ⟨small_lit rfl, fun sn hsn => ?_⟩
        have g3 := same_new hsn (.tup [.non, vO (endJ s).bt])
        have e3 := upd_same (H := H3) (a := sn) (o := .tup [.non, vO (endJ s).bt])
        generalize upd H3 sn (.tup [.non, vO (endJ s).bt]) = H4 at g3 e3
        have b14 : But1 H'' H4 jo := b12.trans (But1.of g3)
        have eee : (endJ s).js = s.js ∧ (endJ s).m = s.m := by
          unfold endJ
          split <;> exact ⟨rfl, rfl⟩
        have npd : pd ≠ jo := fun z => by rw [z, ej1] at epd; cases epd
        refine ⟨sn, la, endJ s, .non, lt, lm, ln, .ref pt, .ref pd, _, _, _, ⟨L.fr.trans b14.to2, hJ2.same g3, (fun q dx' tv' s0 e => ?_), e3, ⟨(fun z => by rw [endJ_o] at z; cases z), fun _ => rfl⟩, (fun z => by rw [endJ_o] at z; cases z), by rw [eee.1]; have := L.js; omega, by rw [eee.2]; exact L.ms, b14 _ _ (fun z => by have := L.ls; rw [z, ej] at this; cases this) L.ls, L.l1, L.l2⟩, b14, .inr ⟨pt, pd, et, ed, endE s, rfl, rfl, ?_, ?_, g3 _ _ ept, g3 _ _ (b2 _ _ npd epd), ?_, ?_⟩, rfl⟩
        · have e2' := joF_inj ((g3 _ _ ej2).symm.trans e)
          rw [← e2']
          rcases (nq2 jl2 dx2 tv2 ej2).2 with z | ⟨dz, tz, sz, ez⟩
          · exact fun y => by rw [y, g1 _ _ ehe] at z; cases z
          · have e2'' := joF_inj (ej1.symm.trans ez)
            rw [← e2'']
            exact L.nj _ _ _ _ ej
        · exact fun z => by rw [z, g1 _ _ ehe] at hpt; cases hpt
        · exact fun z => by rw [z, ehe] at hpd; cases hpd
        · exact (hEt.imp fun l hl z => by rw [z, g1 _ _ ehe] at hl; cases hl).same g3
        · exact (hEd.but b2 ej1).same g3
      · refine ⟨c, la, tg, _, lt, lm, ln, ts, rfl, L.ls, L.l1, L.l2, L.fr _ _ ntj nth etg6, hts, fun pd H1 ps g1 epd hps => ?_⟩
        refine ⟨_, .inl (SqL.of epd), fun ph hph => ?_⟩
        have g2 := same_new hph (.lst (ps.map V.int))
        have e2 := upd_same (H := H1) (a := ph) (o := .lst (ps.map V.int))
        generalize upd H1 ph (.lst (ps.map V.int)) = H2 at g2 e2
        have g12 := g1.trans g2
        have ej2 := g12 _ _ ej
        have ehe2 := g12 _ _ ehe
        have nph : H'' ph = none := g1.none hph
        have npd : pd ≠ ph := fun z => by rw [z, hph] at epd; cases epd
        have npj : ph ≠ jo := fun z => by rw [z, ej2] at e2; cases e2
        have npdj : pd ≠ jo := fun z => by have := g2 _ _ epd; rw [z, ej2] at this; cases this
        have hps1 := hps.1
        have hjs := L.js
        have hms := L.ms
        refine ⟨jo, s, ph, ps, rfl, L.hj.same g12, by omega, by omega, hps, e2, fun t m n hpc pt et H3 hpt ept hEt hJ3 b3 nq3 => ?_, fun no H3 g3 => ?_⟩
        · have eph3 := b3 _ _ npj e2
          have epd3 := b3 _ _ npdj (g2 _ _ epd)
          refine ⟨ps, ps, SqL.of eph3, SqL.of epd3, ?_⟩
          rw [decide_eq_true (rfl : ps = ps)]
          refine ⟨⟨_, SqL.of eph3⟩, _, eph3, small1 (by rw [List.length_map]; omega), ?_⟩
          generalize hE4 : upd H3 ph (.lst (ps.map V.int ++ [.int 1])) = H4
          have b4 : But1 H'' H4 jo := fun x o hx e => by
            rw [← hE4, upd_ne (ne_of_none e nph)]
            exact b3 x o hx (g12 _ _ e)
          have ej4 : H4 jo = H3 jo := by rw [← hE4, upd_ne (Ne.symm npj)]
          have epd4 : H4 pd = some (.lst (ps.map V.int)) := by rw [← hE4, upd_ne npd]; exact epd3
          obtain ⟨dx3, tv3, jl3, ej3, ejl3, ht3⟩ := id hJ3
          have njl3 : jl3 ≠ ph ∧ jl3 ≠ he := by
            rcases (nq3 jl3 dx3 tv3 ej3).2 with z | ⟨dz, tz, sz, ez⟩
            · exact ⟨(fun y => by rw [y, e2] at z; cases z), fun y => by rw [y, ehe2] at z; cases z⟩
            · have e2'' := joF_inj (ej2.symm.trans ez)
              rw [← e2'']
              exact ⟨(fun y => by rw [y, nph] at ejl; cases ejl), L.nj _ _ _ _ ej⟩
          have hJ4 : JoAt a_Joiner H4 jo (takJ s t m n ps) := ⟨dx3, tv3, jl3, ej4.trans ej3, by rw [← hE4, upd_ne njl3.1]; exact ejl3, ht3⟩
          have nptph : pt ≠ ph := fun z => by rw [z, e2] at hpt; cases hpt
          have ept4 : H4 pt = some (.lst (et.map V.ref)) := by rw [← hE4, upd_ne nptph]; exact ept
          have hEt4 : EvQ (fun l => l ≠ he) H4 et (takE s t m n ps) := hEt.mono (fun x xs ex => by rw [← hE4, upd_ne (fun z => by rw [z, eph3] at ex; cases ex)]; exact ex) (fun x xs hx ex => by rw [← hE4, upd_ne (fun z => by rw [z, e2] at hx; cases hx)]; exact ex) fun x hx z => by rw [z, ehe2] at hx; cases hx
          have nsaj : sa ≠ jo := fun z => by have := L.st; rw [z, ej] at this; cases this
          have ehe4 := b4 _ _ (Ne.symm njh) ehe
          have hpt4 : pt ≠ he := fun z => by rw [z, ehe2] at hpt; cases hpt
          clear hE4
          obtain ⟨iv', ms', js'⟩ := takJ_inv hpc L.iv L.ms
          obtain ⟨a0, a1⟩ := pc_at hpc
          refine ⟨pd, ps, rfl, hps, epd4, fun _ => ?_, fun no => absurd ⟨t, m, n, hpc⟩ no⟩
          refine ⟨sa, pd, tv, s, ps, t, m, n, rfl, b4 _ _ nsaj L.st, (L.th.but1 b4 ej).imp fun _ _ => trivial, L.iv, by omega, hpc, epd4, fun pz du ed tv5 H5 g5 hdu epz edu hEd hT5 => ?_⟩
          refine ⟨_, _, SqT.of epz, rfl, _, _, SqT.of epz, rfl, _, _, SqT.of epz, rfl, small_lit rfl, fun sn hsn => ?_⟩
          have g6' := same_new hsn (.tup [tv5, vO (takJ s t m n ps).bt])
          have e6' := upd_same (H := H5) (a := sn) (o := .tup [tv5, vO (takJ s t m n ps).bt])
          generalize upd H5 sn (.tup [tv5, vO (takJ s t m n ps).bt]) = H7 at g6' e6'
          have g47 := g5.trans g6'
          refine ⟨_, _, SqL.of (g47 _ _ epd4), a0, _, _, SqL.of (g47 _ _ epd4), a1, ⟨by decide, by decide⟩, _, _, SqL.of (g47 _ _ epd4), a1, (by show (0 : Int) < 16; decide), small_lit rfl, fun ln8 hln8 => ?_⟩
          obtain ⟨_, _, _, h4, h5, _⟩ := hpc
          have em : (16 * ((m : Nat) : Int) + ((n : Nat) : Int)) / 16 = ((m : Nat) : Int) := by omega
          have en : (16 * ((m : Nat) : Int) + ((n : Nat) : Int)) % 16 + 1 = ((n + 1 : Nat) : Int) := by omega
          have g8 := same_new hln8 (.tup [.int t, .int ((16 * ((m : Nat) : Int) + ((n : Nat) : Int)) / 16), .int ((16 * ((m : Nat) : Int) + ((n : Nat) : Int)) % 16 + 1)])
          have e8 : upd H7 ln8 (.tup [.int t, .int ((16 * ((m : Nat) : Int) + ((n : Nat) : Int)) / 16), .int ((16 * ((m : Nat) : Int) + ((n : Nat) : Int)) % 16 + 1)]) ln8 = some (.tup [.int t, .int ((m : Nat) : Int), .int ((n + 1 : Nat) : Int)]) := by rw [upd_same, em, en]
          generalize upd H7 ln8 (.tup [.int t, .int ((16 * ((m : Nat) : Int) + ((n : Nat) : Int)) / 16), .int ((16 * ((m : Nat) : Int) + ((n : Nat) : Int)) % 16 + 1)]) = H8 at g8 e8
          have g48 := g47.trans g8
          have g58 := g6'.trans g8
          have b8 : But1 H'' H8 jo := b4.trans (But1.of g48)
          refine ⟨sn, ln8, takJ s t m n ps, tv5, t, m, n + 1, .ref pt, .ref du, _, _, _, ⟨L.fr.trans b8.to2, hJ4.same g48, (fun q dx' tv' s0 e => ?_), g8 _ _ e6', (hT5.imp fun x hx z => by rw [z, ehe4] at hx; cases hx).same g58, iv', by omega, ms', e8, h5, by omega⟩, b8, .inr ⟨pt, du, et, ed, takE s t m n ps, rfl, rfl, hpt4, ?_, g48 _ _ ept4, g58 _ _ edu, hEt4.same g48, ?_⟩, rfl⟩
          · have e2' := joF_inj ((g48 _ _ (ej4.trans ej3)).symm.trans e)
            rw [← e2']
            exact njl3.2
          · exact fun z => by rw [z, ehe4] at hdu; cases hdu
          · exact (hEd.imp fun x hx z => by rw [z, ehe4] at hx; cases hx).same g58
        · have g13 := g12.trans g3
          have eph3 := g3 _ _ e2
          have epd3 := (g2.trans g3) _ _ epd
          refine ⟨ps, ps, SqL.of eph3, SqL.of epd3, ?_⟩
          rw [decide_eq_true (rfl : ps = ps)]
          refine ⟨⟨_, SqL.of eph3⟩, _, eph3, small1 (by rw [List.length_map]; omega), ?_⟩
          have g4 : Same H'' (upd H3 ph (.lst (ps.map V.int ++ [.int 1]))) := g13.put nph
          refine ⟨pd, ps, rfl, hps, (upd_ne npd).trans epd3, fun yes => absurd yes no, fun _ => ?_⟩
          have L4 := L.same g4
          exact ⟨sa, la, s, tv, lt, lm, ln, .non, .non, _, _, _, ⟨L4.fr, L4.hj, L4.nj, L4.st, L4.th, L4.iv, by omega, L4.ms, L4.ls, L4.l1, L4.l2⟩, But1.of g4, .inl ⟨rfl, rfl⟩, rfl⟩
    rintro σ' H2 ⟨sa2, la2, s2, tv2, lt2, lm2, ln2, x, y, x11', x12', x13', L2, b2, hV, rfl⟩
    have ehe2 := b2 _ _ (Ne.symm njh) ehe
    have hP2 := hP.but2 b2.to2 ej ehe
    obtain ⟨dx2, tvj2, jl2, ej2, _⟩ := id L2.hj
    have fin : ∀ p H3, H2 p = none → H3 = upd H2 p (.tup [x, y]) → H3 he = some (.lst (hs.map V.ref)) ∧ Lw a_Joiner H6 (upd H3 he (.lst ((hs ++ [p]).map V.ref))) jo he sa2 la2 s2 tv2 lt2 lm2 ln2 (i + 1) ∧ PrQ he (upd H3 he (.lst ((hs ++ [p]).map V.ref))) (hs ++ [p]) := fun p H3 hp e3 => by
      subst e3
      have g3 := same_new hp (.tup [x, y])
      have e3 := upd_same (H := H2) (a := p) (o := .tup [x, y])
      generalize upd H2 p (.tup [x, y]) = H3 at g3 e3
      have ehe3 := g3 _ _ ehe2
      refine ⟨ehe3, (L2.same g3).put ehe3, fun h hh => ?_⟩
      have ej3 := g3 _ _ ej2
      rcases List.mem_append.mp hh with z | z
      · exact (hP2.but2 ((But1.of g3).to2.trans But2.put) ej2 ehe2) h z
      · have : h = p := List.mem_singleton.mp z
        subst this
        exact ⟨x, y, (upd_ne (fun z => by rw [z, ehe3] at e3; cases e3)).trans e3, hV.but2 ((But1.of g3).to2.trans But2.put) ej2 ehe2⟩
    have hl1 : (hs ++ [he]).length ≤ i + 1 := by rw [List.length_append, List.length_singleton]; omega
    have done : ∀ p, H2 p = none → ∃ xs, (upd H2 p (.tup [x, y])) he = some (.lst xs) ∧ xs.length < sizeLine ∧ ∃ (sa la : Addr) (s : Jn) (tv : V) (lt : Int) (lm ln : Nat) (hs : List Addr) (x8 x9 x10 x11 x12 x13 : Option V), Lw a_Joiner H6 (upd (upd H2 p (.tup [x, y])) he (.lst (xs ++ [.ref p]))) jo he sa la s tv lt lm ln (i + 1) ∧ (upd (upd H2 p (.tup [x, y])) he (.lst (xs ++ [.ref p]))) he = some (.lst (hs.map V.ref)) ∧ hs.length ≤ i + 1 ∧ PrQ he (upd (upd H2 p (.tup [x, y])) he (.lst (xs ++ [.ref p]))) hs ∧ ([some (.ref a), some (.ref jo), some (.int hd), some (.bl (decide (fw = 0))), some (.ref tg), some (.ref sa2), some (.ref la2), some (.ref he), some (.int c), some y, some x, x11', x12', x13', none] : List (Option V)) = [some (.ref a), some (.ref jo), some (.int hd), some (.bl (decide (fw = 0))), some (.ref tg), some (.ref sa), some (.ref la), some (.ref he), x8, x9, x10, x11, x12, x13, none] := fun p hp => by
      obtain ⟨f1, f2, f3⟩ := fin p _ hp rfl
      have em : hs.map V.ref ++ [V.ref p] = (hs ++ [p]).map V.ref := by rw [List.map_append]; rfl
      refine ⟨_, f1, small1 (by rw [List.length_map]; omega), sa2, la2, s2, tv2, lt2, lm2, ln2, hs ++ [p], some (.int c), some y, some x, x11', x12', x13', ?_⟩
      rw [em]
      exact ⟨f2, upd_same, by rw [List.length_append, List.length_singleton]; omega, f3, rfl⟩
    obtain ⟨d, dv1, dv2, dsh⟩ := hV.dv (K := K)
    rcases id hV with ⟨rfl, rfl⟩ | ⟨p, q', es, fs, vs, rfl, rfl, _, _, e1, e2, _⟩
    · refine ⟨d, dv1, dv2, dsh, ⟨_, SqL.of ehe2⟩, small_lit rfl, fun p hp => ?_⟩
      exact done p hp
    · refine ⟨rfl, ⟨_, e1⟩, d, dv1, dv2, dsh, ⟨_, SqL.of ehe2⟩, small_lit rfl, fun p hp => ?_⟩
      exact done p hp
  clear L0 hhe hla hsa sa la
  rintro σ H7 ⟨sa, la, s, tv, lt, lm, ln, hs, x8, x9, x10, x11, x12, x13, L, ehe, hhl, hP, rfl⟩
  refine ⟨⟨_, SqL.of ehe⟩, for_list (xs := hs.map V.ref) (fun i σ H' => (∃ x14 : Option V, σ = [some (.ref a), some (.ref jo), some (.int hd), some (.bl (decide (fw = 0))), some (.ref tg), some (.ref sa), some (.ref la), some (.ref he), x8, x9, x10, x11, x12, x13, x14]) ∧ H' = H7) ⟨⟨_, rfl⟩, rfl⟩ ?_ ?_ ?_⟩
  · rintro i σ H' _ ⟨_, rfl⟩
    exact SqL.of ehe
  · rintro i x σ H' hx ⟨⟨x14, rfl⟩, rfl⟩
    rw [List.getElem?_map] at hx
    obtain ⟨h, hh, rfl⟩ := Option.map_eq_some_iff.mp hx
    obtain ⟨x, y, eh, hV⟩ := hP h (List.mem_of_getElem? hh)
    obtain ⟨d, dv1, dv2, dsh⟩ := hV.dv (K := K)
    exact ⟨_, _, SqT.of eh, rfl, _, _, SqT.of eh, rfl, d, dv1, dv2, dsh, ⟨_, rfl⟩, rfl⟩
  rintro σ H' ⟨⟨x14, rfl⟩, rfl⟩
  exact ⟨jo, s, sa, tv, _, rfl, L.hj, L.st, L.iff, q _⟩
end
theorem all_mk {l : PySem.W.OpenLaw} {w : World} {K : PySem.W.Frag} {h : Heap} {mg : Str → Option Value} {fa : Addr} (X : K.In h) (G : h.Ns mainGlobals mg) (hfa : mg "law" = some (.ref fa))
    {f0 : Addr} {od0 an0 : Option Addr} {sl0 : Array (Option Value)} {oc0 kV0 dc0 pm0 cd0 ct0 : Value}
    {f1 : Addr} {od1 an1 : Option Addr} {sl1 : Array (Option Value)} {oc1 kV1 dc1 pm1 cd1 ct1 : Value}
    {f2 : Addr} {od2 an2 : Option Addr} {sl2 : Array (Option Value)} {oc2 kV2 dc2 pm2 cd2 ct2 : Value}
    {f3 : Addr} {od3 an3 : Option Addr} {sl3 : Array (Option Value)} {oc3 kV3 dc3 pm3 cd3 ct3 : Value}
    {f4 : Addr} {od4 an4 : Option Addr} {sl4 : Array (Option Value)} {oc4 kV4 dc4 pm4 cd4 ct4 : Value}
    {f5 : Addr} {od5 an5 : Option Addr} {sl5 : Array (Option Value)} {oc5 kV5 dc5 pm5 cd5 ct5 : Value}
    {f6 : Addr} {od6 an6 : Option Addr} {sl6 : Array (Option Value)} {oc6 kV6 dc6 pm6 cd6 ct6 : Value}
    {f7 : Addr} {od7 an7 : Option Addr} {sl7 : Array (Option Value)} {oc7 kV7 dc7 pm7 cd7 ct7 : Value}
    {f8 : Addr} {od8 an8 : Option Addr} {sl8 : Array (Option Value)} {oc8 kV8 dc8 pm8 cd8 ct8 : Value}
    {f9 : Addr} {od9 an9 : Option Addr} {sl9 : Array (Option Value)} {oc9 kV9 dc9 pm9 cd9 ct9 : Value}
    {f10 : Addr} {od10 an10 : Option Addr} {sl10 : Array (Option Value)} {oc10 kV10 dc10 pm10 cd10 ct10 : Value}
    {f11 : Addr} {od11 an11 : Option Addr} {sl11 : Array (Option Value)} {oc11 kV11 dc11 pm11 cd11 ct11 : Value}
    {f12 : Addr} {od12 an12 : Option Addr} {sl12 : Array (Option Value)} {oc12 kV12 dc12 pm12 cd12 ct12 : Value}
    {f13 : Addr} {od13 an13 : Option Addr} {sl13 : Array (Option Value)} {oc13 kV13 dc13 pm13 cd13 ct13 : Value}
    {f14 : Addr} {od14 an14 : Option Addr} {sl14 : Array (Option Value)} {oc14 kV14 dc14 pm14 cd14 ct14 : Value}
    {f15 : Addr} {od15 an15 : Option Addr} {sl15 : Array (Option Value)} {oc15 kV15 dc15 pm15 cd15 ct15 : Value}
    {f16 : Addr} {od16 an16 : Option Addr} {sl16 : Array (Option Value)} {oc16 kV16 dc16 pm16 cd16 ct16 : Value}
    {tk0 : Tok}
    {a_NoThing : Addr}
    {a_Joiner : Addr}
    (a0 : PySem.W.nsIn K mainGlobals "is_size" = some (some (.ref f0)))
    (l0 : K.lookup f0 = some ⟨oc0, od0, .func (PySem.W.fnOf "is_size" "is_size" (defArgs s_is_size) (defBody s_is_size) (defScope s_is_size) .none kV0 dc0 pm0 an0 cd0 ct0), sl0⟩) (c0 : PySem.W.codeIn K cd0 "is_size" = true) (k0 : PySem.W.keepIn K (.ref f0) = true)
    (a1 : PySem.W.nsIn K mainGlobals "check_piece" = some (some (.ref f1)))
    (l1 : K.lookup f1 = some ⟨oc1, od1, .func (PySem.W.fnOf "check_piece" "check_piece" (defArgs s_check_piece) (defBody s_check_piece) (defScope s_check_piece) .none kV1 dc1 pm1 an1 cd1 ct1), sl1⟩) (c1 : PySem.W.codeIn K cd1 "check_piece" = true) (k1 : PySem.W.keepIn K (.ref f1) = true)
    (a2 : PySem.W.findIn K (.ref a_Joiner) "__init__" = some (some (.ref f2)))
    (l2 : K.lookup f2 = some ⟨oc2, od2, .func (PySem.W.fnOf "__init__" "Joiner.__init__" (defArgs s_Joiner_init) (defBody s_Joiner_init) (defScope s_Joiner_init) .none kV2 dc2 pm2 an2 cd2 ct2), sl2⟩) (c2 : PySem.W.codeIn K cd2 "Joiner.__init__" = true) (k2 : PySem.W.keepIn K (.ref f2) = true)
    (a3 : PySem.W.findIn K (.ref a_Joiner) "end" = some (some (.ref f3)))
    (l3 : K.lookup f3 = some ⟨oc3, od3, .func (PySem.W.fnOf "end" "Joiner.end" (defArgs s_Joiner_end) (defBody s_Joiner_end) (defScope s_Joiner_end) .none kV3 dc3 pm3 an3 cd3 ct3), sl3⟩) (c3 : PySem.W.codeIn K cd3 "Joiner.end" = true) (k3 : PySem.W.keepIn K (.ref f3) = true)
    (a4 : PySem.W.findIn K (.ref a_Joiner) "is_open" = some (some (.ref f4)))
    (l4 : K.lookup f4 = some ⟨oc4, od4, .func (PySem.W.fnOf "is_open" "Joiner.is_open" (defArgs s_Joiner_is_open) (defBody s_Joiner_is_open) (defScope s_Joiner_is_open) .none kV4 dc4 pm4 an4 cd4 ct4), sl4⟩) (c4 : PySem.W.codeIn K cd4 "Joiner.is_open" = true) (k4 : PySem.W.keepIn K (.ref f4) = true)
    (a5 : PySem.W.findIn K (.ref a_Joiner) "goes_on" = some (some (.ref f5)))
    (l5 : K.lookup f5 = some ⟨oc5, od5, .func (PySem.W.fnOf "goes_on" "Joiner.goes_on" (defArgs s_Joiner_goes_on) (defBody s_Joiner_goes_on) (defScope s_Joiner_goes_on) .none kV5 dc5 pm5 an5 cd5 ct5), sl5⟩) (c5 : PySem.W.codeIn K cd5 "Joiner.goes_on" = true) (k5 : PySem.W.keepIn K (.ref f5) = true)
    (a6 : PySem.W.findIn K (.ref a_Joiner) "add_piece" = some (some (.ref f6)))
    (l6 : K.lookup f6 = some ⟨oc6, od6, .func (PySem.W.fnOf "add_piece" "Joiner.add_piece" (defArgs s_Joiner_add_piece) (defBody s_Joiner_add_piece) (defScope s_Joiner_add_piece) .none kV6 dc6 pm6 an6 cd6 ct6), sl6⟩) (c6 : PySem.W.codeIn K cd6 "Joiner.add_piece" = true) (k6 : PySem.W.keepIn K (.ref f6) = true)
    (a7 : PySem.W.findIn K (.ref a_Joiner) "begin_thing" = some (some (.ref f7)))
    (l7 : K.lookup f7 = some ⟨oc7, od7, .func (PySem.W.fnOf "begin_thing" "Joiner.begin_thing" (defArgs s_Joiner_begin_thing) (defBody s_Joiner_begin_thing) (defScope s_Joiner_begin_thing) .none kV7 dc7 pm7 an7 cd7 ct7), sl7⟩) (c7 : PySem.W.codeIn K cd7 "Joiner.begin_thing" = true) (k7 : PySem.W.keepIn K (.ref f7) = true)
    (a8 : PySem.W.findIn K (.ref a_Joiner) "break_off" = some (some (.ref f8)))
    (l8 : K.lookup f8 = some ⟨oc8, od8, .func (PySem.W.fnOf "break_off" "Joiner.break_off" (defArgs s_Joiner_break_off) (defBody s_Joiner_break_off) (defScope s_Joiner_break_off) .none kV8 dc8 pm8 an8 cd8 ct8), sl8⟩) (c8 : PySem.W.codeIn K cd8 "Joiner.break_off" = true) (k8 : PySem.W.keepIn K (.ref f8) = true)
    (a9 : PySem.W.findIn K (.ref a_Joiner) "take" = some (some (.ref f9)))
    (l9 : K.lookup f9 = some ⟨oc9, od9, .func (PySem.W.fnOf "take" "Joiner.take" (defArgs s_Joiner_take) (defBody s_Joiner_take) (defScope s_Joiner_take) .none kV9 dc9 pm9 an9 cd9 ct9), sl9⟩) (c9 : PySem.W.codeIn K cd9 "Joiner.take" = true) (k9 : PySem.W.keepIn K (.ref f9) = true)
    (a10 : PySem.W.nsIn K mainGlobals "_law_mix" = some (some (.ref f10)))
    (l10 : K.lookup f10 = some ⟨oc10, od10, .func (PySem.W.fnOf "_law_mix" "_law_mix" (defArgs s__law_mix) (defBody s__law_mix) (defScope s__law_mix) .none kV10 dc10 pm10 an10 cd10 ct10), sl10⟩) (c10 : PySem.W.codeIn K cd10 "_law_mix" = true) (k10 : PySem.W.keepIn K (.ref f10) = true)
    (a11 : PySem.W.nsIn K mainGlobals "_law_is_piece" = some (some (.ref f11)))
    (l11 : K.lookup f11 = some ⟨oc11, od11, .func (PySem.W.fnOf "_law_is_piece" "_law_is_piece" (defArgs s__law_is_piece) (defBody s__law_is_piece) (defScope s__law_is_piece) .none kV11 dc11 pm11 an11 cd11 ct11), sl11⟩) (c11 : PySem.W.codeIn K cd11 "_law_is_piece" = true) (k11 : PySem.W.keepIn K (.ref f11) = true)
    (a12 : PySem.W.nsIn K mainGlobals "_law_told" = some (some (.ref f12)))
    (l12 : K.lookup f12 = some ⟨oc12, od12, .func (PySem.W.fnOf "_law_told" "_law_told" (defArgs s__law_told) (defBody s__law_told) (defScope s__law_told) .none kV12 dc12 pm12 an12 cd12 ct12), sl12⟩) (c12 : PySem.W.codeIn K cd12 "_law_told" = true) (k12 : PySem.W.keepIn K (.ref f12) = true)
    (a13 : PySem.W.nsIn K mainGlobals "_law_is_asked_well" = some (some (.ref f13)))
    (l13 : K.lookup f13 = some ⟨oc13, od13, .func (PySem.W.fnOf "_law_is_asked_well" "_law_is_asked_well" (defArgs s__law_is_asked_well) (defBody s__law_is_asked_well) (defScope s__law_is_asked_well) .none kV13 dc13 pm13 an13 cd13 ct13), sl13⟩) (c13 : PySem.W.codeIn K cd13 "_law_is_asked_well" = true) (k13 : PySem.W.keepIn K (.ref f13) = true)
    (a14 : PySem.W.nsIn K mainGlobals "_law_taken" = some (some (.ref f14)))
    (l14 : K.lookup f14 = some ⟨oc14, od14, .func (PySem.W.fnOf "_law_taken" "_law_taken" (defArgs s__law_taken) (defBody s__law_taken) (defScope s__law_taken) .none kV14 dc14 pm14 an14 cd14 ct14), sl14⟩) (c14 : PySem.W.codeIn K cd14 "_law_taken" = true) (k14 : PySem.W.keepIn K (.ref f14) = true)
    (a15 : PySem.W.nsIn K mainGlobals "_law_piece" = some (some (.ref f15)))
    (l15 : K.lookup f15 = some ⟨oc15, od15, .func (PySem.W.fnOf "_law_piece" "_law_piece" (defArgs s__law_piece) (defBody s__law_piece) (defScope s__law_piece) .none kV15 dc15 pm15 an15 cd15 ct15), sl15⟩) (c15 : PySem.W.codeIn K cd15 "_law_piece" = true) (k15 : PySem.W.keepIn K (.ref f15) = true)
    (a16 : PySem.W.nsIn K mainGlobals "law" = some (some (.ref f16)))
    (l16 : K.lookup f16 = some ⟨oc16, od16, .func (PySem.W.fnOf "law" "law" (defArgs s_law) (defBody s_law) (defScope s_law) .none kV16 dc16 pm16 an16 cd16 ct16), sl16⟩) (c16 : PySem.W.codeIn K cd16 "law" = true) (k16 : PySem.W.keepIn K (.ref f16) = true)
    (z0 : PySem.W.nsIn K mainGlobals "PIECE_BYTES" = some (some (.int 5 tk0)))
    (z1 : PySem.W.nsIn K mainGlobals "len" = some none)
    (z2 : PySem.W.nsIn K mainGlobals "NoThing" = some (some (.ref a_NoThing)))
    (z3 : PySem.W.nsIn K mainGlobals "Joiner" = some (some (.ref a_Joiner)))
    (z4 : PySem.W.nsIn K mainGlobals "list" = some none)
    (z5 : PySem.W.nsIn K mainGlobals "isinstance" = some none)
    (z6 : PySem.W.nsIn K mainGlobals "bool" = some none)
    (z7 : PySem.W.nsIn K mainGlobals "max" = some none)
    (z8 : PySem.W.nsIn K mainGlobals "range" = some none)
    (z9 : PySem.W.excIn K a_NoThing [.type "ValueError", .type "Exception", .type "BaseException", .type "object"] "ValueError.__new__" = true)
    (z10 : Cls K a_Joiner)
    (z11 : NoAttr K a_Joiner "opened")
    (z12 : NoAttr K a_Joiner "tag")
    (z13 : NoAttr K a_Joiner "many")
    (z14 : NoAttr K a_Joiner "had")
    (z15 : NoAttr K a_Joiner "joined")
    (z16 : NoAttr K a_Joiner "broken_tag")
    (z17 : Meth K a_Joiner "end" f3)
    (z18 : Meth K a_Joiner "add_piece" f6)
    (z19 : Meth K a_Joiner "begin_thing" f7)
    (z20 : Meth K a_Joiner "goes_on" f5)
    (z21 : Meth K a_Joiner "break_off" f8)
    (z22 : Meth K a_Joiner "take" f9)
    (z23 : PySem.W.exmOne K (.ref a_NoThing) (.ref a_NoThing) = some true)
    (z24 : Meth K a_Joiner "is_open" f4)
    (z25 : Mk K a_Joiner f2)
    : ∃ fd : FuncData, (∀ (s : Shared) (v : Value), BindsTo s fd ⟨[v], []⟩ [("_law_script", v)]) ∧ ∀ base : Heap, K.In base → base.Ns mainGlobals mg → FnOk l.prog w K mg base CX0 6 fa fd ["_law_script"] (spLaw K) := by
  have e := hfa.symm.trans (PySem.W.mg_of X G a16)
  cases e
  have F_is_size := fun_mk (st := s_is_size) l0 c0 k0
  have b_is_size := F_is_size.binds (ps := ["size", "many", "number"]) fun _ _ _ _ _ _ us hl => match us, hl with | [_, _, _], _ => rfl
  have m_is_size := PySem.W.mg_of X G a0
  have F_check_piece := fun_mk (st := s_check_piece) l1 c1 k1
  have b_check_piece := F_check_piece.binds (ps := ["piece"]) fun _ _ _ _ _ _ us hl => match us, hl with | [_], _ => rfl
  have m_check_piece := PySem.W.mg_of X G a1
  have F_Joiner_init := fun_mk (st := s_Joiner_init) l2 c2 k2
  have b_Joiner_init := F_Joiner_init.binds (ps := ["self"]) fun _ _ _ _ _ _ us hl => match us, hl with | [_], _ => rfl
  have F_Joiner_end := fun_mk (st := s_Joiner_end) l3 c3 k3
  have b_Joiner_end := F_Joiner_end.binds (ps := ["self"]) fun _ _ _ _ _ _ us hl => match us, hl with | [_], _ => rfl
  have F_Joiner_is_open := fun_mk (st := s_Joiner_is_open) l4 c4 k4
  have b_Joiner_is_open := F_Joiner_is_open.binds (ps := ["self"]) fun _ _ _ _ _ _ us hl => match us, hl with | [_], _ => rfl
  have F_Joiner_goes_on := fun_mk (st := s_Joiner_goes_on) l5 c5 k5
  have b_Joiner_goes_on := F_Joiner_goes_on.binds (ps := ["self", "piece"]) fun _ _ _ _ _ _ us hl => match us, hl with | [_, _], _ => rfl
  have F_Joiner_add_piece := fun_mk (st := s_Joiner_add_piece) l6 c6 k6
  have b_Joiner_add_piece := F_Joiner_add_piece.binds (ps := ["self", "piece"]) fun _ _ _ _ _ _ us hl => match us, hl with | [_, _], _ => rfl
  have F_Joiner_begin_thing := fun_mk (st := s_Joiner_begin_thing) l7 c7 k7
  have b_Joiner_begin_thing := F_Joiner_begin_thing.binds (ps := ["self", "piece"]) fun _ _ _ _ _ _ us hl => match us, hl with | [_, _], _ => rfl
  have F_Joiner_break_off := fun_mk (st := s_Joiner_break_off) l8 c8 k8
  have b_Joiner_break_off := F_Joiner_break_off.binds (ps := ["self", "tag"]) fun _ _ _ _ _ _ us hl => match us, hl with | [_, _], _ => rfl
  have F_Joiner_take := fun_mk (st := s_Joiner_take) l9 c9 k9
  have b_Joiner_take := F_Joiner_take.binds (ps := ["self", "piece"]) fun _ _ _ _ _ _ us hl => match us, hl with | [_, _], _ => rfl
  have F__law_mix := fun_mk (st := s__law_mix) l10 c10 k10
  have b__law_mix := F__law_mix.binds (ps := ["_law_cell", "_law_k", "_law_many"]) fun _ _ _ _ _ _ us hl => match us, hl with | [_, _, _], _ => rfl
  have m__law_mix := PySem.W.mg_of X G a10
  have F__law_is_piece := fun_mk (st := s__law_is_piece) l11 c11 k11
  have b__law_is_piece := F__law_is_piece.binds (ps := ["_law_data"]) fun _ _ _ _ _ _ us hl => match us, hl with | [_], _ => rfl
  have m__law_is_piece := PySem.W.mg_of X G a11
  have F__law_told := fun_mk (st := s__law_told) l12 c12 k12
  have b__law_told := F__law_told.binds (ps := ["_law_joiner", "_law_data"]) fun _ _ _ _ _ _ us hl => match us, hl with | [_, _], _ => rfl
  have m__law_told := PySem.W.mg_of X G a12
  have F__law_is_asked_well := fun_mk (st := s__law_is_asked_well) l13 c13 k13
  have b__law_is_asked_well := F__law_is_asked_well.binds (ps := ["_law_joiner", "_law_state"]) fun _ _ _ _ _ _ us hl => match us, hl with | [_, _], _ => rfl
  have m__law_is_asked_well := PySem.W.mg_of X G a13
  have F__law_taken := fun_mk (st := s__law_taken) l14 c14 k14
  have b__law_taken := F__law_taken.binds (ps := ["_law_state", "_law_data"]) fun _ _ _ _ _ _ us hl => match us, hl with | [_, _], _ => rfl
  have m__law_taken := PySem.W.mg_of X G a14
  have F__law_piece := fun_mk (st := s__law_piece) l15 c15 k15
  have b__law_piece := F__law_piece.binds (ps := ["_law_cell", "_law_last", "_law_few", "_law_tags"]) fun _ _ _ _ _ _ us hl => match us, hl with | [_, _, _, _], _ => rfl
  have m__law_piece := PySem.W.mg_of X G a15
  have F_law := fun_mk (st := s_law) l16 c16 k16
  have b_law := F_law.binds (ps := ["_law_script"]) fun _ _ _ _ _ _ us hl => match us, hl with | [_], _ => rfl
  have m_law := PySem.W.mg_of X G a16
  have m_PIECE_BYTES := PySem.W.mg_of X G z0
  have m_len := PySem.W.mg_none_of X G z1
  have m_NoThing := PySem.W.mg_of X G z2
  have m_Joiner := PySem.W.mg_of X G z3
  have m_list := PySem.W.mg_none_of X G z4
  have m_isinstance := PySem.W.mg_none_of X G z5
  have m_bool := PySem.W.mg_none_of X G z6
  have m_max := PySem.W.mg_none_of X G z7
  have m_range := PySem.W.mg_none_of X G z8
  refine ⟨PySem.W.fnOf "law" "law" (defArgs s_law) (defBody s_law) (defScope s_law) .none kV16 dc16 pm16 an16 cd16 ct16, fun s v => .of_eq rfl, fun base _ _ => ?_⟩
  have G_is_size := ok_is_size (P := l.prog) (w := w) (mg := mg) (base := base) F_is_size m_PIECE_BYTES
  have G_check_piece := ok_check_piece (P := l.prog) (w := w) (mg := mg) (base := base) F_check_piece m_len m_NoThing z9 G_is_size b_is_size F_is_size.kp m_is_size
  have G_Joiner_init := ok_Joiner_init (P := l.prog) (w := w) (mg := mg) (base := base) F_Joiner_init z10 z11 z12 z13 z14 z15 z16 m_Joiner
  have G_Joiner_end := ok_Joiner_end (P := l.prog) (w := w) (mg := mg) (base := base) F_Joiner_end z10 z11 z16 z12 m_Joiner
  have G_Joiner_is_open := ok_Joiner_is_open (P := l.prog) (w := w) (mg := mg) (base := base) F_Joiner_is_open z10 z11 m_Joiner
  have G_Joiner_goes_on := ok_Joiner_goes_on (P := l.prog) (w := w) (mg := mg) (base := base) F_Joiner_goes_on z10 z13 z14 z12 z11 m_Joiner
  have G_Joiner_add_piece := ok_Joiner_add_piece (P := l.prog) (w := w) (mg := mg) (base := base) F_Joiner_add_piece z10 z15 z14 z13 z11 m_list z12 m_Joiner
  have G_Joiner_begin_thing := ok_Joiner_begin_thing (P := l.prog) (w := w) (mg := mg) (base := base) F_Joiner_begin_thing z10 z17 z16 z11 z12 z13 z14 z15 z18 m_Joiner G_Joiner_end b_Joiner_end G_Joiner_add_piece b_Joiner_add_piece
  have G_Joiner_break_off := ok_Joiner_break_off (P := l.prog) (w := w) (mg := mg) (base := base) F_Joiner_break_off z10 z17 z16 m_Joiner G_Joiner_end b_Joiner_end
  have G_Joiner_take := ok_Joiner_take (P := l.prog) (w := w) (mg := mg) (base := base) F_Joiner_take z10 z19 z20 z18 z21 m_Joiner m_NoThing G_check_piece b_check_piece F_check_piece.kp m_check_piece G_Joiner_begin_thing b_Joiner_begin_thing G_Joiner_goes_on b_Joiner_goes_on G_Joiner_add_piece b_Joiner_add_piece G_Joiner_break_off b_Joiner_break_off
  have G__law_mix := ok__law_mix (P := l.prog) (w := w) (mg := mg) (base := base) F__law_mix 
  have G__law_is_piece := ok__law_is_piece (P := l.prog) (w := w) (mg := mg) (base := base) F__law_is_piece m_len
  have G__law_told := ok__law_told (P := l.prog) (w := w) (mg := mg) (base := base) F__law_told z10 z22 m_NoThing m_Joiner z23 G_Joiner_take b_Joiner_take
  have G__law_is_asked_well := ok__law_is_asked_well (P := l.prog) (w := w) (mg := mg) (base := base) F__law_is_asked_well z10 z24 m_isinstance m_bool m_Joiner G_Joiner_is_open b_Joiner_is_open
  have G__law_taken := ok__law_taken (P := l.prog) (w := w) (mg := mg) (base := base) F__law_taken 
  have G__law_piece := ok__law_piece (P := l.prog) (w := w) (mg := mg) (base := base) F__law_piece m_max m_range G__law_mix b__law_mix F__law_mix.kp m__law_mix
  exact ok_law F_law m_Joiner z25 m_len m_range z10 z17 m_list m_isinstance m_NoThing G_Joiner_init b_Joiner_init G__law_mix b__law_mix F__law_mix.kp m__law_mix G__law_is_asked_well b__law_is_asked_well F__law_is_asked_well.kp m__law_is_asked_well G_Joiner_end b_Joiner_end G__law_piece b__law_piece F__law_piece.kp m__law_piece G__law_told b__law_told F__law_told.kp m__law_told G__law_is_piece b__law_is_piece F__law_is_piece.kp m__law_is_piece G__law_taken b__law_taken F__law_taken.kp m__law_taken
theorem walk {l : PySem.W.OpenLaw} {q : Program} {loose : List Str} {XP : (Str → Option Value) → Heap → Prop} {YP : World → Heap → Prop} {d : DefRec} {K : Params → PySem.W.Frag} (hn : l.most = some 63) (hdf : d.params.defaults = [])
    (hY : ∀ (w : World) (h : Heap), YP w h → (K w.params).In h)
    (F : ∀ (w : World) (mg : Str → Option Value) (fa : Addr) (h : Heap), (K w.params).In h → h.Ns mainGlobals mg → mg d.name = some (.ref fa) →
      ∃ fd : FuncData, (∀ (s : Shared) (u : Value), BindsTo s fd ⟨[u], []⟩ [("_law_script", u)]) ∧ ∀ base : Heap, (K w.params).In base → base.Ns mainGlobals mg → FnOk l.prog w (K w.params) mg base CX0 6 fa fd ["_law_script"] (spLaw (K w.params))) :
    PySem.W.WalkO q loose XP YP l.row.toRowW d [] (fun f vs => PySem.call f vs) :=
  L2.walk_of (n := 63) (k := 6) (x := "_law_script") (CX := fun _ => CX0) (sp := fun w => spLaw (K w.params)) hn (by decide) hdf ⟨rfl, by decide, by decide⟩ hY F (fun _ _ a ns hl _ hS => ⟨a, ns, rfl, hS, hl, fun _ => rfl⟩) fun _ _ _ _ _ z => z
end My
open PySem PySem.W PyProof.Rows
set_option maxRecDepth 100000 in
set_option maxHeartbeats 0 in
theorem PySem.Challenge.cw_bitrail_k72_a_joiner_by_deeds_holds : PySem.Challenge.rw_bitrail_k72_a_joiner_by_deeds.Holds := by
  w_on; o_law; k_head; (case hw => w_witness2)
  k_fill
  refine My.walk (l := PySem.Challenge.rw_bitrail_k72_a_joiner_by_deeds) rfl rfl (fun w h Y => PySem.W.kIn_of Y) ?F
  case F =>
    intro w mg fa h KX G hmg
    refine' My.all_mk KX G hmg ?a0 ?l0 ?c0 ?k0 ?a1 ?l1 ?c1 ?k1 ?a2 ?l2 ?c2 ?k2 ?a3 ?l3 ?c3 ?k3 ?a4 ?l4 ?c4 ?k4 ?a5 ?l5 ?c5 ?k5 ?a6 ?l6 ?c6 ?k6 ?a7 ?l7 ?c7 ?k7 ?a8 ?l8 ?c8 ?k8 ?a9 ?l9 ?c9 ?k9 ?a10 ?l10 ?c10 ?k10 ?a11 ?l11 ?c11 ?k11 ?a12 ?l12 ?c12 ?k12 ?a13 ?l13 ?c13 ?k13 ?a14 ?l14 ?c14 ?k14 ?a15 ?l15 ?c15 ?k15 ?a16 ?l16 ?c16 ?k16 ?z0 ?z1 ?z2 ?z3 ?z4 ?z5 ?z6 ?z7 ?z8 ?z9 ?z10 ?z11 ?z12 ?z13 ?z14 ?z15 ?z16 ?z17 ?z18 ?z19 ?z20 ?z21 ?z22 ?z23 ?z24 ?z25
    (case a0 => k_is)
    (case l0 => k_is)
    (case c0 => k_is)
    (case k0 => k_is)
    (case a1 => k_is)
    (case l1 => k_is)
    (case c1 => k_is)
    (case k1 => k_is)
    (case a10 => k_is)
    (case l10 => k_is)
    (case c10 => k_is)
    (case k10 => k_is)
    (case a11 => k_is)
    (case l11 => k_is)
    (case c11 => k_is)
    (case k11 => k_is)
    (case a12 => k_is)
    (case l12 => k_is)
    (case c12 => k_is)
    (case k12 => k_is)
    (case a13 => k_is)
    (case l13 => k_is)
    (case c13 => k_is)
    (case k13 => k_is)
    (case a14 => k_is)
    (case l14 => k_is)
    (case c14 => k_is)
    (case k14 => k_is)
    (case a15 => k_is)
    (case l15 => k_is)
    (case c15 => k_is)
    (case k15 => k_is)
    (case a16 => k_is)
    (case l16 => k_is)
    (case c16 => k_is)
    (case k16 => k_is)
    (case z0 => k_is)
    (case z1 => k_is)
    (case z2 => k_is)
    (case z3 => k_is)
    (case z4 => k_is)
    (case z5 => k_is)
    (case z6 => k_is)
    (case z7 => k_is)
    (case z8 => k_is)
    (case a2 => k_is)
    (case l2 => k_is)
    (case c2 => k_is)
    (case k2 => k_is)
    (case a3 => k_is)
    (case l3 => k_is)
    (case c3 => k_is)
    (case k3 => k_is)
    (case a4 => k_is)
    (case l4 => k_is)
    (case c4 => k_is)
    (case k4 => k_is)
    (case a5 => k_is)
    (case l5 => k_is)
    (case c5 => k_is)
    (case k5 => k_is)
    (case a6 => k_is)
    (case l6 => k_is)
    (case c6 => k_is)
    (case k6 => k_is)
    (case a7 => k_is)
    (case l7 => k_is)
    (case c7 => k_is)
    (case k7 => k_is)
    (case a8 => k_is)
    (case l8 => k_is)
    (case c8 => k_is)
    (case k8 => k_is)
    (case a9 => k_is)
    (case l9 => k_is)
    (case c9 => k_is)
    (case k9 => k_is)
    (case z9 => k_exc)
    (case z10 => (refine ⟨?_, ?_, ?_, ?_⟩ <;> k_is))
    (case z11 => (show PySem.W.findIn _ _ _ = _; k_is))
    (case z12 => (show PySem.W.findIn _ _ _ = _; k_is))
    (case z13 => (show PySem.W.findIn _ _ _ = _; k_is))
    (case z14 => (show PySem.W.findIn _ _ _ = _; k_is))
    (case z15 => (show PySem.W.findIn _ _ _ = _; k_is))
    (case z16 => (show PySem.W.findIn _ _ _ = _; k_is))
    (case z17 => (refine ⟨?_, ?_, ?_⟩ <;> k_is))
    (case z18 => (refine ⟨?_, ?_, ?_⟩ <;> k_is))
    (case z19 => (refine ⟨?_, ?_, ?_⟩ <;> k_is))
    (case z20 => (refine ⟨?_, ?_, ?_⟩ <;> k_is))
    (case z21 => (refine ⟨?_, ?_, ?_⟩ <;> k_is))
    (case z22 => (refine ⟨?_, ?_, ?_⟩ <;> k_is))
    (case z23 => kts_exm)
    (case z24 => (refine ⟨?_, ?_, ?_⟩ <;> k_is))
    (case z25 => (refine ⟨?_, ?_, ?_, ?_⟩ <;> k_is))
#print axioms PySem.Challenge.cw_bitrail_k72_a_joiner_by_deeds_holds
