import PyProof.Rows.All
import Wide.All
import OpenK.AllK
import Wide.FinOn
import PyProof.EqAt
import PyProof.EqKinds
import PyProof.TupleCall
import Lean
import PySem.Challenge.RW_bitrail_k40_posts_and_frames_refused
set_option Elab.async false
set_option linter.all false
set_option maxRecDepth 100000
namespace L2
open PySem PySem.Spec PyProof.Rows
abbrev Key := Sum Int Str
def keyIs : Key → Value → Bool
  | .inl k, v => Value.isInt k v
  | .inr x, v => Value.isStrOf x v
def keyH (w : World) : Key → Int
  | .inl k => hashInt k
  | .inr x => hashStr w x
theorem keyIs_shape : ∀ {k : Key} {v : Value}, keyIs k v = true → (∃ i t, k = Sum.inl i ∧ v = Value.int i t) ∨ (∃ x t, k = Sum.inr x ∧ v = Value.str x t)
  | .inl i, v, h => by
    obtain ⟨t, e⟩ := Value.isInt_shape (k := i) (v := v) h
    exact .inl ⟨i, t, rfl, e⟩
  | .inr x, v, h => by
    obtain ⟨t, e⟩ := Value.isStrOf_shape (x := x) (v := v) h
    exact .inr ⟨x, t, rfl, e⟩
theorem key_ll (a b : Int) : decide ((Sum.inl a : Key) = Sum.inl b) = (a == b) := by
  by_cases e : a = b
  · subst e; simp
  · have h : ¬ (Sum.inl a : Key) = Sum.inl b := fun q => e (Sum.inl.inj q)
    rw [decide_eq_false h]
    exact (beq_eq_false_iff_ne.mpr e).symm
theorem key_rr (a b : Str) : decide ((Sum.inr a : Key) = Sum.inr b) = decide (a = b) := by
  by_cases e : a = b
  · subst e; simp
  · have h : ¬ (Sum.inr a : Key) = Sum.inr b := fun q => e (Sum.inr.inj q)
    rw [decide_eq_false h, decide_eq_false e]
theorem key_lr (a : Int) (b : Str) : decide ((Sum.inl a : Key) = Sum.inr b) = false := decide_eq_false (fun q => nomatch q)
theorem key_rl (a : Str) (b : Int) : decide ((Sum.inr a : Key) = Sum.inl b) = false := decide_eq_false (fun q => nomatch q)
def mixKind (prog : Program) (w : World) : PySem.KeyKind prog w Key where
  is := keyIs
  hash := keyH w
  inj := fun v a b ha hb => by
    rcases keyIs_shape ha with ⟨i, t, rfl, rfl⟩ | ⟨x, t, rfl, rfl⟩
    · rcases keyIs_shape hb with ⟨j, u, rfl, e⟩ | ⟨y, u, rfl, e⟩
      · injection e with e1 _; rw [e1]
      · exact nomatch e
    · rcases keyIs_shape hb with ⟨j, u, rfl, e⟩ | ⟨y, u, rfl, e⟩
      · exact nomatch e
      · injection e with e1 _; rw [e1]
  byValue := fun k v h => by
    rcases keyIs_shape h with ⟨i, t, rfl, rfl⟩ | ⟨x, t, rfl, rfl⟩ <;> rfl
  pyHash := fun hv h => by
    rcases keyIs_shape hv with ⟨i, t, rfl, rfl⟩ | ⟨x, t, rfl, rfl⟩
    · exact wpAny_pyHash_int h
    · exact wpAny_pyHash_str h
  eqBool := fun hu hv h => by
    rcases keyIs_shape hu with ⟨i, t, rfl, rfl⟩ | ⟨x, t, rfl, rfl⟩
    · rcases keyIs_shape hv with ⟨j, u, rfl, rfl⟩ | ⟨y, u, rfl, rfl⟩
      · rw [key_ll] at h; exact wpAny_eqBool_int h
      · rw [key_lr] at h; exact SeqAt.EqAt.int_str i t y u _ _ _ _ h
    · rcases keyIs_shape hv with ⟨j, u, rfl, rfl⟩ | ⟨y, u, rfl, rfl⟩
      · rw [key_rl] at h; exact SeqAt.EqAt.str_int x t j u _ _ _ _ h
      · rw [key_rr] at h; exact wpAny_eqBool_str h
  «strs» := fun k x t v h => by
    rcases keyIs_shape h with ⟨i, u, rfl, e⟩ | ⟨y, u, rfl, e⟩
    · exact nomatch e
    · injection e with e1 _
      subst e1
      cases v <;> rfl
end L2
namespace L2
open PySem PySem.Spec PyProof.Rows
inductive V where
  | non | bl (b : Bool) | int (i : Int) | str (x : Str) | byt (b : Array UInt8) | flt (b : UInt64) | ref (a : Addr) | ty (n : String)
  deriving DecidableEq
def RelV : V → Value → Prop
  | .non, u => u = Value.none
  | .bl b, u => u = Value.bool b
  | .int i, u => ∃ t, u = Value.int i t
  | .str x, u => ∃ t, u = Value.str x t
  | .byt b, u => ∃ t, u = Value.bytes b t
  | .flt b, u => ∃ t, u = Value.float b t
  | .ref a, u => u = Value.ref a
  | .ty n, u => u = Value.type n
abbrev Vals : List V → List Value → Prop := Paired RelV
theorem Vals.length {xs : List V} {us : List Value} (r : Vals xs us) : xs.length = us.length := Paired.length r
theorem Vals.get : ∀ {xs : List V} {us : List Value} {i : Nat} {x : V}, Vals xs us → xs[i]? = some x → ∃ u, us[i]? = some u ∧ RelV x u
  | _, _, _, _, .nil, e => by simp at e
  | _, _, 0, _, .cons r _, e => by simp at e; subst e; exact ⟨_, rfl, r⟩
  | _, _, i + 1, x, .cons _ t, e => by
    obtain ⟨u, h1, h2⟩ := Vals.get (i := i) (x := x) t (by simpa using e)
    exact ⟨u, by simpa using h1, h2⟩
theorem Vals.set {x : V} {u : Value} (r : RelV x u) : ∀ {xs : List V} {us : List Value} (i : Nat), Vals xs us → Vals (xs.set i x) (us.set i u)
  | _, _, _, .nil => .nil
  | _, _, 0, .cons _ t => .cons r t
  | _, _, i + 1, .cons q t => .cons q (Vals.set r i t)
theorem Vals.append : ∀ {xs ys : List V} {us ws : List Value}, Vals xs us → Vals ys ws → Vals (xs ++ ys) (us ++ ws)
  | _, _, _, _, .nil, s => s
  | _, _, _, _, .cons r t, s => .cons r (Vals.append t s)
theorem Vals.take : ∀ {xs : List V} {us : List Value} (n : Nat), Vals xs us → Vals (xs.take n) (us.take n)
  | _, _, 0, _ => .nil
  | _, _, _ + 1, .nil => .nil
  | _, _, n + 1, .cons r t => .cons r (Vals.take n t)
theorem Vals.drop : ∀ {xs : List V} {us : List Value} (n : Nat), Vals xs us → Vals (xs.drop n) (us.drop n)
  | _, _, 0, r => r
  | _, _, _ + 1, .nil => .nil
  | _, _, n + 1, .cons _ t => Vals.drop n t
def RelO : Option V → Option Value → Prop
  | some v, some u => RelV v u
  | none, none => True
  | _, _ => False
def KV {κ : Type} : List (κ × V) → List (κ × Value) → Prop := Paired fun (p : κ × V) (q : κ × Value) => p.1 = q.1 ∧ RelV p.2 q.2
def kV : Key → V
  | .inl i => .int i
  | .inr x => .str x
inductive HO where
    | lst (xs : List V)
    | tup (xs : List V)
    | dK (kvs : List (Key × V)) | dT (kvs : List (List Key × V))
    | set (S : Int → Bool) (n : Nat)
    | ins (C dx : Addr) (fs : List (Str × V))
    | own (x : Addr)
    | xd (fs : List (Str × V))
    | met (f x : Addr)
    | rng (lo hi : Int)
    | frz (o : Obj) (u : HO)
    | tbl (ps : Array Value)
    | ext (φ : Heap → Prop)
abbrev Hp := Addr → Option HO
def upd (H : Hp) (a : Addr) (o : HO) : Hp := fun b => if b = a then some o else H b
theorem upd_same {H : Hp} {a : Addr} {o : HO} : upd H a o a = some o := by unfold upd; rw [if_pos rfl]
theorem upd_ne {H : Hp} {a b : Addr} {o : HO} (h : b ≠ a) : upd H a o b = H b := by unfold upd; rw [if_neg h]
theorem ne_of_none {H : Hp} {a b : Addr} {o : HO} (h : H a = some o) (h' : H b = none) : a ≠ b := by
  intro e; subst e; rw [h] at h'; cases h'
section
variable (P : Program) (w : World)
def ObjOk (H : Hp) (h : Heap) (a : Addr) : HO → Prop
  | .lst xs => xs.length ≤ sizeLine ∧ ∃ (its : List Value) (n : Nat), Vals xs its ∧ h.get? a = some { cls := .type "list", data := .seq its.toArray n }
  | .tup xs => xs.length ≤ sizeLine ∧ ∃ its : List Value, Vals xs its ∧ IsTup h a its.toArray
  | .dK kvs => kvs.length ≤ sizeLine ∧ (a == sysModules) = false ∧ ∃ vs, KV kvs vs ∧ h.DictOf (mixKind P w) a vs
  | .dT kvs => kvs.length ≤ sizeLine ∧ (a == sysModules) = false ∧ ∃ xs : List (List Key × Addr × Value),
      Paired (fun (p : List Key × V) (q : List Key × Addr × Value) => p.1 = q.1 ∧ H q.2.1 = some (.tup (p.1.map kV)) ∧ RelV p.2 q.2.2) kvs xs ∧
      ∃ o es ep, h.get? a = some o ∧ o.ExactDict ∧ o.data = .dict es ep ∧ es.toList = xs.map (entryOfKey (tupleKind (mixKind P w))) ∧ (xs.map (·.1)).Nodup
  | .set S n => h.SetOf (intKind P w) a S n
  | .ins C dx fs => H dx = some (.own a) ∧ fs.length ≤ 1000 ∧ dx ≠ a ∧ h.get? a = some (PySem.W.instObj C dx) ∧
      ∃ mA, h.Ns1 dx mA ∧ (∀ f, RelO (fs.lookup f) (mA f)) ∧ PySem.Within mA (fs.map (·.1))
  | .own _ => ∃ o, h.get? a = some o
  | .xd fs => ∃ mA, h.Ns1 a mA ∧ ∀ f, RelO (fs.lookup f) (mA f)
  | .rng lo hi => ∃ t u v, h.get? a = some { cls := .type "range", data := .fields #[.int lo t, .int hi u, .int 1 v] }
  | .frz o u => h.get? a = some o ∧ ObjOk H h a u
  | .tbl ps => h.get? a = some { cls := .none, data := .fields ps }
  | .met f x => h.get? a = some (PySem.W.methodObj (.ref f) (.ref x))
  | .ext φ => φ h ∧ (∃ o, h.get? a = some o) ∧ ∀ h1 h2 : Heap, φ h1 → (∀ o, h1.get? a = some o → h2.get? a = some o) → φ h2
def HOk (H : Hp) (h : Heap) : Prop := ∀ a o, H a = some o → ObjOk P w H h a o
end
section
variable {P : Program} {w : World} {H H' : Hp} {h h' : Heap} {a : Addr} {o : HO}
theorem ObjOk.lt (x : ObjOk P w H h a o) : a < h.objs.size := by
  cases o with
  | lst xs => obtain ⟨_, _, _, _, e⟩ := x; exact Heap.lt_size e
  | tup xs => obtain ⟨_, _, _, p⟩ := x; exact p.lt
  | dK kvs => obtain ⟨_, _, _, _, o, _, _, e, _⟩ := x; exact Heap.lt_size e
  | dT kvs => obtain ⟨_, _, _, _, o, _, _, e, _⟩ := x; exact Heap.lt_size e
  | set S n => obtain ⟨o, _, _, _, e, _⟩ := x; exact Heap.lt_size e
  | ins C dx fs => obtain ⟨_, _, _, e, _⟩ := x; exact Heap.lt_size e
  | own y => obtain ⟨_, e⟩ := x; exact Heap.lt_size e
  | xd fs => obtain ⟨_, ⟨_, _, _, e, _⟩, _⟩ := x; exact Heap.lt_size e
  | rng lo hi => obtain ⟨_, _, _, e⟩ := x; exact Heap.lt_size e
  | frz ob u => obtain ⟨e, _⟩ := x; exact Heap.lt_size e
  | tbl ps => exact Heap.lt_size (show h.get? a = some _ from x)
  | met f y => exact Heap.lt_size (show h.get? a = some _ from x)
  | ext φ => obtain ⟨_, ⟨_, e⟩, _⟩ := x; exact Heap.lt_size e
theorem Paired.mapP {α β : Type} {F G : α → β → Prop} : ∀ {l₁ : List α} {l₂ : List β}, Paired F l₁ l₂ → (∀ a b, F a b → G a b) → Paired G l₁ l₂
  | _, _, .nil, _ => .nil
  | _, _, .cons r t, f => .cons (f _ _ r) (Paired.mapP t f)
theorem ObjOk.stay (x : ObjOk P w H h a o) (k : ∀ b u, (b = a ∨ H b = some (.own a)) → h.get? b = some u → h'.get? b = some u)
    (ho : ∀ b, H b = some (.own a) → H' b = some (.own a)) (ht : ∀ b xs, H b = some (.tup xs) → H' b = some (.tup xs)) : ObjOk P w H' h' a o := by
  induction o with
  | lst xs => obtain ⟨z, its, n, r, e⟩ := x; exact ⟨z, its, n, r, k _ _ (.inl rfl) e⟩
  | tup xs => obtain ⟨z, its, r, ob, e, c⟩ := x; exact ⟨z, its, r, ob, k _ _ (.inl rfl) e, c⟩
  | dK kvs => obtain ⟨z, y, vs, r, ob, es, ep, e, c⟩ := x; exact ⟨z, y, vs, r, ob, es, ep, k _ _ (.inl rfl) e, c⟩
  | dT kvs =>
    obtain ⟨z, y, xs, r, ob, es, ep, e, c⟩ := x
    exact ⟨z, y, xs, Paired.mapP r fun p q z => ⟨z.1, ht _ _ z.2.1, z.2.2⟩, ob, es, ep, k _ _ (.inl rfl) e, c⟩
  | set S n => obtain ⟨ob, es, ep, t, e, c⟩ := x; exact ⟨ob, es, ep, t, k _ _ (.inl rfl) e, c⟩
  | ins C dx fs =>
    obtain ⟨d, z, ne, e, mA, ⟨od, es, ep, e2, c⟩, r⟩ := x
    exact ⟨ho _ d, z, ne, k _ _ (.inl rfl) e, mA, ⟨od, es, ep, k _ _ (.inr d) e2, c⟩, r⟩
  | own y => obtain ⟨ob, e⟩ := x; exact ⟨ob, k _ _ (.inl rfl) e⟩
  | xd fs => obtain ⟨mA, ⟨od, es, ep, e, c⟩, r⟩ := x; exact ⟨mA, ⟨od, es, ep, k _ _ (.inl rfl) e, c⟩, r⟩
  | rng lo hi => obtain ⟨t, u, v, e⟩ := x; exact ⟨t, u, v, k _ _ (.inl rfl) e⟩
  | frz ob u ih => obtain ⟨e, q⟩ := x; exact ⟨k _ _ (.inl rfl) e, ih q⟩
  | tbl ps =>
    have e : h.get? a = some { cls := .none, data := .fields ps } := x
    show h'.get? a = some { cls := .none, data := .fields ps }
    exact k a _ (.inl rfl) e
  | met f y =>
    have e : h.get? a = some (PySem.W.methodObj (.ref f) (.ref y)) := x
    show h'.get? a = some (PySem.W.methodObj (.ref f) (.ref y))
    exact k a _ (.inl rfl) e
  | ext φ => obtain ⟨p, ⟨o, e⟩, st⟩ := x; exact ⟨st _ _ p fun o q => k _ _ (.inl rfl) q, ⟨o, k _ _ (.inl rfl) e⟩, st⟩
theorem HOk.lt (x : HOk P w H h) (e : H a = some o) : a < h.objs.size := (x a o e).lt
theorem HOk.fresh (x : HOk P w H h) (e : h.objs.size ≤ a) : H a = none := by
  cases q : H a with
  | none => rfl
  | some u => exact absurd (Nat.lt_of_lt_of_le (x.lt q) e) (Nat.lt_irrefl _)
theorem HOk.kept (x : HOk P w H h) (k : ∀ b u, h.get? b = some u → h'.get? b = some u) : HOk P w H h' := fun a o e =>
  (x a o e).stay (fun b u _ q => k b u q) (fun _ q => q) fun _ _ q => q
theorem HOk.laid (x : HOk P w H h) (k : ∀ b u, h.get? b = some u → h'.get? b = some u) (hp : h.objs.size ≤ a) (new : ObjOk P w (upd H a o) h' a o) : HOk P w (upd H a o) h' := fun b u e => by
  have hn := x.fresh hp
  by_cases hb : b = a
  · subst hb; rw [upd_same] at e; cases e; exact new
  · rw [upd_ne hb] at e
    exact (x b u e).stay (fun c v _ q => k c v q) (fun c q => by rw [upd_ne (ne_of_none q hn)]; exact q) fun c xs q => by rw [upd_ne (ne_of_none q hn)]; exact q
end
def Rd (H : Hp) (a : Addr) (u : HO) : Prop := H a = some u ∨ ∃ o, H a = some (.frz o u)
theorem Rd.ok {P : Program} {w : World} {H : Hp} {h : Heap} {a : Addr} {u : HO} (r : Rd H a u) (x : HOk P w H h) : ObjOk P w H h a u := by
  rcases r with r | ⟨o, r⟩
  · exact x a u r
  · obtain ⟨_, q⟩ := x a _ r
    exact q
def Mut : Option HO → Prop
  | some (.lst _) => True
  | some (.dK _) => True
  | some (.dT _) => True
  | some (.set _ _) => True
  | some (.ins _ _ _) => True
  | some (.ext _) => True
  | _ => False
section
variable {P : Program} {w : World} {H : Hp} {h h' : Heap} {x e : Addr} {o' : HO}
theorem HOk.write (ok : HOk P w H h) (mu : Mut (H x)) (he : e = x ∨ H e = some (.own x)) (k : ∀ b u, b ≠ e → h.get? b = some u → h'.get? b = some u) (heo : ∃ u, h'.get? e = some u)
    (new : ObjOk P w (upd H x o') h' x o') : HOk P w (upd H x o') h' := fun b u q => by
  have nown : ∀ c y, H c = some (.own y) → c ≠ x := fun c y r z => by subst z; rw [r] at mu; exact mu
  have ntup : ∀ c xs, H c = some (.tup xs) → c ≠ x := fun c xs r z => by subst z; rw [r] at mu; exact mu
  by_cases hb : b = x
  · subst hb; rw [upd_same] at q; cases q; exact new
  · rw [upd_ne hb] at q
    by_cases hbe : b = e
    · have q' : H b = some (.own x) := by
        rcases he with z | z
        · exact absurd (hbe.trans z) hb
        · rw [hbe]; exact z
      rw [q] at q'; cases q'
      obtain ⟨v, hv⟩ := heo
      exact ⟨v, by rw [hbe]; exact hv⟩
    · refine (ok b u q).stay (fun c v hc r => k c v ?_ r) (fun c r => by rw [upd_ne (nown c b r)]; exact r) fun c xs r => by rw [upd_ne (ntup c xs r)]; exact r
      rcases hc with rfl | hc
      · exact hbe
      · rintro rfl
        rcases he with z | z
        · exact nown c b hc z
        · rw [hc] at z; cases z; exact hb rfl
end
structure Un (fs ex : List Addr) (H H' : Hp) (h h' : Heap) : Prop where
  keep : ∀ b o, h.get? b = some o → H b = none → b ∉ fs → b ∉ ex → h'.get? b = some o
  slot : ∀ b o, h.get? b = some o → H b = none → b ∈ fs → b ∉ ex → ∃ sl, h'.get? b = some { o with slots := sl }
  free : ∀ b o, h.get? b = some o → H b = none → b ∉ ex → H' b = none
  there : ∀ b o, h.get? b = some o → b ∉ ex → ∃ o', h'.get? b = some o'
  tups : ∀ b xs, H b = some (.tup xs) → H' b = some (.tup xs)
  frzs : ∀ b o u, H b = some (.frz o u) → H' b = some (.frz o u)
  tbls : ∀ b ps, H b = some (.tbl ps) → ∃ more, H' b = some (.tbl (ps ++ more))
section
variable {fs fs' ex ex' : List Addr} {H H1 H2 : Hp} {h h1 h2 h' : Heap} {a x e : Addr} {o : HO}
theorem Un.any (u : Un fs ex H H1 h h1) {b : Addr} {ob : Obj} (q : h.get? b = some ob) (n : H b = none) (hx : b ∉ ex) : ∃ sl, h1.get? b = some { ob with slots := sl } := by
  by_cases hb : b ∈ fs
  · exact u.slot b ob q n hb hx
  · exact ⟨ob.slots, u.keep b ob q n hb hx⟩
theorem Un.kept (k : ∀ b u, h.get? b = some u → h'.get? b = some u) : Un fs ex H H h h' :=
  ⟨fun b ob q _ _ _ => k b ob q, fun b ob q _ _ _ => ⟨ob.slots, k b ob q⟩, fun _ _ _ n _ => n, fun b ob q _ => ⟨ob, k b ob q⟩, fun _ _ q => q, fun _ _ _ q => q, fun _ ps q => ⟨#[], by rw [q]; simp⟩⟩
theorem Un.refl : Un fs ex H H h h := Un.kept fun _ _ q => q
theorem Un.laid (k : ∀ b u, h.get? b = some u → h'.get? b = some u) (hp : h.objs.size ≤ a) (hn : H a = none) : Un fs ex H (upd H a o) h h' where
  keep := fun b u q _ _ _ => k b u q
  slot := fun b u q _ _ _ => ⟨u.slots, k b u q⟩
  free := fun b u q n _ => by rw [upd_ne (Nat.ne_of_lt (Nat.lt_of_lt_of_le (Heap.lt_size q) hp))]; exact n
  there := fun b u q _ => ⟨u, k b u q⟩
  tups := fun b xs q => by rw [upd_ne (ne_of_none q hn)]; exact q
  frzs := fun b u xs q => by rw [upd_ne (ne_of_none q hn)]; exact q
  tbls := fun b ps q => ⟨#[], by rw [upd_ne (ne_of_none q hn), q]; simp⟩
theorem Un.write (mu : Mut (H x)) (he : e = x ∨ H e = some (.own x)) (k : ∀ b u, b ≠ e → h.get? b = some u → h'.get? b = some u) (heo : ∃ u, h'.get? e = some u) : Un fs ex H (upd H x o) h h' := by
  have hx : ∀ b, H b = none → b ≠ x := fun b n z => by subst z; rw [n] at mu; exact mu
  have hb : ∀ b, H b = none → b ≠ e := fun b n z => by
    subst z
    rcases he with r | r
    · exact hx b n r
    · rw [n] at r; cases r
  have hm : ∀ b u, H b = some u → ¬ Mut (some u) → b ≠ x := fun b u q nm z => by subst z; rw [q] at mu; exact nm mu
  refine ⟨fun b u q n _ _ => k b u (hb b n) q, fun b u q n _ _ => ⟨u.slots, k b u (hb b n) q⟩, fun b u q n _ => by rw [upd_ne (hx b n)]; exact n, fun b u q _ => ?_,
    fun b xs q => by rw [upd_ne (hm b _ q fun z => z)]; exact q, fun b u xs q => by rw [upd_ne (hm b _ q fun z => z)]; exact q, fun b ps q => ⟨#[], by rw [upd_ne (hm b _ q fun z => z), q]; simp⟩⟩
  by_cases hbe : b = e
  · subst hbe; exact heo
  · exact ⟨u, k b u hbe q⟩
end
def trk (h : Heap) (H : Hp) : List Addr := (List.range h.objs.size).filter fun a => (H a).isSome
def hidT (h : Heap) (H : Hp) : Heap := PySem.W.hideAll h (trk h H)
theorem hidT_size (h : Heap) (H : Hp) : (hidT h H).objs.size = h.objs.size := PySem.W.hideAll_size _ _
theorem hidT_get {h : Heap} {H : Hp} {b : Addr} {o : Obj} (e : h.get? b = some o) (n : H b = none) : (hidT h H).get? b = some o :=
  PySem.W.hideAll_get _ e fun hm => by
    have q : (H b).isSome = true := (List.mem_filter.mp hm).2
    rw [n] at q; simp at q
theorem of_hidT {h : Heap} {H : Hp} {b : Addr} {o : Obj} (e : (hidT h H).get? b = some o) : h.get? b = some o ∧ H b = none := by
  have e' : h.get? b = some o := PySem.W.of_hideAll (trk h H) e
  refine ⟨e', ?_⟩
  cases q : H b with
  | none => rfl
  | some x =>
    have hm : b ∈ trk h H := List.mem_filter.mpr ⟨List.mem_range.mpr (Heap.lt_size e'), by simp [q]⟩
    have z : (hidT h H).get? b = none := PySem.W.hideAll_none (trk h H) hm
    rw [z] at e; cases e
def allNews (g h : Heap) (L : Addr) : List (Addr × Obj) := (List.range h.objs.size).filterMap fun a => if a = L ∨ (g.get? a).isSome = true then none else (h.get? a).map fun o => (a, o)
def rest (g h : Heap) (L d : Addr) : List (Addr × Obj) := (allNews g h L).filter fun p => decide (p.1 ≠ d)
end L2
namespace L2
open PySem PySem.Spec PyProof.Rows
structure Mod (K : PySem.W.Frag) (mg : Str → Option Value) (base : Heap) : Prop where
  kin : K.In base
  glob : base.Ns mainGlobals mg
  blt : ∃ mb, base.Ns builtinsNs mb ∧ ∀ x : Str, x ≠ "__name__" → mb x = bootBuiltins x
  nolimit : base.NoLimit
structure Cx where
  prog : Program
  w : World
  K : PySem.W.Frag
  mg : Str → Option Value
  base : Heap
  A : Around
  N : List Str
  s₀ : Shared
  H₀ : Hp
  env : Env
  outer : List Env
  stack : List Env
  ex : List Addr
  fn : Str → Bool
  calm : Bool
  pn : List (Addr × Obj)
  xe : Value → Shared → Prop
def frs (l : List Env) : List Addr := l.filterMap (·.frame)
abbrev Cx.fs (X : Cx) : List Addr := frs X.outer
def Vis (sc : Scope) (x : Str) : Prop := sc.names.lookup x = some .local ∨ sc.names.lookup x = some .cell ∨ sc.names.lookup x = some .free
def Loc (sc : Scope) (x : Str) : Prop := sc.names.lookup x = some .local ∨ sc.names.lookup x = some .cell
def Look (env : Env) (h : Heap) (m : Str → Option Value) (x : Str) (u : Value) : Prop :=
  (env.kindOf x = some .local ∧ m x = some u) ∨ ((env.kindOf x = some .cell ∨ env.kindOf x = some .free) ∧ ∃ c, env.cells.lookup x = some c ∧ h.IsCell c (some u))
structure Cx.Ok (X : Cx) : Prop where
  mod : Mod X.K X.mg X.base
  kind : X.env.scope.kind = .function
  glob : X.env.globals = mainGlobals
  blt : X.env.builtins = builtinsNs
  above : X.s₀.heap.objs.size ≤ X.env.locals
  inj : ∀ x y c, X.env.cells.lookup x = some c → X.env.cells.lookup y = some c → x = y
  has : ∀ x, (X.env.kindOf x = some .cell ∨ X.env.kindOf x = some .free) → ∃ c, X.env.cells.lookup x = some c
  cab : ∀ x c, X.fn x = true → X.env.cells.lookup x = some c → X.s₀.heap.objs.size ≤ c
  hd : X.calm = true → X.A.handled = none
  frames : X.A.frames = some X.stack
  stk : X.stack = X.outer ∨ (X.stack = X.env :: X.outer ∧ X.env.frame = some X.env.locals)
  exf : ∀ b ∈ X.ex, b ≠ X.env.locals ∧ ∀ x c, X.env.cells.lookup x = some c → c ≠ b
  bs : ∀ b o, X.base.get? b = some o → X.s₀.heap.get? b = some o ∧ X.H₀ b = none
  bsz : X.base.objs.size ≤ X.s₀.heap.objs.size
  noex : ∀ b o, X.base.get? b = some o → b ∉ X.ex
  exfs : ∀ b ∈ X.ex, b ∉ X.fs
  funs : X.s₀.heap.FunFrames X.base X.outer
  frf : ∀ b ∈ X.fs, X.H₀ b = none
structure Inv (X : Cx) (pins : List (Addr × Obj)) (σ : List (Option V)) (H : Hp) (s : Shared) : Prop where
  ok : X.Ok
  os : s.os = X.s₀.os
  bare : AllBare s.gens
  base : Un X.fs X.ex X.H₀ H X.s₀.heap s.heap
  loc : ∃ m, s.heap.Ns X.env.locals m ∧ ∀ (i : Nat) (x : Str) (v : V), X.N[i]? = some x → σ[i]? = some (some v) → Vis X.env.scope x → ∃ u, RelV v u ∧ Look X.env s.heap m x u
  cell : ∀ x c, X.env.cells.lookup x = some c → ∃ v, s.heap.IsCell c v
  free : H X.env.locals = none
  freeC : ∀ x c, X.env.cells.lookup x = some c → H c = none
  pin : ∀ p ∈ X.pn ++ pins, s.heap.get? p.1 = some p.2 ∧ H p.1 = none ∧ p.1 ≠ X.env.locals ∧ p.1 ∉ X.fs ∧ ∀ v, p.2.data ≠ .cell v
  hok : HOk X.prog X.w H s.heap
  len : σ.length = X.N.length
section
variable {X : Cx} {pins : List (Addr × Obj)} {σ : List (Option V)} {H H' : Hp} {s : Shared} {h' : Heap}
theorem Cx.Ok.nofr (ok : X.Ok) {b : Addr} {o : Obj} (e : X.base.get? b = some o) : b ∉ X.fs := fun hb => by
  have := (ok.funs.mem hb).1
  rw [e] at this; cases this
theorem Inv.bs (I : Inv X pins σ H s) : ∀ b o, X.base.get? b = some o → s.heap.get? b = some o ∧ H b = none := fun b o e =>
  ⟨I.base.keep b o (I.ok.bs b o e).1 (I.ok.bs b o e).2 (I.ok.nofr e) (I.ok.noex b o e), I.base.free b o (I.ok.bs b o e).1 (I.ok.bs b o e).2 (I.ok.noex b o e)⟩
theorem Inv.bk (I : Inv X pins σ H s) : ∀ b o, X.base.get? b = some o → s.heap.get? b = some o := fun b o e => (I.bs b o e).1
theorem Inv.mod (I : Inv X pins σ H s) : Mod X.K X.mg X.base := I.ok.mod
theorem Inv.kIn (I : Inv X pins σ H s) : X.K.In s.heap := I.ok.mod.kin.keeps I.bk
theorem Inv.fr (I : Inv X pins σ H s) : ∃ m, Fr X.base X.env.locals s.heap m :=
  let ⟨m, hn, _⟩ := I.loc
  ⟨m, hn, I.bk, Nat.le_trans I.ok.bsz I.ok.above⟩
theorem Inv.lt (I : Inv X pins σ H s) : X.env.locals < s.heap.objs.size := let ⟨_, hn, _⟩ := I.loc; hn.lt
theorem Inv.sz (I : Inv X pins σ H s) : X.s₀.heap.objs.size ≤ s.heap.objs.size := Nat.le_trans I.ok.above (Nat.le_of_lt I.lt)
theorem Inv.nofs (I : Inv X pins σ H s) {a : Addr} (h : s.heap.objs.size ≤ a) : a ∉ X.fs := fun hb => by
  obtain ⟨_, o, ho, _⟩ := I.ok.funs.mem hb
  exact absurd (Nat.lt_of_lt_of_le (Heap.lt_size ho) (Nat.le_trans I.sz h)) (Nat.lt_irrefl _)
theorem Inv.cne (I : Inv X pins σ H s) : ∀ x c, X.env.cells.lookup x = some c → c ≠ X.env.locals := fun x c e z => by
  obtain ⟨v, o, ho, hd⟩ := I.cell x c e
  obtain ⟨m, ⟨o', es, ep, ho', hd', _⟩, _⟩ := I.loc
  rw [z, ho'] at ho; cases ho; rw [hd'] at hd; cases hd
theorem Inv.funs (I : Inv X pins σ H s) : s.heap.FunFrames X.base X.outer := by
  have all : ∀ (l : List Env), (∀ b ∈ frs l, b ∈ X.fs) → X.s₀.heap.FunFrames X.base l → s.heap.FunFrames X.base l := by
    intro l
    induction l with
    | nil => intro _ _; trivial
    | cons env r ih =>
      intro hs hl
      obtain ⟨hk, ⟨L, o, hf, hn, ho, hd⟩, hr⟩ := hl
      have hL : L ∈ X.fs := hs L (by unfold frs; rw [List.filterMap_cons, hf]; exact List.mem_cons_self)
      obtain ⟨sl, e⟩ := I.base.slot L o ho (I.ok.frf L hL) hL fun z => I.ok.exfs L z hL
      exact ⟨hk, ⟨L, _, hf, hn, e, hd⟩, ih (fun b hb => hs b (by unfold frs; rw [List.filterMap_cons, hf]; exact List.mem_cons_of_mem _ hb)) hr⟩
  exact all X.outer (fun _ hb => hb) I.ok.funs
theorem Inv.stack (I : Inv X pins σ H s) : s.heap.FunFrames X.base X.stack := by
  rcases I.ok.stk with e | ⟨e, hf⟩
  · rw [e]; exact I.funs
  · rw [e]
    obtain ⟨m, hn, _⟩ := I.loc
    refine .cons (by rw [I.ok.kind]; decide) hf hn ?_ I.funs
    exact Heap.get?_none_of_le (Nat.le_trans I.ok.bsz I.ok.above)
theorem Inv.stkSub (I : Inv X pins σ H s) : ∀ b ∈ frs X.stack, b ∈ X.env.locals :: X.fs := fun b hb => by
  rcases I.ok.stk with e | ⟨e, hf⟩
  · rw [e] at hb; exact List.mem_cons_of_mem _ hb
  · rw [e] at hb
    unfold frs at hb
    rw [List.filterMap_cons, hf] at hb
    exact hb
theorem Inv.stkFree (I : Inv X pins σ H s) : ∀ b ∈ frs X.stack, H b = none := fun b hb => by
  rcases List.mem_cons.mp (I.stkSub b hb) with e | hb
  · rw [e]; exact I.free
  · obtain ⟨_, o, ho, _⟩ := I.ok.funs.mem hb
    exact I.base.free b o ho (I.ok.frf b hb) fun z => I.ok.exfs b z hb
theorem Inv.step {g' : Array GenState} {t' : Nat} {d' : Drawn} {ch : List Addr} (I : Inv X pins σ H s)
    (hch : ∀ b ∈ ch, (b ∈ X.ex ∨ X.s₀.heap.objs.size ≤ b) ∧ b ≠ X.env.locals ∧ (∀ x c, X.env.cells.lookup x = some c → c ≠ b) ∧ ∀ p ∈ X.pn ++ pins, p.1 ≠ b)
    (keep : ∀ b o, b ≠ X.env.locals → b ∉ X.fs → b ∉ ch → s.heap.get? b = some o → H b = none → h'.get? b = some o)
    (slot : ∀ b o, b ≠ X.env.locals → b ∈ X.fs → b ∉ ch → s.heap.get? b = some o → H b = none → ∃ sl, h'.get? b = some { o with slots := sl }) (free : ∀ b o, b ∉ ch → s.heap.get? b = some o → H b = none → H' b = none)
    (there : ∀ b o, b ∉ ch → s.heap.get? b = some o → ∃ o', h'.get? b = some o')
    (tups : ∀ b xs, H b = some (.tup xs) → H' b = some (.tup xs)) (frzs : ∀ b o u, H b = some (.frz o u) → H' b = some (.frz o u)) (tbls : ∀ b ps, H b = some (.tbl ps) → ∃ more, H' b = some (.tbl (ps ++ more)))
    (ns : ∀ m, s.heap.Ns X.env.locals m → h'.Ns X.env.locals m) (hok : HOk X.prog X.w H' h') (hg : AllBare g') :
    Inv X pins σ H' { s with heap := h', gens := g', drawn := d', toks := t' } := by
  have neL : ∀ b o, X.s₀.heap.get? b = some o → b ≠ X.env.locals := fun b o e => Nat.ne_of_lt (Nat.lt_of_lt_of_le (Heap.lt_size e) I.ok.above)
  have neC : ∀ b o, X.s₀.heap.get? b = some o → b ∉ X.ex → b ∉ ch := fun b o e hx hb => by
    rcases (hch b hb).1 with z | z
    · exact hx z
    · exact absurd (Nat.lt_of_lt_of_le (Heap.lt_size e) z) (Nat.lt_irrefl _)
  have cellK : ∀ x c, X.env.cells.lookup x = some c → ∀ v, s.heap.IsCell c v → h'.IsCell c v := fun x c e v ⟨o, ho, hd⟩ => by
    have nch : c ∉ ch := fun z => (hch c z).2.2.1 x c e rfl
    by_cases hc : c ∈ X.fs
    · obtain ⟨sl, q⟩ := slot c o (I.cne x c e) hc nch ho (I.freeC x c e)
      exact ⟨_, q, hd⟩
    · exact ⟨o, keep c o (I.cne x c e) hc nch ho (I.freeC x c e), hd⟩
  refine ⟨I.ok, I.os, hg, ⟨fun b o e n hb hx => ?_, fun b o e n hb hx => ?_, fun b o e n hx => ?_, fun b o e hx => ?_, fun b xs e => tups b xs (I.base.tups b xs e), fun b o xs e => frzs b o xs (I.base.frzs b o xs e), fun b ps e => ?_⟩, ?_, fun x c e => ?_, ?_, fun x c e => ?_, fun p hp => ?_, hok, I.len⟩
  · exact keep b o (neL b o e) hb (neC b o e hx) (I.base.keep b o e n hb hx) (I.base.free b o e n hx)
  · obtain ⟨sl, e1⟩ := I.base.slot b o e n hb hx
    obtain ⟨sl', e2⟩ := slot b _ (neL b o e) hb (neC b o e hx) e1 (I.base.free b o e n hx)
    exact ⟨sl', e2⟩
  · obtain ⟨o', e1⟩ := I.base.there b o e hx
    exact free b o' (neC b o e hx) e1 (I.base.free b o e n hx)
  · obtain ⟨o', e1⟩ := I.base.there b o e hx
    exact there b o' (neC b o e hx) e1
  · obtain ⟨m1, e1⟩ := I.base.tbls b ps e
    obtain ⟨m2, e2⟩ := tbls b _ e1
    exact ⟨m1 ++ m2, by rw [e2, Array.append_assoc]⟩
  · obtain ⟨m, hn, hl⟩ := I.loc
    refine ⟨m, ns m hn, fun i x v e1 e2 e3 => ?_⟩
    obtain ⟨u, r, l⟩ := hl i x v e1 e2 e3
    refine ⟨u, r, ?_⟩
    rcases l with l | ⟨k, c, e, z⟩
    · exact .inl l
    · exact .inr ⟨k, c, e, cellK x c e _ z⟩
  · obtain ⟨v, z⟩ := I.cell x c e
    exact ⟨v, cellK x c e v z⟩
  · obtain ⟨m, ⟨o, _, _, ho, _⟩, _⟩ := I.loc
    exact free _ o (fun z => (hch _ z).2.1 rfl) ho I.free
  · obtain ⟨v, o, ho, hd⟩ := I.cell x c e
    exact free c o (fun z => (hch c z).2.2.1 x c e rfl) ho (I.freeC x c e)
  · obtain ⟨e, n, ne, nf, d⟩ := I.pin p hp
    have nch : p.1 ∉ ch := fun z => (hch p.1 z).2.2.2 p hp rfl
    exact ⟨keep p.1 p.2 ne nf nch e n, free p.1 p.2 nch e n, ne, nf, d⟩
theorem Inv.un {t' : Nat} (I : Inv X pins σ H s) (u : Un X.fs [] H H' s.heap h') (hok : HOk X.prog X.w H' h') : Inv X pins σ H' { s with heap := h', toks := t' } := by
  obtain ⟨m, ⟨o, es, ep, ho, r⟩, _⟩ := id I.loc
  obtain ⟨sl, hL⟩ := u.any ho I.free (by simp)
  exact I.step (g' := s.gens) (d' := s.drawn) (ch := []) (fun _ z => nomatch z) (fun b o _ hb _ e n => u.keep b o e n hb (by simp)) (fun b o _ hb _ e n => u.slot b o e n hb (by simp)) (fun b o _ e n => u.free b o e n (by simp)) (fun b o _ e => u.there b o e (by simp)) u.tups u.frzs u.tbls (fun m' hm => by
    obtain ⟨o', es', ep', ho', r'⟩ := hm
    rw [ho] at ho'; cases ho'
    exact ⟨_, es', ep', hL, r'⟩) hok I.bare
theorem Inv.call {g' : Array GenState} {t' : Nat} {d' : Drawn} {ch : List Addr} (I : Inv X pins σ H s) (u : Un (frs X.stack) ch H H' s.heap h') (hok : HOk X.prog X.w H' h') (hg : AllBare g')
    (hch : ∀ b ∈ ch, (b ∈ X.ex ∨ X.s₀.heap.objs.size ≤ b) ∧ b ≠ X.env.locals ∧ (∀ x c, X.env.cells.lookup x = some c → c ≠ b) ∧ ∀ p ∈ X.pn ++ pins, p.1 ≠ b) :
    Inv X pins σ H' { s with heap := h', gens := g', drawn := d', toks := t' } := by
  obtain ⟨m, ⟨o, es, ep, ho, r⟩, _⟩ := id I.loc
  obtain ⟨sl, hL⟩ := u.any ho I.free fun z => (hch _ z).2.1 rfl
  exact I.step (ch := ch) hch (fun b o hL hb hc e n => u.keep b o e n (fun z => (List.mem_cons.mp (I.stkSub b z)).elim hL hb) hc) (fun b o _ _ hc e n => u.any e n hc) (fun b o hc e n => u.free b o e n hc) (fun b o hc e => u.there b o e hc) u.tups u.frzs u.tbls (fun m' hm => by
    obtain ⟨o', es', ep', ho', r'⟩ := hm
    rw [ho] at ho'; cases ho'
    exact ⟨_, es', ep', hL, r'⟩) hok hg
theorem Inv.turned {t' : Nat} {it : Addr} (I : Inv X pins σ H s) (k : ∀ b o, b ≠ it → s.heap.get? b = some o → h'.get? b = some o) (hn : H it = none) (hL : it ≠ X.env.locals)
    (h1 : it ∈ X.ex ∨ X.s₀.heap.objs.size ≤ it) (h2 : ∀ x c, X.env.cells.lookup x = some c → c ≠ it) (h3 : ∀ p ∈ X.pn ++ pins, p.1 ≠ it) : Inv X pins σ H { s with heap := h', toks := t' } := by
  have nit : ∀ b u, H b = some u → b ≠ it := fun b u e z => by rw [z, hn] at e; cases e
  refine I.step (g' := s.gens) (d' := s.drawn) (ch := [it]) (fun b hb => ?_) (fun b o _ _ hc e _ => k b o (fun z => hc (by simp [z])) e) (fun b o _ _ hc e _ => ⟨o.slots, k b o (fun z => hc (by simp [z])) e⟩) (fun _ _ _ _ n => n)
    (fun b o hc e => ⟨o, k b o (fun z => hc (by simp [z])) e⟩) (fun _ _ e => e) (fun _ _ _ e => e) (fun b ps e => ⟨#[], by rw [e]; simp⟩) (fun m hm => ?_) (fun b u e => ?_) I.bare
  · have e : b = it := by simpa using hb
    subst e
    exact ⟨h1, hL, h2, h3⟩
  · obtain ⟨o, es, ep, ho, r⟩ := hm
    exact ⟨o, es, ep, k _ o (Ne.symm hL) ho, r⟩
  · refine (I.hok b u e).stay (fun c v hc q => k c v ?_ q) (fun _ q => q) fun _ _ q => q
    rcases hc with z | z
    · rw [z]; exact nit b u e
    · exact nit c _ z
theorem Inv.tok (I : Inv X pins σ H s) (t : Nat) : Inv X pins σ H { s with toks := t } := I.un (h' := s.heap) (t' := t) Un.refl I.hok
theorem Inv.kept {t' : Nat} (I : Inv X pins σ H s) (k : ∀ b u, s.heap.get? b = some u → h'.get? b = some u) : Inv X pins σ H { s with heap := h', toks := t' } := I.un (Un.kept k) (I.hok.kept k)
theorem Inv.laid {a : Addr} {o : HO} {t' : Nat} (I : Inv X pins σ H s) (k : ∀ b u, s.heap.get? b = some u → h'.get? b = some u) (hp : s.heap.objs.size ≤ a) (new : ObjOk X.prog X.w (upd H a o) h' a o) :
    Inv X pins σ (upd H a o) { s with heap := h', toks := t' } := I.un (Un.laid k hp (I.hok.fresh hp)) (I.hok.laid k hp new)
theorem Inv.write {x e : Addr} {o : HO} {t' : Nat} (I : Inv X pins σ H s) (mu : Mut (H x)) (he : e = x ∨ H e = some (.own x)) (k : ∀ b u, b ≠ e → s.heap.get? b = some u → h'.get? b = some u) (heo : ∃ u, h'.get? e = some u)
    (new : ObjOk X.prog X.w (upd H x o) h' x o) : Inv X pins σ (upd H x o) { s with heap := h', toks := t' } := I.un (Un.write mu he k heo) (I.hok.write mu he k heo new)
theorem Inv.weak {σ' : List (Option V)} (I : Inv X pins σ H s) (hl : σ'.length = σ.length) (w : ∀ (i : Nat) v, σ'[i]? = some (some v) → σ[i]? = some (some v)) : Inv X pins σ' H s :=
  ⟨I.ok, I.os, I.bare, I.base, let ⟨m, hn, hl'⟩ := I.loc; ⟨m, hn, fun i x v e1 e2 e3 => hl' i x v e1 (w i v e2) e3⟩, I.cell, I.free, I.freeC, I.pin, I.hok, hl.trans I.len⟩
theorem Inv.pins_of {pins' : List (Addr × Obj)} (I : Inv X pins σ H s) (h : ∀ p ∈ pins', s.heap.get? p.1 = some p.2 ∧ H p.1 = none ∧ p.1 ≠ X.env.locals ∧ p.1 ∉ X.fs ∧ ∀ v, p.2.data ≠ .cell v) : Inv X pins' σ H s :=
  ⟨I.ok, I.os, I.bare, I.base, I.loc, I.cell, I.free, I.freeC, fun p hp => (List.mem_append.mp hp).elim (fun z => I.pin p (List.mem_append_left _ z)) (h p), I.hok, I.len⟩
theorem nodup_ix {N : List Str} (hN : N.Nodup) {i j : Nat} {x : Str} (a : N[i]? = some x) (b : N[j]? = some x) : i = j := by
  obtain ⟨h1, e1⟩ := List.getElem?_eq_some_iff.mp a
  obtain ⟨h2, e2⟩ := List.getElem?_eq_some_iff.mp b
  exact (List.getElem_inj hN).mp (e1.trans e2.symm)
theorem store_ok2 {M : Model} {A : Around} {E : Value → Shared → Prop} {i : Nat} {x : Str} {v : V} {u : Value} {Q : Unit → Shared → Prop} (I : Inv X pins σ H s) (hN : X.N.Nodup) (hi : X.N[i]? = some x) (hx : Loc X.env.scope x) (r : RelV v u)
    (h : ∀ s', Inv X pins (σ.set i (some v)) H s' → (∃ a, Heap.SameBut a s.heap s'.heap ∧ (a = X.env.locals ∨ X.env.cells.lookup x = some a)) → Q () s') (hf : X.fn x = true ∨ X.env.scope.names.lookup x = some .local := by first | exact .inl rfl | exact .inr rfl | assumption) : wpAny M A (storeName X.env x u) Q E s := by
  obtain ⟨m, hn, hl⟩ := id I.loc
  have hcls : (X.env.scope.kind == .class || (X.env.scope.kind == .module && X.env.locals != X.env.globals)) = false := by rw [I.ok.kind]; rfl
  have hiσ : i < σ.length := by rw [I.len]; exact (List.getElem?_eq_some_iff.mp hi).1
  have cne := I.cne
  have tracked : ∀ {a : Addr} {h' : Heap}, (∃ o, s.heap.get? a = some o ∧ H a = none) → Heap.SameBut a s.heap h' → HOk X.prog X.w H h' := fun {a h'} ha hs b ob e => by
    obtain ⟨_, _, hfree⟩ := ha
    refine (I.hok b ob e).stay (fun c w' hc q => (hs.2 c ?_).trans q) (fun _ q => q) fun _ _ q => q
    rintro rfl
    rcases hc with rfl | hc
    · rw [hfree] at e; cases e
    · rw [hfree] at hc; cases hc
  rcases hx with hk | hk
  · refine wpAny_storeName_local hk hn (fun h' hn' hs => ?_) hcls
    obtain ⟨oL, _, _, hoL, _⟩ := id hn
    refine h _ ⟨I.ok, I.os, I.bare, ⟨fun b o e n hb hx => ?_, fun b o e n hb hx => ?_, I.base.free, fun b o e hx => ?_, I.base.tups, I.base.frzs, I.base.tbls⟩, ⟨_, hn', fun j y v' e1 e2 e3 => ?_⟩, fun y c e => ?_, I.free, I.freeC, fun p hp => ?_, tracked ⟨oL, hoL, I.free⟩ hs, by simpa using I.len⟩ ⟨_, hs, .inl rfl⟩
    · exact (hs.2 b (Nat.ne_of_lt (Nat.lt_of_lt_of_le (Heap.lt_size e) I.ok.above))).trans (I.base.keep b o e n hb hx)
    · obtain ⟨sl, e1⟩ := I.base.slot b o e n hb hx
      exact ⟨sl, (hs.2 b (Nat.ne_of_lt (Nat.lt_of_lt_of_le (Heap.lt_size e) I.ok.above))).trans e1⟩
    · obtain ⟨o', e1⟩ := I.base.there b o e hx
      exact ⟨o', (hs.2 b (Nat.ne_of_lt (Nat.lt_of_lt_of_le (Heap.lt_size e) I.ok.above))).trans e1⟩
    · by_cases hj : j = i
      · subst hj
        rw [hi] at e1; cases e1
        rw [List.getElem?_set_self hiσ] at e2
        cases e2
        exact ⟨u, r, .inl ⟨hk, by simp⟩⟩
      · rw [List.getElem?_set_ne (Ne.symm hj)] at e2
        obtain ⟨u', r', q⟩ := hl j y v' e1 e2 e3
        refine ⟨u', r', ?_⟩
        rcases q with ⟨k, e⟩ | ⟨k, c, e, z⟩
        · refine .inl ⟨k, ?_⟩
          have : y ≠ x := fun e => hj (nodup_ix hN e1 (e ▸ hi))
          simp [this, e]
        · exact .inr ⟨k, c, e, z.sameBut hs (cne y c e)⟩
    · obtain ⟨w', z⟩ := I.cell y c e
      exact ⟨w', z.sameBut hs (cne y c e)⟩
    · obtain ⟨e, n, ne, nf, d⟩ := I.pin p hp
      exact ⟨(hs.2 p.1 ne).trans e, n, ne, nf, d⟩
  · have hfn : X.fn x = true := by
      rcases hf with z | z
      · exact z
      · rw [z] at hk; cases hk
    obtain ⟨c, hc⟩ := I.ok.has x (.inl hk)
    obtain ⟨w', z⟩ := I.cell x c hc
    refine wpAny_storeName_cell I.ok.kind hk hc z (fun h' hc' hs => ?_)
    obtain ⟨oc, hoc, hocd⟩ := id z
    refine h { s with heap := h' } ⟨I.ok, I.os, I.bare, ⟨fun b o e n hb hx => ?_, fun b o e n hb hx => ?_, I.base.free, fun b o e hx => ?_, I.base.tups, I.base.frzs, I.base.tbls⟩, ⟨m, hn.sameBut hs (Ne.symm (cne x c hc)), fun j y v' e1 e2 e3 => ?_⟩, fun y c' e => ?_, I.free, I.freeC, fun p hp => ?_, tracked ⟨oc, hoc, I.freeC x c hc⟩ hs, by simpa using I.len⟩ ⟨c, hs, .inr hc⟩
    · exact (hs.2 b (Nat.ne_of_lt (Nat.lt_of_lt_of_le (Heap.lt_size e) (I.ok.cab x c hfn hc)))).trans (I.base.keep b o e n hb hx)
    · obtain ⟨sl, e1⟩ := I.base.slot b o e n hb hx
      exact ⟨sl, (hs.2 b (Nat.ne_of_lt (Nat.lt_of_lt_of_le (Heap.lt_size e) (I.ok.cab x c hfn hc)))).trans e1⟩
    · obtain ⟨o', e1⟩ := I.base.there b o e hx
      exact ⟨o', (hs.2 b (Nat.ne_of_lt (Nat.lt_of_lt_of_le (Heap.lt_size e) (I.ok.cab x c hfn hc)))).trans e1⟩
    · by_cases hj : j = i
      · subst hj
        rw [hi] at e1; cases e1
        rw [List.getElem?_set_self hiσ] at e2
        cases e2
        exact ⟨u, r, .inr ⟨.inl hk, c, hc, hc'⟩⟩
      · rw [List.getElem?_set_ne (Ne.symm hj)] at e2
        obtain ⟨u', r', q⟩ := hl j y v' e1 e2 e3
        refine ⟨u', r', ?_⟩
        rcases q with q | ⟨k, c', e, z'⟩
        · exact .inl q
        · refine .inr ⟨k, c', e, z'.sameBut hs ?_⟩
          rintro rfl
          exact hj (nodup_ix hN e1 (I.ok.inj _ _ _ e hc ▸ hi))
    · by_cases hcc : c' = c
      · subst hcc; exact ⟨_, hc'⟩
      · obtain ⟨w2, z2⟩ := I.cell y c' e
        exact ⟨w2, z2.sameBut hs hcc⟩
    · obtain ⟨e, n, ne, nf, d⟩ := I.pin p hp
      refine ⟨(hs.2 p.1 ?_).trans e, n, ne, nf, d⟩
      intro q
      rw [q, hoc] at e
      have q' : oc = p.2 := Option.some.inj e
      exact d w' (by rw [← q']; exact hocd)
theorem store_ok {M : Model} {A : Around} {E : Value → Shared → Prop} {i : Nat} {x : Str} {v : V} {u : Value} {Q : Unit → Shared → Prop} (I : Inv X pins σ H s) (hN : X.N.Nodup) (hi : X.N[i]? = some x) (hx : Loc X.env.scope x) (r : RelV v u)
    (h : ∀ s', Inv X pins (σ.set i (some v)) H s' → Q () s') (hf : X.fn x = true ∨ X.env.scope.names.lookup x = some .local := by first | exact .inl rfl | exact .inr rfl | assumption) : wpAny M A (storeName X.env x u) Q E s :=
  store_ok2 I hN hi hx r (fun s' I' _ => h s' I') hf
theorem Inv.call' {s' : Shared} {ch : List Addr} (I : Inv X pins σ H s) (ho : s'.os = s.os) (u : Un (frs X.stack) ch H H' s.heap s'.heap) (hok : HOk X.prog X.w H' s'.heap) (hg : AllBare s'.gens)
    (hch : ∀ b ∈ ch, (b ∈ X.ex ∨ X.s₀.heap.objs.size ≤ b) ∧ b ≠ X.env.locals ∧ (∀ x c, X.env.cells.lookup x = some c → c ≠ b) ∧ ∀ p ∈ X.pn ++ pins, p.1 ≠ b) : Inv X pins σ H' s' := by
  obtain ⟨h', g', d', t', o'⟩ := s'
  have e : o' = s.os := ho
  subst e
  exact I.call (g' := g') (t' := t') (d' := d') u hok hg hch
end
abbrev XK := Value → Option Addr → Hp → Prop
abbrev St := List (Option V)
abbrev VK := V → Hp → Prop
abbrev TE := St → Hp → VK → Prop
abbrev TT := St → Hp → (Bool → Hp → Prop) → Prop
abbrev TA := St → Hp → (List V → Hp → Prop) → Prop
structure Ends where
  nx : St → Hp → Prop
  rt : VK
  bk : St → Hp → Prop := fun _ _ => False
  ct : St → Hp → Prop := fun _ _ => False
abbrev TS := Ends → St → Hp → Prop
def EP (X : Cx) (pins : List (Addr × Obj)) (σ : St) (Q : VK) (u : Value) (s' : Shared) : Prop := ∃ v H', Inv X pins σ H' s' ∧ RelV v u ∧ Q v H'
def TP (X : Cx) (pins : List (Addr × Obj)) (σ : St) (Q : Bool → Hp → Prop) (b : Bool) (s' : Shared) : Prop := ∃ H', Inv X pins σ H' s' ∧ Q b H'
def AP (X : Cx) (pins : List (Addr × Obj)) (σ : St) (Q : List V → Hp → Prop) (us : List Value) (s' : Shared) : Prop := ∃ vs H', Inv X pins σ H' s' ∧ Vals vs us ∧ Q vs H'
def SP (X : Cx) (pins : List (Addr × Obj)) (D : Ends) (f : Flow) (s' : Shared) : Prop :=
  match f with
  | .next => ∃ σ' H', Inv X pins σ' H' s' ∧ D.nx σ' H'
  | .brk => ∃ σ' H', Inv X pins σ' H' s' ∧ D.bk σ' H'
  | .cont => ∃ σ' H', Inv X pins σ' H' s' ∧ D.ct σ' H'
  | .ret u => ∃ v σ' H', Inv X pins σ' H' s' ∧ RelV v u ∧ D.rt v H'
def PE (X : Cx) (e : Expr) (t : TE) : Prop :=
  ∀ (pins : List (Addr × Obj)) (s : Shared) (σ : St) (H : Hp) (Q : VK), Inv X pins σ H s → t σ H Q → wpAny (model X.prog X.w) X.A (eval e X.env) (EP X pins σ Q) X.xe s
def PT (X : Cx) (e : Expr) (t : TT) : Prop :=
  ∀ (pins : List (Addr × Obj)) (s : Shared) (σ : St) (H : Hp) (Q : Bool → Hp → Prop), Inv X pins σ H s → t σ H Q → wpAny (model X.prog X.w) X.A (isTrue e X.env (eval e X.env)) (TP X pins σ Q) X.xe s
def PW (X : Cx) (e : Expr) (t : TT) : Prop :=
  ∀ (whole : Sem Value) (pins : List (Addr × Obj)) (s : Shared) (σ : St) (H : Hp) (Q : Bool → Hp → Prop), Inv X pins σ H s → t σ H Q → wpAny (model X.prog X.w) X.A (isTrue e X.env whole) (TP X pins σ Q) X.xe s
theorem PW.pt {X : Cx} {e : Expr} {t : TT} (h : PW X e t) : PT X e t := h _
def PA (X : Cx) (es : List Expr) (t : TA) : Prop :=
  ∀ (pos : Pos) (pins : List (Addr × Obj)) (s : Shared) (σ : St) (H : Hp) (Q : List V → Hp → Prop), Inv X pins σ H s → t σ H Q → wpAny (model X.prog X.w) X.A (spliced (backTo pos (starEach es X.env))) (AP X pins σ Q) X.xe s
def PS (X : Cx) (st : Stmt) (t : TS) : Prop :=
  ∀ (pins : List (Addr × Obj)) (s : Shared) (σ : St) (H : Hp) (D : Ends), Inv X pins σ H s → t D σ H → wpAny (model X.prog X.w) X.A (exec st X.env) (SP X pins D) X.xe s
def PSs (X : Cx) (st : List Stmt) (t : TS) : Prop :=
  ∀ (pins : List (Addr × Obj)) (s : Shared) (σ : St) (H : Hp) (D : Ends), Inv X pins σ H s → t D σ H → wpAny (model X.prog X.w) X.A (execs st X.env) (SP X pins D) X.xe s
theorem thn {α : Type} {t : Sem α} {Q Q' : α → Shared → Prop} {M : Model} {A : Around} {E : Value → Shared → Prop} {s : Shared} (h : wpAny M A t Q E s) (hQ : ∀ a s, Q a s → Q' a s) : wpAny M A t Q' E s := wpAny_mono h hQ fun _ _ x => x
end L2
namespace L2
open PySem PySem.Spec PyProof.Rows
section
variable {X : Cx}
theorem bin {a b : Expr} {ta tb : TE} (ha : PE X a ta) (hb : PE X b tb) {pins : List (Addr × Obj)} {s : Shared} {σ : St} {H : Hp} {R : V → V → Hp → Prop} (I : Inv X pins σ H s) (h : ta σ H fun x H1 => tb σ H1 fun y H2 => R x y H2)
    {α : Type} {Q : α → Shared → Prop} {f : Value → Value → Sem α}
    (hf : ∀ v u s2 x y H2, Inv X pins σ H2 s2 → RelV x v → RelV y u → R x y H2 → wpAny (model X.prog X.w) X.A (f v u) Q X.xe s2) :
    wpAny (model X.prog X.w) X.A (eval a X.env) (fun v s₁ => wpAny (model X.prog X.w) X.A (eval b X.env) (fun u s₂ => wpAny (model X.prog X.w) X.A (f v u) Q X.xe s₂) X.xe s₁) X.xe s := by
  refine thn (ha pins s σ H _ I h) fun v s1 ⟨x, H1, I1, r1, q1⟩ => ?_
  refine thn (hb pins s1 σ H1 _ I1 q1) fun u s2 ⟨y, H2, I2, r2, q2⟩ => ?_
  exact hf v u s2 x y H2 I2 r1 r2 q2
def tVar (i : Nat) : TE := fun σ H Q => ∃ v, σ[i]? = some (some v) ∧ Q v H
def tC (v : V) : TE := fun _ H Q => Q v H
theorem pe_var {i : Nat} {x : Str} {pos : Pos} (hN : X.N[i]? = some x) (hv : Vis X.env.scope x) (hd : (x == ("__debug__" : Str)) = false := by decide) (hcd : (x == ("__classdict__" : Str)) = false := by decide) : PE X (.Name x pos) (tVar i) := by
  intro pins s σ H Q I h
  obtain ⟨v, e, h⟩ := h
  obtain ⟨m, hn, hl⟩ := I.loc
  obtain ⟨u, r, l⟩ := hl i x v hN e hv
  have fin : EP X pins σ Q u s := ⟨v, H, I, r, h⟩
  rcases l with ⟨hk, hm⟩ | ⟨hk, c, hc, hcell⟩
  · exact wpAny_Name (wpAny_loadName_local I.ok.kind hk hn hm fin) hd
  · rcases hk with hk | hk
    · exact wpAny_Name (wpAny_loadName_cell I.ok.kind hk hc hcell fin) hd
    · exact wpAny_Name (wpAny_loadName_free I.ok.kind hk hc hcell fin hcd) hd
theorem pe_int {i j pos} : PE X (.Constant (.int i) j pos) (tC (.int i)) := fun _ _ _ H _ I h => wpAny_Constant_int ⟨.int i, H, I.tok _, ⟨_, rfl⟩, h⟩
theorem pe_bl {b j pos} : PE X (.Constant (.bool b) j pos) (tC (.bl b)) := fun _ _ _ H _ I h => Constant_bool ⟨.bl b, H, I, rfl, h⟩
theorem pe_str {x j pos} : PE X (.Constant (.str x) j pos) (tC (.str x)) := fun _ _ _ H _ I h => Calls.Constant_str ⟨.str x, H, I.tok _, ⟨_, rfl⟩, h⟩
def Gl (X : Cx) (x : Str) : Prop := X.env.kindOf x = some .globalImplicit
theorem ld_glob {E : Value → Shared → Prop} {pins : List (Addr × Obj)} {s : Shared} {σ : St} {H : Hp} {x : Str} {u : Value} {pos : Pos} {Q : Value → Shared → Prop} (I : Inv X pins σ H s) (hg : Gl X x) (hm : X.mg x = some u) (h : Q u s)
    (hd : (x == ("__debug__" : Str)) = false := by decide) : wpAny (model X.prog X.w) X.A (eval (.Name x pos) X.env) Q E s :=
  Calls.Name_function_global I.ok.kind hg (Calls.loadGlobal_global (by rw [I.ok.glob]; exact I.mod.glob.keeps I.bk) hm h) hd
theorem ld_blt {E : Value → Shared → Prop} {pins : List (Addr × Obj)} {s : Shared} {σ : St} {H : Hp} {x : Str} {u : Value} {pos : Pos} {Q : Value → Shared → Prop} (I : Inv X pins σ H s) (hg : Gl X x) (hm : X.mg x = none) (hv : bootBuiltins x = some u) (h : Q u s)
    (hn : x ≠ "__name__" := by decide) (hd : (x == ("__debug__" : Str)) = false := by decide) : wpAny (model X.prog X.w) X.A (eval (.Name x pos) X.env) Q E s := by
  obtain ⟨mb, h1, h2⟩ := I.mod.blt
  exact Calls.Name_function_global I.ok.kind hg (Calls.loadGlobal_builtin (by rw [I.ok.glob]; exact I.mod.glob.keeps I.bk) hm (by rw [I.ok.blt]; exact h1.keeps I.bk) ((h2 x hn).trans hv) h) hd
theorem pe_glob {x : Str} {v : V} {u : Value} {pos : Pos} (hg : Gl X x) (hm : X.mg x = some u) (r : RelV v u) (hd : (x == ("__debug__" : Str)) = false := by decide) : PE X (.Name x pos) (tC v) :=
  fun _ _ _ H _ I h => ld_glob I hg hm ⟨v, H, I, r, h⟩ hd
theorem pe_bltn {x : Str} {v : V} {u : Value} {pos : Pos} (hg : Gl X x) (hm : X.mg x = none) (hv : bootBuiltins x = some u) (r : RelV v u) (hn : x ≠ "__name__" := by decide) (hd : (x == ("__debug__" : Str)) = false := by decide) : PE X (.Name x pos) (tC v) :=
  fun _ _ _ H _ I h => ld_blt I hg hm hv ⟨v, H, I, r, h⟩ hn hd
def t2I (ta tb : TE) (k : Int → Int → Hp → Prop) : St → Hp → Prop := fun σ H => ta σ H fun x H1 => tb σ H1 fun y H2 => ∃ i j, x = .int i ∧ y = .int j ∧ k i j H2
def tAdd (ta tb : TE) : TE := fun σ H Q => t2I ta tb (fun i j H2 => Q (.int (i + j)) H2) σ H
def tSub (ta tb : TE) : TE := fun σ H Q => t2I ta tb (fun i j H2 => Q (.int (i - j)) H2) σ H
def tMul (ta tb : TE) : TE := fun σ H Q => t2I ta tb (fun i j H2 => (-(2 ^ 64) < i ∧ i < 2 ^ 64) ∧ Q (.int (i * j)) H2) σ H
variable {a b : Expr} {ta tb : TE} {pos : Pos}
def PC (X : Cx) (op : CmpOp) (a b : Expr) (t : TE) : Prop :=
  ∀ (pins : List (Addr × Obj)) (s : Shared) (σ : St) (H : Hp) (Q : VK), Inv X pins σ H s → t σ H Q →
    wpAny (model X.prog X.w) X.A (eval a X.env) (fun v s₁ => wpAny (model X.prog X.w) X.A (eval b X.env) (fun u s₂ => wpAny (model X.prog X.w) X.A (compareOp op v u) (EP X pins σ Q) X.xe s₂) X.xe s₁) X.xe s
def tCmp (p : Int → Int → Bool) (ta tb : TE) : TE := fun σ H Q => t2I ta tb (fun i j H2 => Q (.bl (p i j)) H2) σ H
abbrev tLt : TE → TE → TE := tCmp fun i j => decide (i < j)
abbrev tLe : TE → TE → TE := tCmp fun i j => decide (i ≤ j)
abbrev tGt : TE → TE → TE := tCmp fun i j => decide (j < i)
abbrev tGe : TE → TE → TE := tCmp fun i j => decide (j ≤ i)
abbrev tEqI : TE → TE → TE := tCmp fun i j => decide (i = j)
abbrev tNeI : TE → TE → TE := tCmp fun i j => !decide (i = j)
def tIsN (ta : TE) : TE := fun σ H Q => ta σ H fun x H1 => Q (.bl (decide (x = .non))) H1
def tNotN (ta : TE) : TE := fun σ H Q => ta σ H fun x H1 => Q (.bl (!decide (x = .non))) H1
def tB (t : TE) : TT := fun σ H Q => t σ H fun x H1 => ∃ c, x = .bl c ∧ Q c H1
theorem pt_cmp {op : CmpOp} {t : TE} (h : PC X op a b t) (h1 : behindInMarks op b = false := by first | exact nobehind _ (by decide) (by decide) | rfl) : PT X (.Compare a [op] [b] pos) (tB t) := by
  intro pins s σ H Q I hw
  refine wpAny_isTrue_Compare1 (thn (h pins s σ H _ I hw) fun v s1 h1 => thn h1 fun u s2 h2 => thn h2 fun c s3 ⟨x, H1, I1, r1, q1⟩ => ?_) h1
  obtain ⟨d, rfl, q⟩ := q1
  cases r1
  exact wpAny_truthy_bool ⟨H1, I1, q⟩
theorem pt_val {e : Expr} {t : TE} (h : PE X e t) (he : ∀ whole, isTrue e X.env whole = (do let v ← whole; standAt e.pos; holding [v] (truthy v)) := by intro _; rfl) : PT X e (tB t) := by
  intro pins s σ H Q I hw
  refine isTrue_plain (thn (h pins s σ H _ I hw) fun v s1 ⟨x, H1, I1, r1, q1⟩ => ?_) (he _)
  obtain ⟨d, rfl, q⟩ := q1
  cases r1
  exact wpAny_truthy_bool ⟨H1, I1, q⟩
variable {tA tB' : TT} {rest : List Expr}
def tAnd (t u : TT) : TT := fun σ H Q => t σ H fun c H1 => if c = true then u σ H1 Q else Q false H1
def tOr (t u : TT) : TT := fun σ H Q => t σ H fun c H1 => if c = true then Q true H1 else u σ H1 Q
def tNot (t : TT) : TT := fun σ H Q => t σ H fun c H1 => Q (!c) H1
theorem pw_and1 (ha : PT X a tA) : PW X (.BoolOp .And [a] pos) tA := by
  intro wh pins s σ H Q I h
  refine isTrue_and (thn (ha pins s σ H Q I h) fun c s1 e => ?_)
  cases c with
  | true => exact isTrue_and_nil e
  | false => exact e
theorem pw_or1 (ha : PT X a tA) : PW X (.BoolOp .Or [a] pos) tA := by
  intro wh pins s σ H Q I h
  refine isTrue_or (thn (ha pins s σ H Q I h) fun c s1 e => ?_)
  cases c with
  | false => exact isTrue_or_nil e
  | true => exact e
theorem pw_and (ha : PT X a tA) (hb : PW X (.BoolOp .And (b :: rest) pos) tB') : PW X (.BoolOp .And (a :: b :: rest) pos) (tAnd tA tB') := by
  intro wh pins s σ H Q I h
  refine isTrue_and (thn (ha pins s σ H _ I h) fun c s1 ⟨H1, I1, q1⟩ => ?_)
  cases c with
  | true => exact hb wh pins s1 σ H1 Q I1 q1
  | false => exact ⟨H1, I1, q1⟩
theorem pw_or (ha : PT X a tA) (hb : PW X (.BoolOp .Or (b :: rest) pos) tB') : PW X (.BoolOp .Or (a :: b :: rest) pos) (tOr tA tB') := by
  intro wh pins s σ H Q I h
  refine isTrue_or (thn (ha pins s σ H _ I h) fun c s1 ⟨H1, I1, q1⟩ => ?_)
  cases c with
  | true => exact ⟨H1, I1, q1⟩
  | false => exact hb wh pins s1 σ H1 Q I1 q1
theorem pt_not (ha : PT X a tA) : PT X (.UnaryOp .Not a pos) (tNot tA) := by
  intro pins s σ H Q I h
  exact isTrue_not (ha pins s σ H (fun c H1 => Q (!c) H1) I h)
def tAndV (ta tb : TE) : TE := fun σ H Q => ta σ H fun x H1 => ∃ c, x = .bl c ∧ if c = true then tb σ H1 Q else Q (.bl false) H1
def tOrV (ta tb : TE) : TE := fun σ H Q => ta σ H fun x H1 => ∃ c, x = .bl c ∧ if c = true then Q (.bl true) H1 else tb σ H1 Q
def tNotV (ta : TE) : TE := fun σ H Q => ta σ H fun x H1 => ∃ c, x = .bl c ∧ Q (.bl (!c)) H1
theorem pe_one {op} {t : TE} (h : PE X a t) : PE X (.BoolOp op [a] pos) t := fun pins s σ H Q I hw => BoolOp_one (h pins s σ H Q I hw)
theorem pe_and (ha : PE X a ta) (hb : PE X (.BoolOp .And (b :: rest) pos) tb) : PE X (.BoolOp .And (a :: b :: rest) pos) (tAndV ta tb) := by
  intro pins s σ H Q I h
  refine BoolOp_and (thn (ha pins s σ H _ I h) fun v s1 ⟨x, H1, I1, r1, q1⟩ => ?_)
  obtain ⟨c, rfl, q1⟩ := q1
  cases r1
  refine wpAny_truthy_bool ?_
  cases c with
  | true => exact hb pins s1 σ H1 Q I1 q1
  | false => exact ⟨.bl false, H1, I1, rfl, q1⟩
theorem pe_not (ha : PE X a ta) : PE X (.UnaryOp .Not a pos) (tNotV ta) := by
  intro pins s σ H Q I h
  refine UnaryOp_ (thn (ha pins s σ H _ I h) fun v s1 ⟨x, H1, I1, r1, q1⟩ => ?_)
  obtain ⟨c, rfl, q1⟩ := q1
  cases r1
  exact not_of (wpAny_truthy_bool ⟨.bl (!c), H1, I1, rfl, q1⟩)
def tIf (t : TT) (ta tb : TE) : TE := fun σ H Q => t σ H fun c H1 => if c = true then ta σ H1 Q else tb σ H1 Q
theorem pe_ifExp {c : Expr} (hc : PT X c tA) (ha : PE X a ta) (hb : PE X b tb) : PE X (.IfExp c a b pos) (tIf tA ta tb) := by
  intro pins s σ H Q I h
  refine wpAny_IfExp (thn (hc pins s σ H _ I h) fun d s1 ⟨H1, I1, q1⟩ => ?_)
  cases d with
  | true => exact ha pins s1 σ H1 Q I1 q1
  | false => exact hb pins s1 σ H1 Q I1 q1
end
end L2
namespace L2
open PySem PySem.Spec PyProof.Rows
def SqL (K : PySem.W.Frag) (H : Hp) (a : Addr) (xs : List V) : Prop :=
  Rd H a (.lst xs) ∨
    ∃ (o : Obj) (its : Array Value) (n : Nat), K.lookup a = some o ∧ o.cls = .type "list" ∧ o.dict = none ∧ o.data = .seq its n ∧ its.size ≤ sizeLine ∧ Vals xs its.toList
def SqT (K : PySem.W.Frag) (H : Hp) (a : Addr) (xs : List V) : Prop :=
  Rd H a (.tup xs) ∨
    ∃ (o : Obj) (its : Array Value) (n : Nat), K.lookup a = some o ∧ o.cls = .type "tuple" ∧ o.data = .seq its n ∧ its.size ≤ sizeLine ∧ Vals xs its.toList
def absV : Value → Option V
  | .none => some .non
  | .bool b => some (.bl b)
  | .int i _ => some (.int i)
  | .str x _ => some (.str x)
  | .bytes b _ => some (.byt b)
  | .float b _ => some (.flt b)
  | .ref a => some (.ref a)
  | .type n => some (.ty n)
  | _ => none
theorem RelV.abs {x : V} {u : Value} (r : RelV x u) : absV u = some x := by
  cases x with
  | non => cases r; rfl
  | bl _ => cases r; rfl
  | int _ => obtain ⟨t, rfl⟩ := r; rfl
  | str _ => obtain ⟨t, rfl⟩ := r; rfl
  | byt _ => obtain ⟨t, rfl⟩ := r; rfl
  | flt _ => obtain ⟨t, rfl⟩ := r; rfl
  | ref _ => cases r; rfl
  | ty _ => cases r; rfl
theorem RelV.inj {x y : V} {u : Value} (r : RelV x u) (q : RelV y u) : x = y := Option.some.inj (r.abs.symm.trans q.abs)
theorem Vals.inj : ∀ {xs ys : List V} {us : List Value}, Vals xs us → Vals ys us → xs = ys
  | _, _, _, .nil, .nil => rfl
  | _, _, _, .cons r t, .cons r' t' => by rw [r.inj r', Vals.inj t t']
section
variable {X : Cx} {pins : List (Addr × Obj)} {σ : St} {H : Hp} {s : Shared} {a : Addr} {xs ys : List V}
theorem SqL.of {K : PySem.W.Frag} (h : H a = some (.lst xs)) : SqL K H a xs := .inl (.inl h)
theorem SqT.of {K : PySem.W.Frag} (h : H a = some (.tup xs)) : SqT K H a xs := .inl (.inl h)
theorem Inv.list (I : Inv X pins σ H s) (h : SqL X.K H a xs) : ∃ its : List Value, Vals xs its ∧ PlainL s.heap a its.toArray ∧ xs.length ≤ sizeLine := by
  rcases h with h | ⟨o, its, n, hk, hc, hd, hs, hz, r⟩
  · obtain ⟨z, its, n, r, e⟩ := h.ok I.hok
    exact ⟨its, r, ⟨_, n, e, rfl, rfl, rfl⟩, z⟩
  · refine ⟨its.toList, r, ⟨o, n, I.kIn a o hk, hc, hd, by simpa using hs⟩, ?_⟩
    have e := r.length
    simp only [Array.length_toList] at e
    omega
theorem Inv.tuple (I : Inv X pins σ H s) (h : SqT X.K H a xs) : ∃ its : List Value, Vals xs its ∧ IsTup s.heap a its.toArray ∧ xs.length ≤ sizeLine := by
  rcases h with h | ⟨o, its, n, hk, hc, hs, hz, r⟩
  · obtain ⟨z, its, r, p⟩ := h.ok I.hok
    exact ⟨its, r, p, z⟩
  · refine ⟨its.toList, r, ⟨o, I.kIn a o hk, hc, n, by simpa using hs⟩, ?_⟩
    have e := r.length
    simp only [Array.length_toList] at e
    omega
theorem Inv.list_inj (I : Inv X pins σ H s) (h : SqL X.K H a xs) (h' : SqL X.K H a ys) : xs = ys := by
  obtain ⟨its, r, ⟨o, n, e, _, _, d⟩, _⟩ := I.list h
  obtain ⟨its', r', ⟨o', n', e', _, _, d'⟩, _⟩ := I.list h'
  rw [e] at e'; cases e'
  rw [d] at d'
  injection d' with d1 _
  have : its = its' := by simpa using congrArg Array.toList d1
  subst this
  exact r.inj r'
theorem Inv.tuple_inj (I : Inv X pins σ H s) (h : SqT X.K H a xs) (h' : SqT X.K H a ys) : xs = ys := by
  obtain ⟨its, r, ⟨o, e, _, n, d⟩, _⟩ := I.tuple h
  obtain ⟨its', r', ⟨o', e', _, n', d'⟩, _⟩ := I.tuple h'
  rw [e] at e'; cases e'
  rw [d] at d'
  injection d' with d1 _
  have : its = its' := by simpa using congrArg Array.toList d1
  subst this
  exact r.inj r'
end
abbrev Cx.wish (X : Cx) (E : Value → Shared → Prop) : Cx := { X with xe := E }
abbrev Cx.nox (X : Cx) : Cx := X.wish fun _ _ => False
theorem Cx.Ok.wish {X : Cx} (ok : X.Ok) (E : Value → Shared → Prop) : (X.wish E).Ok :=
  ⟨ok.mod, ok.kind, ok.glob, ok.blt, ok.above, ok.inj, ok.has, ok.cab, ok.hd, ok.frames, ok.stk, ok.exf, ok.bs, ok.bsz, ok.noex, ok.exfs, ok.funs, ok.frf⟩
theorem Cx.Ok.unwish {X : Cx} {E : Value → Shared → Prop} (ok : (X.wish E).Ok) : X.Ok :=
  ⟨ok.mod, ok.kind, ok.glob, ok.blt, ok.above, ok.inj, ok.has, ok.cab, ok.hd, ok.frames, ok.stk, ok.exf, ok.bs, ok.bsz, ok.noex, ok.exfs, ok.funs, ok.frf⟩
section
variable {X : Cx} {pins : List (Addr × Obj)} {σ : St} {H : Hp} {s : Shared} {E : Value → Shared → Prop}
theorem Inv.wish (I : Inv X pins σ H s) (E : Value → Shared → Prop) : Inv (X.wish E) pins σ H s := ⟨I.ok.wish E, I.os, I.bare, I.base, I.loc, I.cell, I.free, I.freeC, I.pin, I.hok, I.len⟩
theorem Inv.unwish (I : Inv (X.wish E) pins σ H s) : Inv X pins σ H s := ⟨I.ok.unwish, I.os, I.bare, I.base, I.loc, I.cell, I.free, I.freeC, I.pin, I.hok, I.len⟩
theorem SP.unwish {D : Ends} {f : Flow} {s' : Shared} (h : SP (X.wish E) pins D f s') : SP X pins D f s' := by
  cases f with
  | next => obtain ⟨σ', H', I, q⟩ := h; exact ⟨σ', H', I.unwish, q⟩
  | brk => obtain ⟨σ', H', I, q⟩ := h; exact ⟨σ', H', I.unwish, q⟩
  | cont => obtain ⟨σ', H', I, q⟩ := h; exact ⟨σ', H', I.unwish, q⟩
  | ret u => obtain ⟨v, σ', H', I, r, q⟩ := h; exact ⟨v, σ', H', I.unwish, r, q⟩
theorem PSs.nox {st : List Stmt} {t : TS} (h : PSs X.nox st t) : PSs X st t := fun pins s σ H D I hw =>
  wpAny_mono (h pins s σ H D (I.wish _) hw) (fun _ _ q => q.unwish) fun _ _ z => False.elim z
end
section
variable {X : Cx} {st : Stmt} {rest : List Stmt} {t u : TS} {e : Expr} {te : TE} {pos : Pos}
def tNext : TS := fun D σ H => D.nx σ H
def tSeq (t u : TS) : TS := fun D σ H => t { D with nx := u D } σ H
theorem pss_nil : PSs X [] tNext := fun _ _ σ H _ I h => wpAny_execs_nil ⟨σ, H, I, h⟩
theorem pss_cons (h1 : PS X st t) (h2 : PSs X rest u) : PSs X (st :: rest) (tSeq t u) := by
  intro pins s σ H D I h
  refine wpAny_execs_cons (thn (h1 pins s σ H { D with nx := u D } I h) fun f s1 q => ?_)
  cases f with
  | next =>
    obtain ⟨σ', H', I', q⟩ := q
    exact h2 pins s1 σ' H' D I' q
  | ret v => exact q
  | brk => exact q
  | cont => exact q
theorem pss_one (h1 : PS X st t) : PSs X [st] t := by
  intro pins s σ H D I h
  refine wpAny_execs_cons (thn (h1 pins s σ H D I h) fun f s1 q => ?_)
  cases f with
  | next => exact wpAny_execs_nil q
  | ret v => exact q
  | brk => exact q
  | cont => exact q
def tBreak : TS := fun D σ H => D.bk σ H
def tCont : TS := fun D σ H => D.ct σ H
theorem Inv.quiet {pins : List (Addr × Obj)} {σ : St} {H : Hp} {s : Shared} (I : Inv X pins σ H s) : interactive X.env = false := by simp [interactive, I.ok.kind]
def tDrop (te : TE) : TS := fun D σ H => te σ H fun _ H1 => D.nx σ H1
theorem ps_expr (he : PE X e te) (hs : swapsWith e none pos.line X.env = pure false := by rfl) : PS X (.Expr e pos) (tDrop te) := by
  intro pins s σ H D I h
  exact wpAny_Expr_any (thn (he pins s σ H _ I h) fun v s1 ⟨x, H1, I1, r1, q1⟩ => ⟨σ, H1, I1, q1⟩) I.quiet hs
def tRet (te : TE) : TS := fun D σ H => te σ H D.rt
theorem ps_ret (he : PE X e te) : PS X (.Return (some e) pos) (tRet te) := by
  intro pins s σ H D I h
  exact wpAny_Return_some (thn (he pins s σ H _ I h) fun v s1 ⟨x, H1, I1, r1, q1⟩ => ⟨x, σ, H1, I1, r1, q1⟩)
def tRetN : TS := fun D _ H => D.rt .non H
def tIfS (c : TT) (t u : TS) : TS := fun D σ H => c σ H fun b H1 => if b = true then t D σ H1 else u D σ H1
theorem ps_if {c : Expr} {a b : List Stmt} {tc : TT} (hc : PT X c tc) (ha : PSs X a t) (hb : PSs X b u) : PS X (.If c a b pos) (tIfS tc t u) := by
  intro pins s σ H D I h
  refine wpAny_If (thn (hc pins s σ H _ I h) fun d s1 ⟨H1, I1, q1⟩ => ?_)
  cases d with
  | true => exact ha pins s1 σ H1 D I1 q1
  | false => exact hb pins s1 σ H1 D I1 q1
def tNever : TS := fun _ _ _ => False
end
abbrev TG := V → St → Hp → (St → Hp → Prop) → Prop
abbrev TGs := List V → St → Hp → (St → Hp → Prop) → Prop
def PG (X : Cx) (target : Expr) (t : TG) : Prop :=
  ∀ (pins : List (Addr × Obj)) (s : Shared) (σ : St) (H : Hp) (v : V) (u : Value) (Q : St → Hp → Prop), Inv X pins σ H s → RelV v u → t v σ H Q →
    wpAny (model X.prog X.w) X.A (assign target X.env u) (fun _ s' => ∃ σ' H', Inv X pins σ' H' s' ∧ Q σ' H') X.xe s
def PGs (X : Cx) (ts : List Expr) (t : TGs) : Prop :=
  ∀ (pins : List (Addr × Obj)) (s : Shared) (σ : St) (H : Hp) (vs : List V) (us : List Value) (Q : St → Hp → Prop), Inv X pins σ H s → Vals vs us → t vs σ H Q →
    wpAny (model X.prog X.w) X.A (assignInOrder ((assignEach ts X.env).map (·.2)) us) (fun _ s' => ∃ σ' H', Inv X pins σ' H' s' ∧ Q σ' H') X.xe s
abbrev TSet := V → V → V → Hp → (Hp → Prop) → Prop
def PSet (X : Cx) (t : TSet) : Prop :=
  ∀ (pins : List (Addr × Obj)) (s : Shared) (σ : St) (H : Hp) (o i v : V) (ov iv u : Value) (Q : Hp → Prop), Inv X pins σ H s → RelV o ov → RelV i iv → RelV v u → t o i v H Q →
    wpAny (model X.prog X.w) X.A (setItem ov iv u) (fun _ s' => ∃ H', Inv X pins σ H' s' ∧ Q H') X.xe s
abbrev TIp := V → V → Hp → VK → Prop
def PIp (X : Cx) (op : Operator) (t : TIp) : Prop :=
  ∀ (pins : List (Addr × Obj)) (s : Shared) (σ : St) (H : Hp) (x y : V) (v u : Value) (Q : VK), Inv X pins σ H s → RelV x v → RelV y u → t x y H Q →
    wpAny (model X.prog X.w) X.A (inplaceOp op v u) (EP X pins σ Q) X.xe s
section
variable {X : Cx} {pos : Pos}
def gName (i : Nat) : TG := fun v σ H Q => Q (σ.set i (some v)) H
theorem pg_name {i : Nat} {x : Str} (hN : X.N.Nodup) (hi : X.N[i]? = some x) (hx : Loc X.env.scope x) (hf : X.fn x = true ∨ X.env.scope.names.lookup x = some .local := by first | exact .inl rfl | exact .inr rfl | assumption) : PG X (.Name x pos) (gName i) := by
  intro pins s σ H v u Q I r h
  exact wpAny_assign_Name (store_ok I hN hi hx r (fun s' I' => ⟨_, H, I', h⟩) hf)
def gNil : TGs := fun vs σ H Q => vs = [] ∧ Q σ H
def gCons (t : TG) (u : TGs) : TGs := fun vs σ H Q => ∃ v r, vs = v :: r ∧ t v σ H fun σ' H' => u r σ' H' Q
def gTup (K : PySem.W.Frag) (n : Nat) (t : TGs) : TG := fun v σ H Q => ∃ a xs, v = .ref a ∧ SqT K H a xs ∧ xs.length = n ∧ t xs σ H Q
def gSub (to ti : TE) (t : TSet) : TG := fun v σ H Q => to σ H fun o H1 => ti σ H1 fun i H2 => t o i v H2 fun H3 => Q σ H3
def tAsg (te : TE) (g : TG) : TS := fun D σ H => te σ H fun x H1 => g x σ H1 D.nx
theorem ps_set {i : Nat} {x : Str} {e : Expr} {te : TE} {pos' : Pos} (hN : X.N.Nodup) (hi : X.N[i]? = some x) (hx : Loc X.env.scope x) (he : PE X e te) (hs : swapsWith e (some (.Name x pos')) pos.line X.env = pure false := by rfl) (hf : X.fn x = true ∨ X.env.scope.names.lookup x = some .local := by first | exact .inl rfl | exact .inr rfl | assumption) :
    PS X (.Assign [.Name x pos'] e pos) (tAsg te (gName i)) := by
  intro pins s σ H D I h
  refine wpAny_Assign_Name (thn (he pins s σ H _ I h) fun v s1 ⟨y, H1, I1, r1, q1⟩ => ?_) hs
  exact store_ok I1 hN hi hx r1 (fun s2 I2 => ⟨_, H1, I2, q1⟩) hf
def tPar (i j : Nat) (ta : TA) : TS := fun D σ H => ta σ H fun vs H1 => ∃ v w, vs = [v, w] ∧ D.nx ((σ.set i (some v)).set j (some w)) H1
def tAug (i : Nat) (te : TE) (ti : TIp) : TS := fun D σ H => ∃ x, σ[i]? = some (some x) ∧ te σ H fun y H1 => ti x y H1 fun z H2 => D.nx (σ.set i (some z)) H2
def tAugS (to ti te : TE) (tget : V → V → Hp → VK → Prop) (tip : TIp) (tset : TSet) : TS := fun D σ H => to σ H fun o H1 => ti σ H1 fun i H2 => tget o i H2 fun x H3 => te σ H3 fun y H4 => tip x y H4 fun z H5 => tset o i z H5 fun H6 => D.nx σ H6
def PGet (X : Cx) (t : V → V → Hp → VK → Prop) : Prop :=
  ∀ (pins : List (Addr × Obj)) (s : Shared) (σ : St) (H : Hp) (o i : V) (ov iv : Value) (Q : VK), Inv X pins σ H s → RelV o ov → RelV i iv → t o i H Q →
    wpAny (model X.prog X.w) X.A (getItem ov iv) (EP X pins σ Q) X.xe s
def ipI (f : Int → Int → Int) : TIp := fun x y H Q => ∃ i j, x = .int i ∧ y = .int j ∧ Q (.int (f i j)) H
end
section
variable {X : Cx} {pos : Pos}
def tWhile (c : TT) (tb : TS) : TS := fun D σ H => ∃ W : Nat → St → Hp → Prop, (∃ m, W m σ H) ∧ ∀ m σ H, W m σ H →
  c σ H fun b H1 => if b = true then ∃ N : St → Hp → Prop, (∀ σ' H', N σ' H' → ∃ m', m' < m ∧ W m' σ' H') ∧ tb { D with nx := N, ct := N, bk := D.nx } σ H1 else D.nx σ H1
end
structure It where
  go : Nat → Hp → Prop
  yld : Nat → Hp → V → Hp → Prop
  stop : Nat → Hp → Prop
def FpOk (X : Cx) (pins : List (Addr × Obj)) (H : Hp) (b : Addr) : Prop :=
  H b = none ∧ b ≠ X.env.locals ∧ b ∉ X.fs ∧ (b ∈ X.ex ∨ X.s₀.heap.objs.size ≤ b) ∧ (∀ x c, X.env.cells.lookup x = some c → c ≠ b) ∧ ∀ p ∈ X.pn ++ pins, p.1 ≠ b
theorem Inv.fpOk {X : Cx} {pins : List (Addr × Obj)} {σ : St} {H H' : Hp} {s : Shared} {b : Addr} (I : Inv X pins σ H s) (hb : s.heap.objs.size ≤ b) (hn : H' b = none) : FpOk X pins H' b := by
  refine ⟨hn, Nat.ne_of_gt (Nat.lt_of_lt_of_le I.lt hb), I.nofs hb, .inr (Nat.le_trans I.sz hb), fun x c e z => ?_, fun p hp z => ?_⟩
  · obtain ⟨v, q⟩ := I.cell x c e
    exact absurd (Nat.lt_of_lt_of_le q.lt (by rw [z]; exact hb)) (Nat.lt_irrefl _)
  · exact absurd (Nat.lt_of_lt_of_le (Heap.lt_size (I.pin p hp).1) (by rw [z]; exact hb)) (Nat.lt_irrefl _)
structure Turn (P : Program) (w : World) (K : PySem.W.Frag) (tg : Expr) (J : It) (fp : List Addr) (it : Addr) (tn : Nat → Heap → Prop) : Prop where
  mem : it ∈ fp
  obj : ∀ i h, tn i h → ∀ b ∈ fp, ∃ o, h.get? b = some o ∧ ∀ v, o.data ≠ .cell v
  keep : ∀ i h h', tn i h → (∀ b ∈ fp, ∀ o, h.get? b = some o → h'.get? b = some o) → tn i h'
  item : ∀ (X : Cx), X.prog = P → X.w = w → X.K = K → X.calm = true → ∀ (i : Nat) (pins : List (Addr × Obj)) (s : Shared) (σ : St) (H : Hp) (E : Value → Shared → Prop), Inv X pins σ H s → (∀ b ∈ fp, FpOk X pins H b) → tn i s.heap → J.go i H →
    wpAny (model P w) X.A (pyNext (.ref it)) (fun r s1 => ∃ u, r = some u ∧
      wpAny (model P w) X.A (letOwnedTupleGo tg (.ref it) u) (fun _ s2 => ∃ x H', Inv X pins σ H' s2 ∧ RelV x u ∧ J.yld i H x H' ∧ tn (i + 1) s2.heap ∧ ∀ b ∈ fp, H' b = none) E s1) E s
  done : ∀ (X : Cx), X.prog = P → X.w = w → X.K = K → X.calm = true → ∀ (i : Nat) (pins : List (Addr × Obj)) (s : Shared) (σ : St) (H : Hp) (E : Value → Shared → Prop), Inv X pins σ H s → (∀ b ∈ fp, FpOk X pins H b) → tn i s.heap → J.stop i H →
    wpAny (model P w) X.A (pyNext (.ref it)) (fun r s1 => r = none ∧ Inv X pins σ H s1) E s
  self : ∀ (A : Around) (i : Nat) (s : Shared) (Q : Value → Shared → Prop) (E : Value → Shared → Prop), tn i s.heap → Q (.ref it) s → wpAny (model P w) A (pyIter (.ref it)) Q E s
abbrev TI := St → Hp → (It → Hp → Prop) → Prop
def PIE (X : Cx) (pins : List (Addr × Obj)) (σ : St) (tg : Expr) (R : It → Hp → Prop) (itv : Value) (s2 : Shared) : Prop :=
  ∃ (it : Addr) (fp : List Addr) (tn : Nat → Heap → Prop) (J : It) (H' : Hp), itv = .ref it ∧ Inv X pins σ H' s2 ∧ Turn X.prog X.w X.K tg J fp it tn ∧ tn 0 s2.heap ∧ (∀ b ∈ fp, FpOk X pins H' b) ∧ R J H'
def PI (X : Cx) (tg iter : Expr) (wi : TI) : Prop :=
  ∀ (pins : List (Addr × Obj)) (s : Shared) (σ : St) (H : Hp) (R : It → Hp → Prop), Inv X pins σ H s → wi σ H R →
    wpAny (model X.prog X.w) X.A (eval iter X.env) (fun v s1 => wpAny (model X.prog X.w) X.A (pyIter v) (PIE X pins σ tg R) X.xe s1) X.xe s
theorem go_of {M : Model} {A : Around} {E : Value → Shared → Prop} {s : Shared} {tg : Expr} {it : Addr} {u : Value} {o : Obj} {n : String} {vs : Array Value} {Q : Unit → Shared → Prop} (ho : s.heap.get? it = some o) (hc : o.cls = .type n) (hd : o.data = .fields vs)
    (hn : ["enumerate", "zip", "dict_itemiterator", "dict_reverseitemiterator", "odict_iterator", "itertools.zip_longest", "itertools.pairwise"].contains n = false) (hQ : Q () s) : wpAny M A (letOwnedTupleGo tg (.ref it) u) Q E s := by
  unfold letOwnedTupleGo
  cases tg <;> first
    | exact wpAny_pure hQ
    | (cases u <;> first
        | exact wpAny_pure hQ
        | (refine wpAny_bind (wpAny_load ho ?_)
           rw [hc, hd]
           show wpAny M A (if (["enumerate", "zip", "dict_itemiterator", "dict_reverseitemiterator", "odict_iterator", "itertools.zip_longest", "itertools.pairwise"].contains n && vs[0]? == some (rawInt _)) = true then _ else _) Q E s
           rw [if_neg (by intro h; rw [hn, Bool.false_and] at h; cases h)]
           exact wpAny_pure hQ))
def Itl (K : PySem.W.Frag) (a : Addr) : It :=
  ⟨fun i H => ∃ xs x, SqL K H a xs ∧ xs[i]? = some x, fun i H x H' => H' = H ∧ ∀ xs, SqL K H a xs → xs[i]? = some x, fun i H => ∃ xs, SqL K H a xs ∧ xs.length ≤ i⟩
def Itt (K : PySem.W.Frag) (a : Addr) : It :=
  ⟨fun i H => ∃ xs x, SqT K H a xs ∧ xs[i]? = some x, fun i H x H' => H' = H ∧ ∀ xs, SqT K H a xs → xs[i]? = some x, fun i H => ∃ xs, SqT K H a xs ∧ xs.length ≤ i⟩
def Itr (lo : Int) (n : Nat) : It := ⟨fun i _ => i < n, fun i H x H' => H' = H ∧ x = .int (lo + i), fun i _ => n ≤ i⟩
theorem turn_list {P : Program} {w : World} {K : PySem.W.Frag} {tg : Expr} (a it : Addr) : Turn P w K tg (Itl K a) [it] it (fun i h => h.IsListIter it a i) where
  mem := by simp
  obj := fun i h st b hb => by
    have e : b = it := by simpa using hb
    subst e
    obtain ⟨o, e, c, d⟩ := st
    exact ⟨o, e, fun v z => by rw [d] at z; cases z⟩
  keep := fun i h h' st k => st.at fun o e => k it (by simp) o e
  item := by
    intro X hP hw hK hc i pins s σ H E I hf st hg
    subst hP hw hK
    obtain ⟨xs, x, hq, hx⟩ := hg
    obtain ⟨its, rv, p, hz⟩ := I.list hq
    obtain ⟨u, hu, ru⟩ := rv.get hx
    obtain ⟨f0, f1, f2, f3, f4, f5⟩ := hf it (by simp)
    refine wpAny_pyNext_list_item st p.isList (x := u) (by simpa using hu) fun h' st' sb => ?_
    have I1 : Inv X pins σ H { s with heap := h' } := I.turned (t' := s.toks) (fun b o hb e => (sb.2 b hb).trans e) f0 f1 f3 f4 f5
    obtain ⟨o, e, c, d⟩ := id st'
    exact ⟨u, rfl, go_of (s := { s with heap := h' }) e c d (by decide) ⟨x, H, I1, ru, ⟨rfl, fun ys hy => by rw [I.list_inj hy hq]; exact hx⟩, st', fun b hb => (hf b hb).1⟩⟩
  done := by
    intro X hP hw hK hc i pins s σ H E I hf st hg
    subst hP hw hK
    obtain ⟨xs, hq, hx⟩ := hg
    obtain ⟨its, rv, p, hz⟩ := I.list hq
    obtain ⟨f0, f1, f2, f3, f4, f5⟩ := hf it (by simp)
    have hl := rv.length
    exact wpAny_pyNext_list_end (I.ok.hd hc) st p.isList (by simp; omega) fun h' eb => ⟨rfl, I.turned (t' := s.toks) (fun b o hb e => eb b o hb e) f0 f1 f3 f4 f5⟩
  self := fun _ _ _ _ _ st h => wpAny_pyIter_listiter st h
theorem turn_tuple {P : Program} {w : World} {K : PySem.W.Frag} {tg : Expr} (a it : Addr) : Turn P w K tg (Itt K a) [it] it (fun i h => h.IsTupleIter it a i) where
  mem := by simp
  obj := fun i h st b hb => by
    have e : b = it := by simpa using hb
    subst e
    obtain ⟨o, e, c, d⟩ := st
    exact ⟨o, e, fun v z => by rw [d] at z; cases z⟩
  keep := fun i h h' st k => st.at fun o e => k it (by simp) o e
  item := by
    intro X hP hw hK hc i pins s σ H E I hf st hg
    subst hP hw hK
    obtain ⟨xs, x, hq, hx⟩ := hg
    obtain ⟨its, rv, p, hz⟩ := I.tuple hq
    obtain ⟨u, hu, ru⟩ := rv.get hx
    obtain ⟨f0, f1, f2, f3, f4, f5⟩ := hf it (by simp)
    refine wpAny_pyNext_tuple_item st (show s.heap.IsTuple a its.toArray from p) (x := u) (by simpa using hu) fun h' st' sb => ?_
    have I1 : Inv X pins σ H { s with heap := h' } := I.turned (t' := s.toks) (fun b o hb e => (sb.2 b hb).trans e) f0 f1 f3 f4 f5
    obtain ⟨o, e, c, d⟩ := id st'
    exact ⟨u, rfl, go_of (s := { s with heap := h' }) e c d (by decide) ⟨x, H, I1, ru, ⟨rfl, fun ys hy => by rw [I.tuple_inj hy hq]; exact hx⟩, st', fun b hb => (hf b hb).1⟩⟩
  done := by
    intro X hP hw hK hc i pins s σ H E I hf st hg
    subst hP hw hK
    obtain ⟨xs, hq, hx⟩ := hg
    obtain ⟨its, rv, p, hz⟩ := I.tuple hq
    obtain ⟨f0, f1, f2, f3, f4, f5⟩ := hf it (by simp)
    have hl := rv.length
    exact wpAny_pyNext_tuple_end (I.ok.hd hc) st (show s.heap.IsTuple a its.toArray from p) (by simp; omega) fun h' eb => ⟨rfl, I.turned (t' := s.toks) (fun b o hb e => eb b o hb e) f0 f1 f3 f4 f5⟩
  self := fun _ _ _ _ _ st h => wpAny_pyIter_tupleiter st h
theorem turn_range {P : Program} {w : World} {K : PySem.W.Frag} {tg : Expr} (it : Addr) (lo : Int) (n : Nat) : Turn P w K tg (Itr lo n) [it] it (fun i h => IsRangeIter h it (lo + (i : Nat) * 1) ((n : Int) - (i : Nat)) 1) where
  mem := by simp
  obj := fun i h st b hb => by
    have e : b = it := by simpa using hb
    subst e
    exact ⟨_, st, fun v z => by
      have z' : Data.fields _ = Data.cell v := z
      cases z'⟩
  keep := fun i h h' st k => k it (by simp) _ st
  item := by
    intro X hP hw hK hc i pins s σ H E I hf st hg
    subst hP hw hK
    obtain ⟨f0, f1, f2, f3, f4, f5⟩ := hf it (by simp)
    have W := Walks.range (prog := X.prog) (w := X.w) (I.ok.hd hc) it lo 1 n
    refine W.item i s _ _ hg st fun v h' tk hv st' kk => ?_
    obtain ⟨t, rfl⟩ := hv
    have I1 : Inv X pins σ H { s with heap := h', toks := tk } := I.turned (fun b o hb e => kk b o (by simpa using hb) e) f0 f1 f3 f4 f5
    refine ⟨_, rfl, go_of (s := { s with heap := h', toks := tk }) (n := "range_iterator") st' rfl rfl (by decide) ⟨.int (lo + i), H, I1, ⟨t, ?_⟩, ⟨rfl, rfl⟩, st', fun b hb => (hf b hb).1⟩⟩
    rw [Int.mul_one]
  done := by
    intro X hP hw hK hc i pins s σ H E I hf st hg
    subst hP hw hK
    obtain ⟨f0, f1, f2, f3, f4, f5⟩ := hf it (by simp)
    exact wpAny_pyNext_range_end (I.ok.hd hc) st (by have : n ≤ i := hg; omega) fun h' eb => ⟨rfl, I.turned (t' := s.toks) (fun b o hb e => eb b o hb e) f0 f1 f3 f4 f5⟩
  self := fun _ _ _ _ _ st h => wpAny_pyIter_rangeiter st h
end L2
namespace L2
open PySem PySem.Spec PyProof.Rows
section
variable {X : Cx} {tg : Expr}
def iList (K : PySem.W.Frag) (tl : TE) : TI := fun σ H R => tl σ H fun x H1 => ∃ a, x = .ref a ∧ (∃ xs, SqL K H1 a xs) ∧ R (Itl K a) H1
def iTup (K : PySem.W.Frag) (tl : TE) : TI := fun σ H R => tl σ H fun x H1 => ∃ a, x = .ref a ∧ (∃ xs, SqT K H1 a xs) ∧ R (Itt K a) H1
theorem pi_list {l : Expr} {tl : TE} (hl : PE X l tl) : PI X tg l (iList X.K tl) := by
  intro pins s σ H R I h
  refine thn (hl pins s σ H _ I h) fun v s1 ⟨x, H1, I1, r1, q1⟩ => ?_
  obtain ⟨a, e, ⟨xs, hq⟩, q⟩ := q1
  subst e
  cases r1
  obtain ⟨its, rv, p, hz⟩ := I1.list hq
  refine wpAny_pyIter_list p.isList ?_
  refine ⟨s1.heap.objs.size, [s1.heap.objs.size], _, _, H1, rfl, I1.kept (t' := s1.toks) fun b o e => Heap.get?_push_of_some _ e, turn_list a _, ⟨_, Heap.get?_push_size _ rfl, rfl, rfl⟩, fun b hb => ?_, q⟩
  have e : b = s1.heap.objs.size := by simpa using hb
  subst e
  exact I1.fpOk (Nat.le_refl _) (I1.hok.fresh (Nat.le_refl _))
theorem range_it {pins : List (Addr × Obj)} {σ : St} {H : Hp} {s : Shared} {R : It → Hp → Prop} {E : Value → Shared → Prop} {lo hi : Int} {t u v : Tok} {tk : Nat} (I : Inv X pins σ H s) (h1 : -(2 ^ 62) ≤ lo) (h2 : lo < 2 ^ 62) (h3 : -(2 ^ 62) ≤ hi) (h4 : hi < 2 ^ 62)
    (q : R (Itr lo (hi - lo).toNat) H) : wpAny (model X.prog X.w) X.A (pyIter (.ref s.heap.objs.size)) (PIE X pins σ tg R) E { s with heap := s.heap.push { cls := .type "range", data := .fields #[.int lo t, .int hi u, .int 1 v] }, toks := tk } := by
  refine wpAny_pyIter_range (IsRange.new ..) (small_one h1 h2 h3 h4) ?_
  have I1 : Inv X pins σ H { s with heap := s.heap.push { cls := .type "range", data := .fields #[.int lo t, .int hi u, .int 1 v] }, toks := tk } := I.kept fun b o e => Heap.get?_push_of_some _ e
  refine ⟨(s.heap.push { cls := .type "range", data := .fields #[.int lo t, .int hi u, .int 1 v] }).objs.size, [(s.heap.push { cls := .type "range", data := .fields #[.int lo t, .int hi u, .int 1 v] }).objs.size], _, _, H, rfl,
    I1.kept (t' := tk) fun b o e => Heap.get?_push_of_some _ e, turn_range _ lo (hi - lo).toNat, ?_, fun b hb => ?_, q⟩
  · have e1 : lo + ((0 : Nat) : Int) * 1 = lo := by simp
    have e2 : (((hi - lo).toNat : Nat) : Int) - ((0 : Nat) : Int) = Builtin.Range.rangeSize lo hi 1 := by rw [rangeSize_one]; split <;> omega
    show IsRangeIter _ _ (lo + ((0 : Nat) : Int) * 1) ((((hi - lo).toNat : Nat) : Int) - ((0 : Nat) : Int)) 1
    rw [e1, e2]
    exact Heap.get?_push_size _ rfl
  · have e : b = (s.heap.push { cls := .type "range", data := .fields #[.int lo t, .int hi u, .int 1 v] }).objs.size := by simpa using hb
    subst e
    exact I1.fpOk (Nat.le_refl _) (I1.hok.fresh (Nat.le_refl _))
def iRng1 (ta : TA) : TI := fun σ H R => ta σ H fun vs H1 => ∃ j : Int, vs = [.int j] ∧ -(2 ^ 62) ≤ j ∧ j < 2 ^ 62 ∧ R (Itr 0 j.toNat) H1
def iRng2 (ta : TA) : TI := fun σ H R => ta σ H fun vs H1 => ∃ i j : Int, vs = [.int i, .int j] ∧ (-(2 ^ 62) ≤ i ∧ i < 2 ^ 62 ∧ -(2 ^ 62) ≤ j ∧ j < 2 ^ 62) ∧ R (Itr i (j - i).toNat) H1
theorem pi_range1 {a : Expr} {ta : TA} {p pos : Pos} (hg : Gl X "range") (hm : X.mg "range" = none) (ha : PA X [a] ta) (hs : starEach [a] X.env = [(false, eval a X.env)] := by rfl) : PI X tg (.Call (.Name "range" p) [a] [] pos) (iRng1 ta) := by
  intro pins s σ H R I h
  refine Call_ (ld_blt I hg hm boot_range (PyProof.Rows.callWith_type1 (thn (ha pos pins s σ H _ I h) fun us s1 ⟨vs, H1, I1, r1, q1⟩ => ?_) hs rfl))
  obtain ⟨j, e, q1, q2, q⟩ := q1
  subst e
  cases r1 with
  | cons r rr =>
    cases rr
    obtain ⟨t, rfl⟩ := r
    exact call_range_1 (range_it I1 (by omega) (by omega) q1 q2 (by simpa using q))
def tFor (wi : TI) (g : TG) (tb : TS) : TS := fun D σ H => wi σ H fun J H1 => ∃ W : Nat → Nat → St → Hp → Prop, (∃ m, W 0 m σ H1) ∧ ∀ i m σ H, W i m σ H →
  (J.stop i H ∧ D.nx σ H) ∨ (J.go i H ∧ ∃ N : St → Hp → Prop, (∀ σ' H', N σ' H' → ∃ m', m' < m ∧ W (i + 1) m' σ' H') ∧ ∀ x H', J.yld i H x H' → g x σ H' fun σ2 H2 => tb { D with nx := N, ct := N, bk := D.nx } σ2 H2)
def pinsAt (fp : List Addr) (h : Heap) : List (Addr × Obj) := fp.filterMap fun b => (h.get? b).map fun o => (b, o)
theorem mem_pinsAt {fp : List Addr} {h : Heap} {b : Addr} {o : Obj} (hb : b ∈ fp) (e : h.get? b = some o) : (b, o) ∈ pinsAt fp h := List.mem_filterMap.mpr ⟨b, hb, by rw [e]; rfl⟩
theorem of_pinsAt {fp : List Addr} {h : Heap} {p : Addr × Obj} (hp : p ∈ pinsAt fp h) : p.1 ∈ fp ∧ h.get? p.1 = some p.2 := by
  obtain ⟨b, hb, e⟩ := List.mem_filterMap.mp hp
  cases q : h.get? b with
  | none => rw [q] at e; cases e
  | some o =>
    rw [q] at e
    have e' : (b, o) = p := Option.some.inj e
    subst e'
    exact ⟨hb, q⟩
theorem Inv.pinned {pins : List (Addr × Obj)} {σ : St} {H : Hp} {s : Shared} {fp : List Addr} (I : Inv X pins σ H s) (hf : ∀ b ∈ fp, FpOk X pins H b) (ho : ∀ b ∈ fp, ∃ o, s.heap.get? b = some o ∧ ∀ v, o.data ≠ .cell v) : Inv X (pins ++ pinsAt fp s.heap) σ H s :=
  I.pins_of fun p hp => (List.mem_append.mp hp).elim (fun z => I.pin p (List.mem_append_right _ z)) fun z => by
    obtain ⟨hb, e⟩ := of_pinsAt z
    obtain ⟨f0, f1, f2, _⟩ := hf p.1 hb
    obtain ⟨o, e', d⟩ := ho p.1 hb
    rw [e] at e'; cases e'
    exact ⟨e, f0, f1, f2, d⟩
theorem Inv.unpinned {pins pl : List (Addr × Obj)} {σ : St} {H : Hp} {s : Shared} (I : Inv X (pins ++ pl) σ H s) : Inv X pins σ H s := I.pins_of fun p hp => I.pin p (List.mem_append_right _ (List.mem_append_left _ hp))
theorem ps_for {iter : Expr} {body : List Stmt} {wi : TI} {g : TG} {tb : TS} {pos : Pos} (hp : PassesOwn (model X.prog X.w) X.A X.env X.xe) (hc : X.calm = true) (hi : PI X tg iter wi) (hg : PG X tg g) (hb : PSs X body tb)
    (hs : ∀ x, foldedSetIterable iter X.env x = pure x := by intro _; rfl) : PS X (.For tg iter body [] pos) (tFor wi g tb) := by
  intro pins s σ H D I h
  refine wpAny_For (thn (hi pins s σ H _ I h) fun v s1 h1 => thn h1 fun itv s2 h2 => ?_) hs
  obtain ⟨it, fp, tn, J, H2, e, I2, T, st2, f2, W, ⟨m0, w0⟩, turn⟩ := h2
  subst e
  have stat : ∀ {H' : Hp}, (∀ b ∈ fp, H' b = none) → ∀ b ∈ fp, FpOk X pins H' b := fun hn b hb => ⟨hn b hb, (f2 b hb).2⟩
  refine codeAny_forLoop_any (fun n s' => ∃ i σ' H', Inv X pins σ' H' s' ∧ tn i s'.heap ∧ (∀ b ∈ fp, H' b = none) ∧ W i n σ' H') ?_ m0 ⟨0, σ, H2, I2, st2, fun b hb => (f2 b hb).1, w0⟩
  rintro n s3 ⟨i, σ3, H3, I3, st3, fr3, w3⟩
  rcases turn i n σ3 H3 w3 with ⟨stop, qn⟩ | ⟨go, N, hN, step⟩
  · refine wpAny_passesOwn hp (thn (T.done X rfl rfl rfl hc i pins s3 σ3 H3 X.xe I3 (stat fr3) st3 stop) fun r s4 ⟨hr, I4⟩ => ?_)
    subst hr
    exact wpAny_execs_nil ⟨σ3, H3, I4, qn⟩
  · refine wpAny_passesOwn hp (thn (T.item X rfl rfl rfl hc i pins s3 σ3 H3 X.xe I3 (stat fr3) st3 go) fun r s4 ⟨u, hr, h4⟩ => ?_)
    subst hr
    refine wpAny_passesOwn hp (thn h4 fun _ s5 ⟨x, H5, I5, r5, y5, st5, fr5⟩ => ?_)
    have I5' := I5.pinned (stat fr5) (T.obj _ _ st5)
    refine wpAny_passesOwn hp (thn (hg _ s5 σ3 H5 x u _ I5' r5 (step x H5 y5)) fun _ s6 ⟨σ6, H6, I6, q6⟩ => ?_)
    refine wpAny_passesOwn hp (thn (hb _ s6 σ6 H6 _ I6 q6) fun f s7 q7 => ?_)
    have again : ∀ {σ7 : St} {H7 : Hp}, Inv X (pins ++ pinsAt fp s5.heap) σ7 H7 s7 → N σ7 H7 → ∃ m, m < n ∧ ∃ i σ' H', Inv X pins σ' H' s7 ∧ tn i s7.heap ∧ (∀ b ∈ fp, H' b = none) ∧ W i m σ' H' := fun {σ7 H7} I7 n7 => by
      obtain ⟨m', hm, w7⟩ := hN σ7 H7 n7
      refine ⟨m', hm, i + 1, σ7, H7, I7.unpinned, T.keep _ _ _ st5 fun b hb o e => (I7.pin (b, o) (List.mem_append_right _ (List.mem_append_right _ (mem_pinsAt hb e)))).1, fun b hb => ?_, w7⟩
      obtain ⟨o, e, d⟩ := T.obj _ _ st5 b hb
      exact (I7.pin (b, o) (List.mem_append_right _ (List.mem_append_right _ (mem_pinsAt hb e)))).2.1
    cases f with
    | next => obtain ⟨σ7, H7, I7, n7⟩ := q7; exact again I7 n7
    | cont => obtain ⟨σ7, H7, I7, n7⟩ := q7; exact again I7 n7
    | brk => obtain ⟨σ7, H7, I7, q7⟩ := q7; exact ⟨σ7, H7, I7.unpinned, q7⟩
    | ret v => obtain ⟨x7, σ7, H7, I7, r7, q7⟩ := q7; exact ⟨x7, σ7, H7, I7.unpinned, r7, q7⟩
end
theorem for_list {K : PySem.W.Frag} {a : Addr} {xs : List V} {g : TG} {tb : TS} {D : Ends} {σ : St} {H : Hp} (Pv : Nat → St → Hp → Prop) (h0 : Pv 0 σ H) (hl : ∀ i σ H, i ≤ xs.length → Pv i σ H → SqL K H a xs)
    (hs : ∀ i x σ H, xs[i]? = some x → Pv i σ H → g x σ H fun σ2 H2 => tb { D with nx := Pv (i + 1), ct := Pv (i + 1), bk := D.nx } σ2 H2) (hd : ∀ σ H, Pv xs.length σ H → D.nx σ H) :
    ∃ W : Nat → Nat → St → Hp → Prop, (∃ m, W 0 m σ H) ∧ ∀ i m σ H, W i m σ H →
      ((Itl K a).stop i H ∧ D.nx σ H) ∨ ((Itl K a).go i H ∧ ∃ N : St → Hp → Prop, (∀ σ' H', N σ' H' → ∃ m', m' < m ∧ W (i + 1) m' σ' H') ∧ ∀ x H', (Itl K a).yld i H x H' → g x σ H' fun σ2 H2 => tb { D with nx := N, ct := N, bk := D.nx } σ2 H2) := by
  refine ⟨fun i m σ H => m = xs.length - i ∧ i ≤ xs.length ∧ Pv i σ H, ⟨xs.length, by simp, Nat.zero_le _, h0⟩, ?_⟩
  rintro i m σ H ⟨rfl, hi, p⟩
  have q := hl i σ H hi p
  by_cases hlt : i < xs.length
  · refine .inr ⟨⟨xs, xs[i], q, by simp [hlt]⟩, Pv (i + 1), fun σ' H' p' => ⟨xs.length - (i + 1), by omega, rfl, hlt, p'⟩, fun x H' y => ?_⟩
    obtain ⟨e, y⟩ := y
    subst e
    exact hs i x σ _ (y xs q) p
  · have e : i = xs.length := by omega
    subst e
    exact .inl ⟨⟨xs, q, Nat.le_refl _⟩, hd σ H p⟩
theorem for_range {lo : Int} {n : Nat} {g : TG} {tb : TS} {D : Ends} {σ : St} {H : Hp} (Pv : Nat → St → Hp → Prop) (h0 : Pv 0 σ H)
    (hs : ∀ i σ H, i < n → Pv i σ H → g (.int (lo + i)) σ H fun σ2 H2 => tb { D with nx := Pv (i + 1), ct := Pv (i + 1), bk := D.nx } σ2 H2) (hd : ∀ σ H, Pv n σ H → D.nx σ H) :
    ∃ W : Nat → Nat → St → Hp → Prop, (∃ m, W 0 m σ H) ∧ ∀ i m σ H, W i m σ H →
      ((Itr lo n).stop i H ∧ D.nx σ H) ∨ ((Itr lo n).go i H ∧ ∃ N : St → Hp → Prop, (∀ σ' H', N σ' H' → ∃ m', m' < m ∧ W (i + 1) m' σ' H') ∧ ∀ x H', (Itr lo n).yld i H x H' → g x σ H' fun σ2 H2 => tb { D with nx := N, ct := N, bk := D.nx } σ2 H2) := by
  refine ⟨fun i m σ H => m = n - i ∧ i ≤ n ∧ Pv i σ H, ⟨n, by simp, Nat.zero_le _, h0⟩, ?_⟩
  rintro i m σ H ⟨rfl, hi, p⟩
  by_cases hlt : i < n
  · refine .inr ⟨hlt, Pv (i + 1), fun σ' H' p' => ⟨n - (i + 1), by omega, rfl, hlt, p'⟩, fun x H' y => ?_⟩
    obtain ⟨e, y⟩ := y
    subst e y
    exact hs i σ _ hlt p
  · have e : i = n := by omega
    subst e
    exact .inl ⟨Nat.le_refl _, hd σ H p⟩
end L2
namespace L2
open PySem PySem.Spec PyProof.Rows
abbrev R2 := V → V → Hp → VK → Prop
def OpR (X : Cx) (f : Value → Value → Sem Value) (r : R2) : Prop :=
  ∀ (pins : List (Addr × Obj)) (s : Shared) (σ : St) (H : Hp) (x y : V) (v u : Value) (Q : VK), Inv X pins σ H s → RelV x v → RelV y u → r x y H Q →
    wpAny (model X.prog X.w) X.A (f v u) (EP X pins σ Q) X.xe s
def UnR (X : Cx) (f : Value → Sem Value) (r : V → Hp → VK → Prop) : Prop :=
  ∀ (pins : List (Addr × Obj)) (s : Shared) (σ : St) (H : Hp) (x : V) (v : Value) (Q : VK), Inv X pins σ H s → RelV x v → r x H Q →
    wpAny (model X.prog X.w) X.A (f v) (EP X pins σ Q) X.xe s
def CallR (X : Cx) (f : Value) (r : List V → Hp → VK → Prop) : Prop :=
  ∀ (pins : List (Addr × Obj)) (s : Shared) (σ : St) (H : Hp) (xs : List V) (us : List Value) (Q : VK), Inv X pins σ H s → Vals xs us → r xs H Q →
    wpAny (model X.prog X.w) X.A (call f us) (EP X pins σ Q) X.xe s
def TruR (X : Cx) (r : V → Hp → (Bool → Hp → Prop) → Prop) : Prop :=
  ∀ (pins : List (Addr × Obj)) (s : Shared) (σ : St) (H : Hp) (x : V) (v : Value) (Q : Bool → Hp → Prop), Inv X pins σ H s → RelV x v → r x H Q →
    wpAny (model X.prog X.w) X.A (truthy v) (TP X pins σ Q) X.xe s
def tOp (r : R2) (ta tb : TE) : TE := fun σ H Q => ta σ H fun x H1 => tb σ H1 fun y H2 => r x y H2 Q
def tUn (r : V → Hp → VK → Prop) (ta : TE) : TE := fun σ H Q => ta σ H fun x H1 => r x H1 Q
def rI (C : Int → Int → Prop) (g : Int → Int → V) : R2 := fun x y H Q => ∃ i j, x = .int i ∧ y = .int j ∧ C i j ∧ Q (g i j) H
def rI0 (g : Int → Int → V) : R2 := fun x y H Q => ∃ i j, x = .int i ∧ y = .int j ∧ Q (g i j) H
def rU (g : Int → V) : V → Hp → VK → Prop := fun x H Q => ∃ i, x = .int i ∧ Q (g i) H
section
variable {X : Cx} {a b c : Expr} {ta tb tc : TE} {pos : Pos}
theorem binT (ha : PE X a ta) (hb : PE X b tb) {pins : List (Addr × Obj)} {s : Shared} {σ : St} {H : Hp} {R : V → V → Hp → Prop} (I : Inv X pins σ H s)
    (h : ta σ H fun x H1 => tb σ H1 fun y H2 => R x y H2) {Q : Value → Shared → Prop} {f : Value → Value → Sem Value}
    (hf : ∀ v u s2 x y H2, Inv X pins σ H2 s2 → RelV x v → RelV y u → R x y H2 → wpAny (model X.prog X.w) X.A (f v u) Q X.xe s2) :
    wpAny (model X.prog X.w) X.A (eval a X.env) (fun v s₁ => wpAny (model X.prog X.w) X.A (eval b X.env) (fun u s₂ => wpAny (model X.prog X.w) X.A (f v u) Q X.xe s₂) X.xe s₁) X.xe s := by
  refine thn (ha pins s σ H _ I h) fun v s1 ⟨x, H1, I1, r1, q1⟩ => ?_
  refine thn (hb pins s1 σ H1 _ I1 q1) fun u s2 ⟨y, H2, I2, r2, q2⟩ => ?_
  exact hf v u s2 x y H2 I2 r1 r2 q2
theorem pe_op {op : Operator} {r : R2} (ho : OpR X (binaryOp op) r) (ha : PE X a ta) (hb : PE X b tb) : PE X (.BinOp a op b pos) (tOp r ta tb) := by
  intro pins s σ H Q I h
  exact wpAny_BinOp (binT ha hb I h fun v u s2 x y H2 I2 rx ry q => ho pins s2 σ H2 x y v u Q I2 rx ry q)
theorem pe_un {op : UnaryOp} {r : V → Hp → VK → Prop} (ho : UnR X (unaryOp op) r) (ha : PE X a ta) : PE X (.UnaryOp op a pos) (tUn r ta) := by
  intro pins s σ H Q I h
  exact UnaryOp_ (thn (ha pins s σ H _ I h) fun v s1 ⟨x, H1, I1, r1, q1⟩ => ho pins s1 σ H1 x v Q I1 r1 q1)
theorem opI {f : Value → Value → Sem Value} {C : Int → Int → Prop} {g : Int → Int → Int}
    (rule : ∀ (i j : Int) (t u : Tok) (s : Shared) (Q : Value → Shared → Prop) (E : Value → Shared → Prop), C i j → Q (.int (g i j) s.toks) { s with toks := s.toks + 1 } → wpAny (model X.prog X.w) X.A (f (.int i t) (.int j u)) Q E s) :
    OpR X f (rI C fun i j => .int (g i j)) := by
  intro pins s σ H x y v u Q I rx ry h
  obtain ⟨i, j, rfl, rfl, hc, q⟩ := h
  obtain ⟨t, rfl⟩ := rx
  obtain ⟨t', rfl⟩ := ry
  exact rule i j t t' s _ _ hc ⟨.int (g i j), H, I.tok _, ⟨_, rfl⟩, q⟩
theorem opI0 {f : Value → Value → Sem Value} {g : Int → Int → Int}
    (rule : ∀ (i j : Int) (t u : Tok) (s : Shared) (Q : Value → Shared → Prop) (E : Value → Shared → Prop), Q (.int (g i j) s.toks) { s with toks := s.toks + 1 } → wpAny (model X.prog X.w) X.A (f (.int i t) (.int j u)) Q E s) :
    OpR X f (rI0 fun i j => .int (g i j)) := by
  intro pins s σ H x y v u Q I rx ry h
  obtain ⟨i, j, rfl, rfl, q⟩ := h
  obtain ⟨t, rfl⟩ := rx
  obtain ⟨t', rfl⟩ := ry
  exact rule i j t t' s _ _ ⟨.int (g i j), H, I.tok _, ⟨_, rfl⟩, q⟩
theorem opB0 {f : Value → Value → Sem Value} {g : Int → Int → Bool}
    (rule : ∀ (i j : Int) (t u : Tok) (s : Shared) (Q : Value → Shared → Prop) (E : Value → Shared → Prop), Q (.bool (g i j)) s → wpAny (model X.prog X.w) X.A (f (.int i t) (.int j u)) Q E s) :
    OpR X f (rI0 fun i j => .bl (g i j)) := by
  intro pins s σ H x y v u Q I rx ry h
  obtain ⟨i, j, rfl, rfl, q⟩ := h
  obtain ⟨t, rfl⟩ := rx
  obtain ⟨t', rfl⟩ := ry
  exact rule i j t t' s _ _ ⟨.bl (g i j), H, I, rfl, q⟩
def CDiv (i j : Int) : Prop := 0 < j ∧ j < 1073741824
def CDivN (i j : Int) : Prop := j ≠ 0 ∧ j.natAbs < 1073741824
def CPow (i j : Int) : Prop := 0 ≤ j ∧ j ≤ 1000000 ∧ i.natAbs < 2 ^ 64
def CMul (i j : Int) : Prop := (-(2 ^ 64) < i ∧ i < 2 ^ 64) ∨ (-(2 ^ 64) < j ∧ j < 2 ^ 64)
theorem op_add : OpR X (binaryOp .Add) (rI0 fun i j => .int (i + j)) := opI0 fun _ _ _ _ _ _ _ q => add_int q
theorem op_sub : OpR X (binaryOp .Sub) (rI0 fun i j => .int (i - j)) := opI0 fun _ _ _ _ _ _ _ q => sub_int q
theorem op_mod : OpR X (binaryOp .Mod) (rI (fun _ j => 0 < j) fun i j => .int (i % j)) := opI fun i j _ _ _ _ _ hc q => by
  have h1 : (0 : Int) < j := hc
  exact mod_int' (by omega) (by rw [Int.fmod_eq_emod_of_nonneg i (by omega)]; exact q)
theorem op_pow : OpR X (binaryOp .Pow) (rI CPow fun i j => .int (i ^ j.toNat)) := opI fun _ _ _ _ _ _ _ hc q => pow_int_small hc.1 hc.2.1 hc.2.2 q
theorem unI {f : Value → Sem Value} {g : Int → Int}
    (rule : ∀ (i : Int) (t : Tok) (s : Shared) (Q : Value → Shared → Prop) (E : Value → Shared → Prop), Q (.int (g i) s.toks) { s with toks := s.toks + 1 } → wpAny (model X.prog X.w) X.A (f (.int i t)) Q E s) :
    UnR X f (rU fun i => .int (g i)) := by
  intro pins s σ H x v Q I rx h
  obtain ⟨i, rfl, q⟩ := h
  obtain ⟨t, rfl⟩ := rx
  exact rule i t s _ _ ⟨.int (g i), H, I.tok _, ⟨_, rfl⟩, q⟩
theorem un_neg : UnR X (unaryOp .USub) (rU fun i => .int (-i)) := unI fun _ _ _ _ _ q => neg_int q
end
def scal : V → V → Bool
  | .non, .non => true | .non, .int _ => true | .int _, .non => true | .non, .bl _ => true | .bl _, .non => true | .non, .str _ => true | .str _, .non => true
  | .int _, .int _ => true | .bl _, .bl _ => true | .str _, .str _ => true | .byt _, .byt _ => true
  | .int _, .str _ => true | .str _, .int _ => true | .bl _, .str _ => true | .str _, .bl _ => true
  | _, _ => false
def rEq : R2 := fun x y H Q => scal x y = true ∧ Q (.bl (decide (x = y))) H
def rNe : R2 := fun x y H Q => scal x y = true ∧ Q (.bl (!decide (x = y))) H
theorem dec_int {i j : Int} : decide (V.int i = V.int j) = (i == j) := by
  rw [Bool.eq_iff_iff]
  simp
theorem dec_bl {i j : Bool} : decide (V.bl i = V.bl j) = (i == j) := by
  rw [Bool.eq_iff_iff]
  simp
theorem dec_str {i j : Str} : decide (V.str i = V.str j) = (i == j) := by
  rw [Bool.eq_iff_iff]
  simp
theorem dec_byt {i j : Array UInt8} : decide (V.byt i = V.byt j) = (i.toList == j.toList) := by
  rw [Bool.eq_iff_iff]
  cases i
  cases j
  simp
section
variable {X : Cx} {a b c : Expr} {ta tb tc : TE} {pos : Pos}
theorem fin_bl {pins : List (Addr × Obj)} {σ : St} {H : Hp} {s : Shared} {Q : VK} {k k' : Bool} (I : Inv X pins σ H s) (q : Q (.bl k) H) (e : k = k') : EP X pins σ Q (.bool k') s := by
  subst e
  exact ⟨.bl k, H, I, rfl, q⟩
theorem op_eq : OpR X (compareOp .Eq) rEq := by
  intro pins s σ H x y v u Q I rx ry h
  obtain ⟨hs, q⟩ := h
  cases x with
  | non =>
    cases rx
    cases y with
    | non => cases ry; exact PySem.EqNone.eq_none_none (fin_bl I q (by simp))
    | bl j => cases ry; exact PySem.EqNone.eq_none_bool (fin_bl I q (by simp))
    | int j => obtain ⟨t', rfl⟩ := ry; exact PySem.EqNone.eq_none_int (fin_bl I q (by simp))
    | str j => obtain ⟨t', rfl⟩ := ry; exact PySem.EqNone.eq_none_str (fin_bl I q (by simp))
    | _ => exact absurd (show false = true from hs) Bool.false_ne_true
  | bl i =>
    cases rx
    cases y with
    | non => cases ry; exact PySem.EqNone.eq_bool_none (fin_bl I q (by simp))
    | bl j => cases ry; exact eq_bool (fin_bl I q dec_bl)
    | str j => obtain ⟨t', rfl⟩ := ry; exact PySem.EqMixed.eq_bool_str (fin_bl I q (by simp))
    | _ => exact absurd (show false = true from hs) Bool.false_ne_true
  | int i =>
    obtain ⟨t, rfl⟩ := rx
    cases y with
    | non => cases ry; exact PySem.EqNone.eq_int_none (fin_bl I q (by simp))
    | int j => obtain ⟨t', rfl⟩ := ry; exact eq_int (fin_bl I q dec_int)
    | str j => obtain ⟨t', rfl⟩ := ry; exact PySem.EqMixed.eq_int_str (fin_bl I q (by simp))
    | _ => exact absurd (show false = true from hs) Bool.false_ne_true
  | str i =>
    obtain ⟨t, rfl⟩ := rx
    cases y with
    | non => cases ry; exact PySem.EqNone.eq_str_none (fin_bl I q (by simp))
    | bl j => cases ry; exact PySem.EqMixed.eq_str_bool (fin_bl I q (by simp))
    | int j => obtain ⟨t', rfl⟩ := ry; exact PySem.EqMixed.eq_str_int (fin_bl I q (by simp))
    | str j => obtain ⟨t', rfl⟩ := ry; exact eq_str (fin_bl I q dec_str)
    | _ => exact absurd (show false = true from hs) Bool.false_ne_true
  | byt i =>
    obtain ⟨t, rfl⟩ := rx
    cases y with
    | byt j => obtain ⟨t', rfl⟩ := ry; exact PySem.W.eq_bytes (fin_bl I q dec_byt)
    | _ => exact absurd (show false = true from hs) Bool.false_ne_true
  | _ => cases y <;> exact absurd (show false = true from hs) Bool.false_ne_true
theorem op_ne : OpR X (compareOp .NotEq) rNe := by
  intro pins s σ H x y v u Q I rx ry h
  obtain ⟨hs, q⟩ := h
  cases x with
  | non =>
    cases rx
    cases y with
    | non => cases ry; exact PySem.EqNone.ne_none_none (fin_bl I q (by simp))
    | bl j => cases ry; exact PySem.EqNone.ne_none_bool (fin_bl I q (by simp))
    | int j => obtain ⟨t', rfl⟩ := ry; exact PySem.EqNone.ne_none_int (fin_bl I q (by simp))
    | str j => obtain ⟨t', rfl⟩ := ry; exact PySem.EqNone.ne_none_str (fin_bl I q (by simp))
    | _ => exact absurd (show false = true from hs) Bool.false_ne_true
  | bl i =>
    cases rx
    cases y with
    | non => cases ry; exact PySem.EqNone.ne_bool_none (fin_bl I q (by simp))
    | bl j => cases ry; exact ne_bool (fin_bl I q (congrArg not dec_bl))
    | str j => obtain ⟨t', rfl⟩ := ry; exact PySem.EqMixed.ne_bool_str (fin_bl I q (by simp))
    | _ => exact absurd (show false = true from hs) Bool.false_ne_true
  | int i =>
    obtain ⟨t, rfl⟩ := rx
    cases y with
    | non => cases ry; exact PySem.EqNone.ne_int_none (fin_bl I q (by simp))
    | int j => obtain ⟨t', rfl⟩ := ry; exact ne_int (fin_bl I q (congrArg not dec_int))
    | str j => obtain ⟨t', rfl⟩ := ry; exact PySem.EqMixed.ne_int_str (fin_bl I q (by simp))
    | _ => exact absurd (show false = true from hs) Bool.false_ne_true
  | str i =>
    obtain ⟨t, rfl⟩ := rx
    cases y with
    | non => cases ry; exact PySem.EqNone.ne_str_none (fin_bl I q (by simp))
    | bl j => cases ry; exact PySem.EqMixed.ne_str_bool (fin_bl I q (by simp))
    | int j => obtain ⟨t', rfl⟩ := ry; exact PySem.EqMixed.ne_str_int (fin_bl I q (by simp))
    | str j => obtain ⟨t', rfl⟩ := ry; exact ne_str (fin_bl I q (congrArg not dec_str))
    | _ => exact absurd (show false = true from hs) Bool.false_ne_true
  | byt i =>
    obtain ⟨t, rfl⟩ := rx
    cases y with
    | byt j => obtain ⟨t', rfl⟩ := ry; exact PySem.W.ne_bytes (fin_bl I q (congrArg not dec_byt))
    | _ => exact absurd (show false = true from hs) Bool.false_ne_true
  | _ => cases y <;> exact absurd (show false = true from hs) Bool.false_ne_true
theorem op_lt : OpR X (compareOp .Lt) (rI0 fun i j => .bl (decide (i < j))) := opB0 fun _ _ _ _ _ _ _ q => lt_int q
theorem op_le : OpR X (compareOp .LtE) (rI0 fun i j => .bl (decide (i ≤ j))) := opB0 fun _ _ _ _ _ _ _ q => le_int q
theorem op_gt : OpR X (compareOp .Gt) (rI0 fun i j => .bl (decide (j < i))) := opB0 fun _ _ _ _ _ _ _ q => gt_int q
theorem op_ge : OpR X (compareOp .GtE) (rI0 fun i j => .bl (decide (j ≤ i))) := opB0 fun _ _ _ _ _ _ _ q => ge_int q
def isObj : HO → Bool
  | .lst _ => true
  | .ins _ _ _ => true
  | _ => false
theorem nomark (b : Expr) {op : CmpOp} (h : op ≠ .In := by decide) (h2 : op ≠ .NotIn := by decide) : behindInMarks op b = false := by
  have e1 : (op == CmpOp.In) = false := by cases op <;> first | rfl | exact absurd rfl h
  have e2 : (op == CmpOp.NotIn) = false := by cases op <;> first | rfl | exact absurd rfl h2
  cases b <;> simp [behindInMarks, e1, e2]
theorem pe_cmpR {op : CmpOp} {r : R2} (ho : OpR X (compareOp op) r) (ha : PE X a ta) (hb : PE X b tb) (hm : behindInMarks op b = false) : PE X (.Compare a [op] [b] pos) (tOp r ta tb) := by
  intro pins s σ H Q I h
  exact wpAny_Compare1 (binT ha hb I h fun v u s2 x y H2 I2 rx ry q => ho pins s2 σ H2 x y v u Q I2 rx ry q) hm
def tTest (t : TE) : TT := fun σ H Q => t σ H fun x H' => ∃ k, x = .bl k ∧ Q k H'
theorem pt_cmpR {op : CmpOp} {r : R2} (ho : OpR X (compareOp op) r) (ha : PE X a ta) (hb : PE X b tb) (hm : behindInMarks op b = false) : PT X (.Compare a [op] [b] pos) (tTest (tOp r ta tb)) := by
  intro pins s σ H Q I h
  refine wpAny_isTrue_Compare1 (thn (ha pins s σ H _ I h) fun v s1 ⟨x, H1, I1, r1, q1⟩ => thn (hb pins s1 σ H1 _ I1 q1) fun u s2 ⟨y, H2, I2, r2, q2⟩ =>
    thn (ho pins s2 σ H2 x y v u _ I2 r1 r2 q2) fun c s3 ⟨z, H3, I3, r3, k, e, q3⟩ => ?_) hm
  subst e
  cases r3
  exact wpAny_truthy_bool ⟨H3, I3, q3⟩
def tChain (r r' : R2) (ta tb tc : TE) : TE := fun σ H Q => ta σ H fun x H1 => tb σ H1 fun y H2 => r x y H2 fun z H3 => ∃ k, z = .bl k ∧
  (if k = true then tc σ H3 fun w' H4 => r' y w' H4 Q else Q (.bl false) H3)
theorem pe_chain {op op' : CmpOp} {r r' : R2} (ho : OpR X (compareOp op) r) (ho' : OpR X (compareOp op') r') (ha : PE X a ta) (hb : PE X b tb) (hc : PE X c tc)
    (hm : lastMarks [op, op'] [b, c] = false := by with_unfolding_all rfl) : PE X (.Compare a [op, op'] [b, c] pos) (tChain r r' ta tb tc) := by
  intro pins s σ H Q I h
  refine Compare_chain (thn (ha pins s σ H _ I h) fun v s1 ⟨x, H1, I1, r1, q1⟩ => chain_link (thn (hb pins s1 σ H1 _ I1 q1) fun u s2 ⟨y, H2, I2, r2, q2⟩ =>
    thn (ho pins s2 σ H2 x y v u _ I2 r1 r2 q2) fun d s3 ⟨z, H3, I3, r3, k, e, q3⟩ => ?_)) hm
  subst e
  cases r3
  refine wpAny_truthy_bool ?_
  cases k with
  | false => exact ite_ff ⟨.bl false, H3, I3, rfl, q3⟩
  | true => exact ite_tt (chain_last (thn (hc pins s3 σ H3 _ I3 q3) fun w' s4 ⟨z', H4, I4, r4, q4⟩ => ho' pins s4 σ H4 y z' u w' Q I4 r2 r4 q4))
def TruV (K : PySem.W.Frag) (x : V) (H : Hp) (k : Bool) : Prop :=
  match x with
  | .non => k = false
  | .bl b => k = b
  | .int i => k = (i != 0)
  | .str y => y.length ≤ sizeLine ∧ k = ((y.length : Int) != 0)
  | .byt y => y.size ≤ sizeLine ∧ k = ((y.size : Int) != 0)
  | .ref p => (∃ xs, SqL K H p xs ∧ k = !xs.isEmpty) ∨ (∃ xs, SqT K H p xs ∧ k = !xs.isEmpty) ∨ ∃ kvs, H p = some (.dK kvs) ∧ k = !kvs.isEmpty
  | _ => False
theorem line63 : (sizeLine : Nat) < 2 ^ 63 := by rw [sizeLine_eq]; decide
def PlainIxT (b : Expr) : Prop := ∀ o i, subscripted b false o i = operate [o, i] (getItem o i)
theorem vals1 {x : V} {us : List Value} (r : Vals [x] us) : ∃ u, us = [u] ∧ RelV x u := by
  cases r with
  | cons r1 r2 => cases r2; exact ⟨_, rfl, r1⟩
def LenV (K : PySem.W.Frag) (x : V) (H : Hp) (n : Nat) : Prop :=
  match x with
  | .str y => y.length ≤ sizeLine ∧ n = y.length
  | .byt y => y.size ≤ sizeLine ∧ n = y.size
  | .ref p => (∃ xs, SqL K H p xs ∧ n = xs.length) ∨ ∃ xs, SqT K H p xs ∧ n = xs.length
  | _ => False
end
end L2
namespace L2
open PySem PySem.Spec PyProof.Rows
structure ObjM (h : Heap) (x dx C : Addr) (mA : Str → Option Value) : Prop where
  obj : h.get? x = some (PySem.W.instObj C dx)
  ns : h.Ns1 dx mA
  ne : dx ≠ x
theorem lookIn_ns {h : Heap} {dx : Addr} {mA : Str → Option Value} (n : h.Ns1 dx mA) : ∃ od, h.get? dx = some od ∧ ∀ name, PySem.W.lookIn name od = some (mA name) := by
  obtain ⟨o, es, ep, ho, hd, hk, _, hm⟩ := n
  refine ⟨o, ho, fun name => ?_⟩
  have e := hm name
  unfold nsFind findBy at e
  rw [← Array.find?_toList] at e
  unfold PySem.W.lookIn
  rw [hd]
  dsimp only
  split
  · rename_i y q
    rw [q] at e
    exact congrArg some e
  · rename_i q
    rw [q] at e
    have a : es.toList.any (·.refKey) = false := by
      rw [List.any_eq_false]
      intro y hy
      obtain ⟨z, t, hkey⟩ := hk y (Array.mem_toList_iff.mp hy)
      simp [DictEntry.refKey, hkey]
    have a' : ¬ es.toList.any (·.refKey) = true := by rw [a]; exact Bool.false_ne_true
    rw [if_neg a']
    exact congrArg some e
theorem ObjM.look {h : Heap} {x dx C : Addr} {mA : Str → Option Value} (I : ObjM h x dx C mA) : ∃ od, PySem.W.InstAt h x (PySem.W.instObj C dx) C (some od) ∧ ∀ name, PySem.W.lookIn name od = some (mA name) :=
  let ⟨od, ho, hl⟩ := lookIn_ns I.ns
  ⟨od, ⟨I.obj, rfl, rfl, ho⟩, hl⟩
section
variable {prog : Program} {w : World} {A : Around} {E : Value → Shared → Prop} {s : Shared} {K : PySem.W.Frag} {x dx C f : Addr} {mA : Str → Option Value} {name : Str} {v : Value}
theorem get_map {expr : Bool} {Q : Value → Shared → Prop} (X : K.In s.heap) (I : ObjM s.heap x dx C mA) (hg : PySem.W.plainGet K C name = true) (hh : PySem.W.hasDictIn K C = true)
    (ha : PySem.W.findIn K (.ref C) name = some none) (hv : mA name = some v) (hv' : PySem.W.handedIn v = true) (h : Q v { s with toks := s.toks + 1 }) :
    wpAny (model prog w) A (getAttr (.ref x) name expr) Q E s := by
  obtain ⟨od, J, hl⟩ := I.look
  exact PySem.W.get_value X J (PySem.W.plainGet_of hg).1 (PySem.W.findObj_own hh ha rfl (by rw [hl, hv])) hv' h
theorem get_meth {pl : Sem Bool} {Q : Value × List Value → Shared → Prop} (X : K.In s.heap) (I : ObjM s.heap x dx C mA) (hg : PySem.W.plainGet K C name = true)
    (hf : PySem.W.findIn K (.ref C) name = some (some (.ref f))) (ht : PySem.W.isFn K (.ref f) = true) (hv : mA name = none) (h : Q (.ref f, [.ref x]) s) :
    wpAny (model prog w) A (getMethod (.ref x) name pl) Q E s := by
  obtain ⟨od, J, hl⟩ := I.look
  exact PySem.W.method_fn X J (PySem.W.plainGet_of hg).1 (PySem.W.plainGet_of hg).2 hf (beq_iff_eq.mp ht) (by show (PySem.W.lookIn name od).map (·.isSome) = some false; rw [hl, hv]; rfl) h
theorem set_map {ns : List Str} {Q : Unit → Shared → Prop} (X : K.In s.heap) (I : ObjM s.heap x dx C mA)
    (hs : PySem.W.findIn K (.ref C) "__setattr__" = some (some (.builtin "object.__setattr__"))) (hp : PySem.W.plainOver K C = true) (ht : PySem.W.takerIn K C name = some none) (hh : PySem.W.hasDictIn K C = true)
    (hw : PySem.Within mA ns) (hsz : ns.length ≤ sizeLine)
    (h : ∀ h', ObjM h' x dx C (fun y => if y = name then some v else mA y) → Heap.SameBut dx s.heap h' → Q () { s with heap := h', toks := s.toks + 2 }) :
    wpAny (model prog w) A (setAttr (.ref x) name v) Q E s := by
  obtain ⟨od, J, hl⟩ := I.look
  refine PySem.W.set_plain X J hs (PySem.W.osa_open (s := { s with toks := s.toks + 1 }) (r := none) X J hp ht fun b => ?_)
  obtain ⟨cd, hc, hd'⟩ := PySem.W.any_some hh
  have hx : s.heap.get? x = some ⟨.ref C, some dx, .plain, #[]⟩ := I.obj
  refine wpAny_bind (wpAny_pure (wpAny_bind (wpAny_bind (wpAny_loadPart hx (wpAny_bind (PySem.W.Looks.here (s := { s with toks := s.toks + 1 }) (PySem.W.looks_clsIn X hc) ?_))))))
  rw [hd']
  refine wpAny_pure (a := some dx) (wpAny_bind (wpAny_pure (wpAny_bind ?_)))
  refine wpAny_nsSet1 (s := { s with toks := s.toks + 1 }) I.ns fun h' hn2 hs2 => ?_
  obtain ⟨oD, esD, epD, hoD, hdD, hcD⟩ := hn2.count (PySem.Within.cons name v hw)
  refine wpAny_bind (wpAny_lookBehind hoD (by rw [hdD]; exact pastItsLine_dict (Nat.le_trans hcD (by rw [List.length_cons]; omega))) ?_)
  exact wpAny_pure (h _ ⟨(hs2.2 _ (Ne.symm I.ne)).trans I.obj, hn2, I.ne⟩ hs2)
theorem make_map {R : Result → Shared → Prop} {vs : List Value} {kw : List (Str × Value)} (X : K.In s.heap) (hm : PySem.W.makesIn K C = true)
    (hi : PySem.W.findIn K (.ref C) "__init__" = some (some (.ref f))) (hf : PySem.W.typeIn K (.ref f) = some (.type "function"))
    (h : codeAny (model prog w) (A.under (.builtin "type.__call__" ⟨.ref C :: vs, kw⟩)) (.call (.ref f) ⟨.ref (s.heap.objs.size + 1) :: vs, kw⟩) (PySem.W.InitBack (s.heap.objs.size + 1) R)
      { s with heap := (s.heap.push PySem.W.emptyDict).push (PySem.W.instObj C s.heap.objs.size) }) :
    codeAny (model prog w) A (.call (.ref C) ⟨vs, kw⟩) R s := by
  obtain ⟨hh, g, d, t, os⟩ := s
  exact PySem.W.make_core (PySem.W.makes_of X hm) (PySem.W.looks_findIn X hi) (fun self => PySem.W.bind_fn X self hf) (.inl rfl) h
end
def putF (f : Str) (v : V) : List (Str × V) → List (Str × V)
  | [] => [(f, v)]
  | (g, x) :: r => if g = f then (g, v) :: r else (g, x) :: putF f v r
theorem lookup_putF (f g : Str) (v : V) : ∀ fs : List (Str × V), (putF f v fs).lookup g = if g = f then some v else fs.lookup g
  | [] => by
    show List.lookup g [(f, v)] = _
    by_cases h : g = f
    · have hb : (g == f) = true := beq_iff_eq.mpr h
      simp only [List.lookup, hb, if_pos h]
    · have hb : (g == f) = false := beq_eq_false_iff_ne.mpr h
      simp only [List.lookup, hb, if_neg h]
  | (k, x) :: r => by
    have ih := lookup_putF f g v r
    rw [show putF f v ((k, x) :: r) = (if k = f then (k, v) :: r else (k, x) :: putF f v r) from rfl]
    by_cases hk : k = f
    · rw [if_pos hk]
      by_cases h : g = k
      · have hb : (g == k) = true := beq_iff_eq.mpr h
        simp only [List.lookup, hb, if_pos (h.trans hk)]
      · have hb : (g == k) = false := beq_eq_false_iff_ne.mpr h
        simp only [List.lookup, hb, if_neg (fun e : g = f => h (e.trans hk.symm))]
    · rw [if_neg hk]
      by_cases h : g = k
      · have hb : (g == k) = true := beq_iff_eq.mpr h
        simp only [List.lookup, hb, if_neg (fun e : g = f => hk (h.symm.trans e))]
      · have hb : (g == k) = false := beq_eq_false_iff_ne.mpr h
        simp only [List.lookup, hb]
        exact ih
theorem keys_putF (f : Str) (v : V) : ∀ fs : List (Str × V), f ∈ (putF f v fs).map (·.1) ∧ ∀ g, g ∈ fs.map (·.1) → g ∈ (putF f v fs).map (·.1)
  | [] => ⟨by simp [putF], fun g h => by simp at h⟩
  | (k, x) :: r => by
    obtain ⟨i1, i2⟩ := keys_putF f v r
    rw [show putF f v ((k, x) :: r) = (if k = f then (k, v) :: r else (k, x) :: putF f v r) from rfl]
    by_cases hk : k = f
    · rw [if_pos hk]
      subst hk
      exact ⟨by simp, fun g h => by simpa using h⟩
    · rw [if_neg hk]
      refine ⟨?_, fun g h => ?_⟩
      · rw [List.map_cons]
        exact List.mem_cons_of_mem _ i1
      · rw [List.map_cons] at h ⊢
        rcases List.mem_cons.mp h with e | e
        · exact List.mem_cons.mpr (.inl e)
        · exact List.mem_cons_of_mem _ (i2 g e)
theorem length_putF (f : Str) (v : V) : ∀ fs : List (Str × V), (putF f v fs).length ≤ fs.length + 1
  | [] => by simp [putF]
  | (k, x) :: r => by
    have ih := length_putF f v r
    rw [show putF f v ((k, x) :: r) = (if k = f then (k, v) :: r else (k, x) :: putF f v r) from rfl]
    by_cases hk : k = f
    · rw [if_pos hk, List.length_cons, List.length_cons]; omega
    · rw [if_neg hk, List.length_cons, List.length_cons]; omega
theorem RelO.some_of {v : V} {o : Option Value} (r : RelO (some v) o) : ∃ u, o = some u ∧ RelV v u := by
  cases o with
  | none => exact (show False from r).elim
  | some u => exact ⟨u, rfl, r⟩
theorem RelO.none_of {o : Option Value} (r : RelO none o) : o = none := by
  cases o with
  | none => rfl
  | some u => exact (show False from r).elim
theorem handed_of {v : V} {u : Value} (r : RelV v u) : PySem.W.handedIn u = true := by
  cases v with
  | non => cases (show u = Value.none from r); rfl
  | bl b => cases (show u = Value.bool b from r); rfl
  | int i => obtain ⟨t, e⟩ := (show ∃ t, u = Value.int i t from r); cases e; rfl
  | str x => obtain ⟨t, e⟩ := (show ∃ t, u = Value.str x t from r); cases e; rfl
  | byt b => obtain ⟨t, e⟩ := (show ∃ t, u = Value.bytes b t from r); cases e; rfl
  | flt b => obtain ⟨t, e⟩ := (show ∃ t, u = Value.float b t from r); cases e; rfl
  | ref a => cases (show u = Value.ref a from r); rfl
  | ty n => cases (show u = Value.type n from r); rfl
section
variable {P : Program} {w : World} {H H' : Hp} {h h' : Heap} {a C dx : Addr} {fs fs' : List (Str × V)}
theorem ins_get (hok : HOk P w H h) (e : H a = some (.ins C dx fs)) : ∃ mA, ObjM h a dx C mA ∧ (∀ f, RelO (fs.lookup f) (mA f)) ∧ PySem.Within mA (fs.map (·.1)) ∧ fs.length ≤ 1000 ∧ H dx = some (.own a) := by
  obtain ⟨d, z, ne, ob, mA, n, r, q⟩ := (show ObjOk P w H h a (.ins C dx fs) from hok a _ e)
  exact ⟨mA, ⟨ob, n, ne⟩, r, q, z, d⟩
end
structure Cls (K : PySem.W.Frag) (C : Addr) : Prop where
  pg : PySem.W.plainGet K C Str.empty = true
  hd : PySem.W.hasDictIn K C = true
  po : PySem.W.plainOver K C = true
  sa : PySem.W.findIn K (.ref C) "__setattr__" = some (some (.builtin "object.__setattr__"))
theorem Cls.get {K : PySem.W.Frag} {C : Addr} (c : Cls K C) (f : Str) : PySem.W.plainGet K C f = true := c.pg
def NoAttr (K : PySem.W.Frag) (C : Addr) (f : Str) : Prop := PySem.W.findIn K (.ref C) f = some none
theorem NoAttr.taker {K : PySem.W.Frag} {C : Addr} {f : Str} (n : NoAttr K C f) : PySem.W.takerIn K C f = some none := by
  unfold PySem.W.takerIn
  rw [show PySem.W.findIn K (.ref C) f = some none from n]
  rfl
structure Con (K : PySem.W.Frag) (C : Addr) (f : Str) (v : V) (u : Value) : Prop where
  at_ : PySem.W.findIn K (.ref C) f = some (some u)
  rel : RelV v u
  get : PySem.W.specialIn K u "__get__" = some none
  cp : PySem.W.copiedNames.contains f = false
structure Meth (K : PySem.W.Frag) (C : Addr) (m : Str) (f : Addr) : Prop where
  at_ : PySem.W.findIn K (.ref C) m = some (some (.ref f))
  fn : PySem.W.isFn K (.ref f) = true
  kp : PySem.W.keepIn K (.ref f) = true
section
variable {X : Cx} {pins : List (Addr × Obj)} {σ : St} {H : Hp} {s : Shared} {a C dx : Addr} {fs : List (Str × V)} {f : Str} {v : V} {A : Around} {E : Value → Shared → Prop}
theorem getattr_ok {b : Bool} {Q : Value → Shared → Prop} (I : Inv X pins σ H s) (e : H a = some (.ins C dx fs)) (c : Cls X.K C) (n : NoAttr X.K C f) (l : fs.lookup f = some v)
    (h : ∀ u s', Inv X pins σ H s' → RelV v u → Q u s') : wpAny (model X.prog X.w) A (getAttr (.ref a) f b) Q E s := by
  obtain ⟨mA, O, r, _, _, _⟩ := ins_get I.hok e
  obtain ⟨u, hu, ru⟩ := RelO.some_of (v := v) (o := mA f) (by rw [← l]; exact r f)
  exact get_map I.kIn O (c.get f) c.hd n hu (handed_of ru) (h u _ (I.tok _) ru)
theorem getmeth_ok {m : Str} {g : Addr} {pl : Sem Bool} {Q : Value × List Value → Shared → Prop} (I : Inv X pins σ H s) (e : H a = some (.ins C dx fs)) (c : Cls X.K C) (k : Meth X.K C m g) (l : fs.lookup m = none)
    (h : Q (.ref g, [.ref a]) s) : wpAny (model X.prog X.w) A (getMethod (.ref a) m pl) Q E s := by
  obtain ⟨mA, O, r, _, _, _⟩ := ins_get I.hok e
  have hn : mA m = none := RelO.none_of (by rw [← l]; exact r m)
  exact get_meth I.kIn O (c.get m) k.at_ k.fn hn h
theorem setattr_ok {y : V} {u : Value} {Q : Unit → Shared → Prop} (I : Inv X pins σ H s) (e : H a = some (.ins C dx fs)) (c : Cls X.K C) (n : NoAttr X.K C f) (hl : fs.length < 1000) (ry : RelV y u)
    (h : ∀ s', Inv X pins σ (upd H a (.ins C dx (putF f y fs))) s' → Q () s') : wpAny (model X.prog X.w) A (setAttr (.ref a) f u) Q E s := by
  obtain ⟨mA, O, r, wi, _, ho⟩ := ins_get I.hok e
  have hz : (fs.map (·.1)).length ≤ sizeLine := by rw [List.length_map, sizeLine_eq]; omega
  refine set_map I.kIn O c.sa c.po n.taker c.hd wi hz fun h' O' sb => h _ ?_
  have hd : ∃ o, h'.get? dx = some o := let ⟨o, _, _, e', _⟩ := O'.ns; ⟨o, e'⟩
  refine I.write (x := a) (e := dx) (by rw [e]; exact True.intro) (.inr ho) (fun b q hb z => (sb.2 b hb).trans z) hd ?_
  refine ⟨by rw [upd_ne O.ne]; exact ho, ?_, O.ne, O'.obj, _, O'.ns, fun g => ?_, fun g hg => ?_⟩
  · have := length_putF f y fs; omega
  · show RelO ((putF f y fs).lookup g) (if g = f then some u else mA g)
    rw [lookup_putF]
    by_cases q : g = f
    · rw [if_pos q, if_pos q]; exact ry
    · rw [if_neg q, if_neg q]; exact r g
  · by_cases q : g = f
    · rw [q]; exact (keys_putF f y fs).1
    · refine (keys_putF f y fs).2 g (wi g fun z => hg ?_)
      show (if g = f then some u else mA g) = none
      rw [if_neg q]; exact z
theorem Inv.made (I : Inv X pins σ H s) : Inv X pins σ (upd (upd H s.heap.objs.size (.own (s.heap.objs.size + 1))) (s.heap.objs.size + 1) (.ins C s.heap.objs.size []))
    { s with heap := (s.heap.push PySem.W.emptyDict).push (PySem.W.instObj C s.heap.objs.size) } := by
  have e1 : (s.heap.push PySem.W.emptyDict).get? s.heap.objs.size = some PySem.W.emptyDict := Heap.get?_push_size s.heap rfl
  have e2 : ((s.heap.push PySem.W.emptyDict).push (PySem.W.instObj C s.heap.objs.size)).get? (s.heap.objs.size + 1) = some (PySem.W.instObj C s.heap.objs.size) := by
    have := Heap.get?_push_size (s.heap.push PySem.W.emptyDict) (o := PySem.W.instObj C s.heap.objs.size) rfl
    rwa [Heap.size_push] at this
  have e3 : (s.heap.push PySem.W.emptyDict).Ns s.heap.objs.size (fun _ => none) := ⟨PySem.W.emptyDict, #[], _, e1, rfl, (fun e he => absurd he (by simp)), fun _ => rfl⟩
  have I1 := I.laid (a := s.heap.objs.size) (o := .own (s.heap.objs.size + 1)) (h' := s.heap.push PySem.W.emptyDict) (t' := s.toks) (fun b u q => Heap.get?_push_of_some _ q) (Nat.le_refl _) ⟨_, e1⟩
  refine I1.laid (a := s.heap.objs.size + 1) (o := .ins C s.heap.objs.size []) (t' := s.toks) (fun b u q => Heap.get?_push_of_some _ q) (Nat.le_of_eq (Heap.size_push _ _)) ?_
  have ne : s.heap.objs.size ≠ s.heap.objs.size + 1 := Nat.ne_of_lt (Nat.lt_succ_self _)
  refine ⟨by rw [upd_ne ne, upd_same], Nat.zero_le _, ne, e2, fun _ => none, (Heap.Ns1.of_empty e3).at fun o q => Heap.get?_push_of_some _ q, fun _ => True.intro, fun y hy => absurd rfl hy⟩
theorem attr_of {prog : Program} {w : World} {env : Env} {e : Expr} {f : Str} {pos : Pos} {s : Shared} {Q : Value → Shared → Prop} (hb : attributeBase e f env (eval e env) = eval e env)
    (h : wpAny (model prog w) A (eval e env) (fun o s₁ => wpAny (model prog w) A (getAttr o f true) Q E s₁) E s) : wpAny (model prog w) A (eval (.Attribute e f pos) env) Q E s :=
  Attribute_any_ h (by rw [arm_eval_Attribute, hb])
end
def tFld (K : PySem.W.Frag) (ta : TE) (f : Str) : TE := fun σ H Q => ta σ H fun x H1 => ∃ a C dx fs v, x = .ref a ∧ H1 a = some (.ins C dx fs) ∧ Cls K C ∧ NoAttr K C f ∧ fs.lookup f = some v ∧ Q v H1
def tCon (K : PySem.W.Frag) (ta : TE) (f : Str) : TE := fun σ H Q => ta σ H fun x H1 => ∃ a C dx fs v u, x = .ref a ∧ H1 a = some (.ins C dx fs) ∧ Cls K C ∧ Con K C f v u ∧ fs.lookup f = none ∧ Q v H1
def sFld (K : PySem.W.Frag) (ta tv : TE) (f : Str) : TS := fun D σ H => tv σ H fun y H1 => ta σ H1 fun x H2 => ∃ a C dx fs, x = .ref a ∧ H2 a = some (.ins C dx fs) ∧ Cls K C ∧ NoAttr K C f ∧ fs.length < 1000 ∧
  D.nx σ (upd H2 a (.ins C dx (putF f y fs)))
def InOp (X : Cx) (op : Operator) (rd : V → V → Hp → VK → Prop) : Prop :=
  ∀ (pins : List (Addr × Obj)) (s : Shared) (σ : St) (H : Hp) (x y : V) (u v : Value) (Q : VK), Inv X pins σ H s → RelV x u → RelV y v → rd x y H Q → wpAny (model X.prog X.w) X.A (inplaceOp op u v) (EP X pins σ Q) X.xe s
def sFldAug (K : PySem.W.Frag) (ta tv : TE) (rd : V → V → Hp → VK → Prop) (f : Str) : TS := fun D σ H => ta σ H fun x H1 => ∃ a C dx fs v, x = .ref a ∧ H1 a = some (.ins C dx fs) ∧ Cls K C ∧ NoAttr K C f ∧ fs.lookup f = some v ∧
  tv σ H1 fun y H2 => rd v y H2 fun z H3 => ∃ dx' fs', H3 a = some (.ins C dx' fs') ∧ fs'.length < 1000 ∧ D.nx σ (upd H3 a (.ins C dx' (putF f z fs')))
section
variable {X : Cx} {o e value : Expr} {f : Str} {pos pos' tpos : Pos} {ta tv : TE}
theorem pe_fld (he : PE X e ta) (hb : attributeBase e f X.env (eval e X.env) = eval e X.env) : PE X (.Attribute e f pos) (tFld X.K ta f) := by
  intro pins s σ H Q I h
  refine attr_of hb (thn (he pins s σ H _ I h) fun u s1 ⟨x, H1, I1, rx, a, C, dx, fs, v, ex, ea, c, n, l, q⟩ => ?_)
  subst ex
  obtain rfl : u = Value.ref a := rx
  exact getattr_ok I1 ea c n l fun u' s2 I2 ru => ⟨v, H1, I2, ru, q⟩
theorem ps_fld (ha : PE X o ta) (hv : PE X value tv) (hs : swapsWith value (some (.Attribute o f pos')) pos.line X.env = pure false) : PS X (.Assign [.Attribute o f pos'] value pos) (sFld X.K ta tv f) := by
  intro pins s σ H D I h
  refine plainObj_wpAny_Assign_Attribute (thn (hv pins s σ H _ I h) fun u s1 ⟨y, H1, I1, ry, q⟩ => thn (ha pins s1 σ H1 _ I1 q) fun ov s2 ⟨x, H2, I2, rx, a, C, dx, fs, ex, ea, c, n, l, q2⟩ => ?_) hs
  subst ex
  obtain rfl : ov = Value.ref a := rx
  exact setattr_ok I2 ea c n l ry fun s3 I3 => ⟨σ, _, I3, q2⟩
def rAdd : V → V → Hp → VK → Prop := fun x y H Q => ∃ i j, x = .int i ∧ y = .int j ∧ Q (.int (i + j)) H
def rSub : V → V → Hp → VK → Prop := fun x y H Q => ∃ i j, x = .int i ∧ y = .int j ∧ Q (.int (i - j)) H
theorem methcall_of {pl : Sem Bool} {m : Str} {apos : Pos} {args : List Expr} {pins : List (Addr × Obj)} {s : Shared} {σ : St} {H : Hp} {Q : Value → Shared → Prop} {te : TE} (he : PE X e te) (I : Inv X pins σ H s)
    (h : te σ H fun x H1 => ∃ a C dx fs g, x = .ref a ∧ H1 a = some (.ins C dx fs) ∧ Cls X.K C ∧ Meth X.K C m g ∧ fs.lookup m = none ∧
      ∀ s1, Inv X pins σ H1 s1 → wpAny (model X.prog X.w) X.A (callWith pos (.ref g) [.ref a] (backTo pos (starEach args X.env)) (backToKw pos (keywordEach [] X.env))) Q X.xe s1)
    (ht : eval (.Call (.Attribute e m apos) args [] pos) X.env = (do
      let ov ← eval e X.env
      standAt apos.atName
      let (f, first) ← holding [ov] (getMethod ov m pl)
      callWith pos f first (backTo pos (starEach args X.env)) (backToKw pos (keywordEach [] X.env)))) :
    wpAny (model X.prog X.w) X.A (eval (.Call (.Attribute e m apos) args [] pos) X.env) Q X.xe s := by
  refine PySem.W.methodCall_KW (pl := pl) (thn (he pins s σ H _ I h) fun u s1 ⟨x, H1, I1, rx, a, C, dx, fs, g, ex, ea, c, k, l, q⟩ => ?_) ht
  subst ex
  obtain rfl : u = Value.ref a := rx
  exact getmeth_ok I1 ea c k l (q s1 I1)
end
section
variable {X : Cx} {pins : List (Addr × Obj)} {σ : St} {H : Hp} {s : Shared} {A : Around} {E : Value → Shared → Prop} {Q : Value → Shared → Prop} {c : Value} {b : Bool}
inductive TyOf (K : PySem.W.Frag) (H : Hp) : V → Value → Prop where
  | non : TyOf K H .non (.type "NoneType")
  | bl (x : Bool) : TyOf K H (.bl x) (.type "bool")
  | int (i : Int) : TyOf K H (.int i) (.type "int")
  | str (x : Str) : TyOf K H (.str x) (.type "str")
  | flt (x : UInt64) : TyOf K H (.flt x) (.type "float")
  | lst {a : Addr} {xs : List V} (e : H a = some (.lst xs)) : TyOf K H (.ref a) (.type "list")
  | frz {a : Addr} {o : Obj} {xs : List V} (e : H a = some (.frz o (.lst xs))) : TyOf K H (.ref a) (.type "list")
  | tup {a : Addr} {xs : List V} (e : H a = some (.tup xs)) : TyOf K H (.ref a) (.type "tuple")
  | dK {a : Addr} {kvs : List (Key × V)} (e : H a = some (.dK kvs)) : TyOf K H (.ref a) (.type "dict")
  | dT {a : Addr} {kvs : List (List Key × V)} (e : H a = some (.dT kvs)) : TyOf K H (.ref a) (.type "dict")
  | ins {a C dx : Addr} {fs : List (Str × V)} (e : H a = some (.ins C dx fs)) (cl : Cls K C) (ha : PySem.W.findIn K (.ref C) "__class__" = some (some (.builtin "object.__class__")))
      (hn : PySem.W.specialIn K (.builtin "object.__class__") "__get__" = some (some (.builtin "getset_descriptor.__get__"))) (htk : PySem.W.takesIn K (.builtin "object.__class__") = some true)
      (hm : PySem.W.mroIn K C (.type "object") = some true) : TyOf K H (.ref a) (.ref C)
theorem isinst_ok {x : V} {u t : Value} (I : Inv X pins σ H s) (rx : RelV x u) (ty : TyOf X.K H x t) (e : PySem.W.kitOne X.K t c = some b) (h : ∀ tk, Q (.bool b) { s with toks := tk }) :
    wpAny (model X.prog X.w) A (call (.builtin "isinstance") [u, c]) Q E s := by
  cases ty with
  | non => cases (show u = Value.none from rx); exact PySem.W.kia_one PySem.W.kitx_none I.kIn True.intro e (fun z => nomatch z) h
  | bl y => cases (show u = Value.bool y from rx); exact PySem.W.kia_one PySem.W.kitx_bool I.kIn True.intro e (fun z => nomatch z) h
  | int i => obtain ⟨t, q⟩ := (show ∃ t, u = Value.int i t from rx); cases q; exact PySem.W.kia_one PySem.W.kitx_int I.kIn True.intro e (fun z => nomatch z) h
  | str y => obtain ⟨t, q⟩ := (show ∃ t, u = Value.str y t from rx); cases q; exact PySem.W.kia_one PySem.W.kitx_str I.kIn True.intro e (fun z => nomatch z) h
  | flt y => obtain ⟨t, q⟩ := (show ∃ t, u = Value.float y t from rx); cases q; exact PySem.W.kia_one PySem.W.kitx_float I.kIn True.intro e (fun z => nomatch z) h
  | @lst a xs ea =>
    cases (show u = Value.ref a from rx)
    obtain ⟨_, _, n, _, h1⟩ := (show ObjOk X.prog X.w H s.heap a (.lst xs) from I.hok a _ ea)
    exact PySem.W.kia_one PySem.W.kitx_list I.kIn ⟨_, h1, rfl⟩ e (fun z => nomatch z) h
  | @frz a ob xs ea =>
    cases (show u = Value.ref a from rx)
    obtain ⟨_, _, _, n, _, h1⟩ := (show ObjOk X.prog X.w H s.heap a (.frz ob (.lst xs)) from I.hok a _ ea)
    exact PySem.W.kia_one PySem.W.kitx_list I.kIn ⟨_, h1, rfl⟩ e (fun z => nomatch z) h
  | @tup a xs ea =>
    cases (show u = Value.ref a from rx)
    obtain ⟨_, _, _, p⟩ := (show ObjOk X.prog X.w H s.heap a (.tup xs) from I.hok a _ ea)
    obtain ⟨o, h1, h2, _⟩ := p
    exact PySem.W.kia_one PySem.W.kitx_tuple I.kIn ⟨o, h1, h2⟩ e (fun z => nomatch z) h
  | @dK a kvs ea =>
    cases (show u = Value.ref a from rx)
    obtain ⟨_, _, vs, _, p⟩ := (show ObjOk X.prog X.w H s.heap a (.dK kvs) from I.hok a _ ea)
    obtain ⟨o, es, ep, h1, h2, _⟩ := p
    exact PySem.W.kia_one PySem.W.kitx_dict I.kIn ⟨o, h1, h2.1⟩ e (fun z => nomatch z) h
  | @dT a kvs ea =>
    cases (show u = Value.ref a from rx)
    obtain ⟨_, _, xs, _, o, es, ep, h1, h2, _⟩ := (show ObjOk X.prog X.w H s.heap a (.dT kvs) from I.hok a _ ea)
    exact PySem.W.kia_one PySem.W.kitx_dict I.kIn ⟨o, h1, h2.1⟩ e (fun z => nomatch z) h
  | @ins a C dx fs ea cl ha hn htk hm =>
    cases (show u = Value.ref a from rx)
    obtain ⟨mA, O, _⟩ := ins_get I.hok ea
    obtain ⟨od, J, _⟩ := O.look
    exact PySem.W.kia_one (PySem.W.kitx_own (cl.get _) cl.hd ha hn htk hm) I.kIn J e (fun z => nomatch z) h
end
end L2
namespace L2
open PySem PySem.Spec PyProof.Rows
structure Room (k : Nat) (A : Around) : Prop where
  hd : A.handled = none
  dp : A.depth + 3 * k + 5 < recursionLimit
  un : A.units + 16 * k + 200 < cLine
theorem Room.mono {j k : Nat} {A : Around} (r : Room k A) (h : j ≤ k) : Room j A := ⟨r.hd, by have := r.dp; omega, by have := r.un; omega⟩
theorem Room.deeper {k : Nat} {A : Around} (r : Room (k + 1) A) (env : Env) : Room k (A.deeper env) :=
  ⟨r.hd, by have := r.dp; show A.depth + 1 + 3 * k + 5 < _; omega, by have := r.un; show A.units + 3 + 16 * k + 200 < _; omega⟩
theorem make_depth {A : Around} {C : Addr} {us : List Value} {kw : List (Str × Value)} : (A.under (.builtin "type.__call__" ⟨.ref C :: us, kw⟩)).depth = A.depth + 1 := by
  first | rfl | simp [Around.under, Code.weight, Code.isCreation, Code.isGuard, Code.isCaller, Code.frames, Code.isFrame, guardIds]
theorem make_units {A : Around} {C : Addr} {us : List Value} {kw : List (Str × Value)} : (A.under (.builtin "type.__call__" ⟨.ref C :: us, kw⟩)).units = A.units + 1 := by
  first | rfl | simp [Around.under, Code.cUnits, Code.frames, Code.isFrame]
theorem Room.make {k : Nat} {A : Around} (r : Room (k + 1) A) (C : Addr) (us : List Value) (kw : List (Str × Value)) : Room k (A.under (.builtin "type.__call__" ⟨.ref C :: us, kw⟩)) :=
  ⟨r.hd, by have := r.dp; rw [make_depth]; omega, by have := r.un; rw [make_units]; omega⟩
theorem Room.depth {k : Nat} {A : Around} (r : Room k A) : A.depth < recursionLimit := by have := r.dp; omega
theorem Room.units {k : Nat} {A : Around} (r : Room k A) : A.units + 64 < cLine := by have := r.un; omega
def tNil : TA := fun _ H Q => Q [] H
def tCons (ta : TE) (tr : TA) : TA := fun σ H Q => ta σ H fun x H1 => tr σ H1 fun xs H2 => Q (x :: xs) H2
section
variable {X : Cx} {e : Expr} {es : List Expr} {te : TE} {t : TA} {pos : Pos}
theorem pa_nil : PA X [] tNil := fun _ _ _ _ H Q I h => Calls.spliced_nil ⟨[], H, I, .nil, h⟩
theorem pa_cons (ha : PE X e te) (hr : PA X es t) (hs : starEach (e :: es) X.env = (false, eval e X.env) :: starEach es X.env := by rfl) : PA X (e :: es) (tCons te t) := by
  intro pos pins s σ H Q I h
  rw [hs]
  show wpAny _ _ (spliced ((false, eval e X.env) :: backTo pos (starEach es X.env))) _ _ s
  refine Calls.spliced_cons (thn (ha pins s σ H _ I h) fun u s1 ⟨x, H1, I1, r1, q1⟩ => ?_)
  exact thn (hr pos pins s1 σ H1 _ I1 q1) fun us s2 ⟨xs, H2, I2, r2, q2⟩ => ⟨x :: xs, H2, I2, .cons r1 r2, q2⟩
def tTup (t : TA) : TE := fun σ H Q => t σ H fun xs H1 => xs.length ≤ sizeLine ∧ ∀ p, H1 p = none → Q (.ref p) (upd H1 p (.tup xs))
def tLst (t : TA) : TE := fun σ H Q => t σ H fun xs H1 => xs.length ≤ sizeLine ∧ ∀ p, H1 p = none → Q (.ref p) (upd H1 p (.lst xs))
theorem pe_tup {x1} (h : PA X es t) : PE X (.Tuple es x1 pos) (tTup t) := by
  intro pins s σ H Q I hq
  refine wpAny_Tuple_spliced (thn (h pos pins s σ H _ I hq) fun us s1 ⟨xs, H1, I1, r, z, q⟩ => ⟨by rw [← r.length]; exact z, ?_⟩)
  have hf : H1 s1.heap.objs.size = none := I1.hok.fresh (Nat.le_refl _)
  refine ⟨.ref s1.heap.objs.size, upd H1 s1.heap.objs.size (.tup xs), I1.laid (t' := s1.toks) (fun b u e => Heap.get?_push_of_some _ e) (Nat.le_refl _) ?_, rfl, q _ hf⟩
  exact ⟨z, us, r, ⟨_, Heap.get?_push_size _ rfl, rfl, _, rfl⟩⟩
theorem pe_lst (h : PA X es t) : PE X (.List es pos) (tLst t) := by
  intro pins s σ H Q I hq
  refine wpAny_List_spliced (thn (h pos pins s σ H _ I hq) fun us s1 ⟨xs, H1, I1, r, z, q⟩ => ⟨by rw [← r.length]; exact z, ?_⟩)
  have hf : H1 s1.heap.objs.size = none := I1.hok.fresh (Nat.le_refl _)
  refine ⟨.ref s1.heap.objs.size, upd H1 s1.heap.objs.size (.lst xs), I1.laid (t' := s1.toks) (fun b u e => Heap.get?_push_of_some _ e) (Nat.le_refl _) ?_, rfl, q _ hf⟩
  exact ⟨z, us, 0, r, Heap.get?_push_size _ rfl⟩
end
abbrev Sp := List V → Hp → VK → XK → Prop
abbrev CXT := List Env → Hp → Shared → XK → Value → Shared → Prop
structure Env0 (P : Program) (w : World) (K : PySem.W.Frag) (mg : Str → Option Value) (base : Heap) (A : Around) (outer : List Env) (s : Shared) (H : Hp) : Prop where
  frames : A.frames = some outer
  mod : Mod K mg base
  bs : ∀ b o, base.get? b = some o → s.heap.get? b = some o ∧ H b = none
  bsz : base.objs.size ≤ s.heap.objs.size
  funs : s.heap.FunFrames base outer
  frf : ∀ b ∈ frs outer, H b = none
  hok : HOk P w H s.heap
  bare : AllBare s.gens
def CE (outer : List Env) (P : Program) (w : World) (H : Hp) (s : Shared) (Q : VK) (u : Value) (s' : Shared) : Prop :=
  ∃ v H', s'.os = s.os ∧ AllBare s'.gens ∧ Un (frs outer) [] H H' s.heap s'.heap ∧ HOk P w H' s'.heap ∧ RelV v u ∧ Q v H'
def CR (CX : CXT) (outer : List Env) (P : Program) (w : World) (H : Hp) (s : Shared) (Q : VK) (E : XK) (r : Result) (s' : Shared) : Prop :=
  match r with
  | .ok (.ret u) => CE outer P w H s Q u s'
  | .ok _ => False
  | .error e => CX outer H s E e s'
structure FnOk (P : Program) (w : World) (K : PySem.W.Frag) (mg : Str → Option Value) (base : Heap) (CX : CXT) (k : Nat) (f : Addr) (fd : FuncData) (ps : List Str) (sp : Sp) : Prop where
  len : ∀ vs H Q E, sp vs H Q E → vs.length = ps.length
  run : ∀ (A : Around) (outer : List Env) (s : Shared) (H : Hp) (args : Args) (us : List Value) (vs : List V) (Q : VK) (E : XK), Room k A → Env0 P w K mg base A outer s H → BindsTo s fd args (ps.zip us) → Vals vs us → sp vs H Q E →
    codeAny (model P w) A (.call (.ref f) args) (CR CX outer P w H s Q E) s
theorem Env0.make {P : Program} {w : World} {K : PySem.W.Frag} {mg : Str → Option Value} {base : Heap} {A : Around} {outer : List Env} {s : Shared} {H : Hp} (e : Env0 P w K mg base A outer s H) (C : Addr) (us : List Value) (kw : List (Str × Value)) :
    Env0 P w K mg base (A.under (.builtin "type.__call__" ⟨.ref C :: us, kw⟩)) outer s H := ⟨by first | exact e.frames | (simpa [Around.under, Code.envs, Code.isFrame, pushEnvs] using e.frames), e.mod, e.bs, e.bsz, e.funs, e.frf, e.hok, e.bare⟩
section
variable {X : Cx} {pins : List (Addr × Obj)} {σ : St} {H : Hp} {s s' : Shared}
theorem Inv.env0 (I : Inv X pins σ H s) : Env0 X.prog X.w X.K X.mg X.base X.A X.stack s H :=
  ⟨I.ok.frames, I.ok.mod, I.bs, Nat.le_trans I.ok.bsz I.sz, I.stack, I.stkFree, I.hok, I.bare⟩
theorem Inv.after {Q : VK} {u : Value} (I : Inv X pins σ H s) (h : CE X.stack X.prog X.w H s Q u s') : EP X pins σ Q u s' := by
  obtain ⟨v, H', os, bare, un, hok, r, q⟩ := h
  obtain ⟨hh, g, d, t, os'⟩ := s'
  obtain rfl : os' = s.os := os
  exact ⟨v, H', I.call (h' := hh) (g' := g) (d' := d) (t' := t) (ch := []) un hok bare (fun b z => absurd z (by simp)), r, q⟩
end
def tCall (sp : Sp) (dvs : List V) (E : XK) (t : TA) : TE := fun σ H Q => t σ H fun vs H1 => sp (vs ++ dvs) H1 Q E
def tMeth (C : Addr) (m : Str) (sp : Sp) (dvs : List V) (E : XK) (ta : TE) (t : TA) : TE := fun σ H Q => ta σ H fun x H1 => ∃ a dx fs, x = .ref a ∧ H1 a = some (.ins C dx fs) ∧ fs.lookup m = none ∧
  t σ H1 fun vs H2 => sp (x :: (vs ++ dvs)) H2 Q E
def tMake (C : Addr) (sp : Sp) (dvs : List V) (E : XK) (t : TA) : TE := fun σ H Q => t σ H fun vs H1 => ∀ x dx, H1 x = none → H1 dx = none → dx ≠ x →
  sp (.ref x :: (vs ++ dvs)) (upd (upd H1 dx (.own x)) x (.ins C dx [])) (fun v H2 => v = .non ∧ Q (.ref x) H2) E
def Binds (K : PySem.W.Frag) (fd : FuncData) (ps : List Str) (ds : List Value) : Prop :=
  ∀ (s : Shared) (us : List Value), K.In s.heap → (us ++ ds).length = ps.length → BindsTo s fd ⟨us, []⟩ (ps.zip (us ++ ds))
theorem Binds.all {K : PySem.W.Frag} {fd : FuncData} {ps : List Str} (h : ∀ us : List Value, us.length = ps.length → bindArgs fd ⟨us, []⟩ = pure (ps.zip us)) : Binds K fd ps [] := fun s us _ hl => by
  rw [List.append_nil] at hl ⊢
  exact .of_eq (h us hl)
def Passes (CX : CXT) (X : Cx) (E : XK) : Prop := ∀ (pins : List (Addr × Obj)) (σ : St) (H : Hp) (s : Shared) (e : Value) (s' : Shared), Inv X pins σ H s → CX X.stack H s E e s' → X.xe e s'
section
variable {X : Cx} {CX : CXT} {k : Nat} {f C : Addr} {fd : FuncData} {ps : List Str} {sp : Sp} {dvs : List V} {ds : List Value} {E : XK} {x m : Str} {p pos apos : Pos} {e o : Expr} {es : List Expr} {ta : TE} {t : TA}
theorem run_fn {pins : List (Addr × Obj)} {σ : St} {H : Hp} {s : Shared} {Q : VK} {us : List Value} {vs : List V} (F : FnOk X.prog X.w X.K X.mg X.base CX k f fd ps sp) (hr : Room k X.A) (hb : Binds X.K fd ps ds) (hd : Vals dvs ds) (hx : Passes CX X E)
    (I : Inv X pins σ H s) (r : Vals vs us) (h : sp (vs ++ dvs) H Q E) : wpAny (model X.prog X.w) X.A (call (.ref f) us) (EP X pins σ Q) X.xe s := by
  have r2 : Vals (vs ++ dvs) (us ++ ds) := r.append hd
  have hl : (us ++ ds).length = ps.length := by rw [← r2.length]; exact F.len _ _ _ _ h
  refine wpAny_call (codeAny_mono (F.run X.A X.stack s H ⟨us, []⟩ (us ++ ds) (vs ++ dvs) Q E hr I.env0 (hb s us I.kIn hl) r2 h) fun r s' hq => ?_)
  cases r with
  | error e => exact hx pins σ H s e s' I hq
  | ok fl =>
    cases fl with
    | ret u => exact I.after hq
    | next => exact False.elim hq
    | brk => exact False.elim hq
    | cont => exact False.elim hq
theorem pe_call (F : FnOk X.prog X.w X.K X.mg X.base CX k f fd ps sp) (hr : Room k X.A) (hg : Gl X x) (hm : X.mg x = some (.ref f)) (hk : PySem.W.keepIn X.K (.ref f) = true) (hb : Binds X.K fd ps ds) (hd : Vals dvs ds) (hx : Passes CX X E)
    (ha : PA X (e :: es) t) (hdb : (x == ("__debug__" : Str)) = false := by decide) (he : starEach (e :: es) X.env = (false, eval e X.env) :: starEach es X.env := by rfl) (hpl : (backTo pos (starEach es X.env)).any (·.1) = false := by rfl) :
    PE X (.Call (.Name x p) (e :: es) [] pos) (tCall sp dvs E t) := by
  intro pins s σ H Q I h
  refine wpAny_Call_Name_kw (ld_glob I hg hm ?_ hdb)
  refine PySem.W.callWith_K (h₀ := X.base) I.ok.mod.kin hk (thn (ha pos pins s σ H _ I h) fun us s1 ⟨vs, H1, I1, r, q⟩ => ⟨I1.kIn, ?_⟩) he hpl
  exact run_fn F hr hb hd hx I1 r q
theorem pe_meth {pl : Sem Bool} (he : PE X o ta) (c : Cls X.K C) (hm : Meth X.K C m f) (F : FnOk X.prog X.w X.K X.mg X.base CX k f fd ps sp) (hr : Room k X.A) (hb : Binds X.K fd ps ds) (hd : Vals dvs ds) (hx : Passes CX X E) (ha : PA X (e :: es) t)
    (hst : starEach (e :: es) X.env = (false, eval e X.env) :: starEach es X.env := by rfl) (hpl : (backTo pos (starEach es X.env)).any (·.1) = false := by rfl)
    (ht : eval (.Call (.Attribute o m apos) (e :: es) [] pos) X.env = (do
      let ov ← eval o X.env
      standAt apos.atName
      let (f, first) ← holding [ov] (getMethod ov m pl)
      callWith pos f first (backTo pos (starEach (e :: es) X.env)) (backToKw pos (keywordEach [] X.env))) := by rfl) :
    PE X (.Call (.Attribute o m apos) (e :: es) [] pos) (tMeth C m sp dvs E ta t) := by
  intro pins s σ H Q I h
  refine PySem.W.methodCall_KW (pl := pl) (thn (he pins s σ H _ I h) fun u s1 ⟨x, H1, I1, rx, a, dx, fs, ex, ea, l, q⟩ => ?_) ht
  subst ex
  obtain rfl : u = Value.ref a := rx
  refine getmeth_ok I1 ea c hm l ?_
  refine PySem.W.callWith_K (first := [.ref a]) (h₀ := X.base) I.ok.mod.kin hm.kp (thn (ha pos pins s1 σ H1 _ I1 q) fun us s2 ⟨vs, H2, I2, r, q2⟩ => ⟨I2.kIn, ?_⟩) hst hpl
  exact run_fn (us := .ref a :: us) (vs := .ref a :: vs) F hr hb hd hx I2 (.cons rfl r) q2
theorem pe_meth0 {pl : Sem Bool} (he : PE X o ta) (c : Cls X.K C) (hm : Meth X.K C m f) (F : FnOk X.prog X.w X.K X.mg X.base CX k f fd ps sp) (hr : Room k X.A) (hb : Binds X.K fd ps ds) (hd : Vals dvs ds) (hx : Passes CX X E)
    (ht : eval (.Call (.Attribute o m apos) [] [] pos) X.env = (do
      let ov ← eval o X.env
      standAt apos.atName
      let (f, first) ← holding [ov] (getMethod ov m pl)
      callWith pos f first (backTo pos (starEach [] X.env)) (backToKw pos (keywordEach [] X.env))) := by rfl) :
    PE X (.Call (.Attribute o m apos) [] [] pos) (tMeth C m sp dvs E ta tNil) := by
  intro pins s σ H Q I h
  refine PySem.W.methodCall_KW (pl := pl) (thn (he pins s σ H _ I h) fun u s1 ⟨x, H1, I1, rx, a, dx, fs, ex, ea, l, q⟩ => ?_) ht
  subst ex
  obtain rfl : u = Value.ref a := rx
  refine getmeth_ok I1 ea c hm l ?_
  exact PySem.W.callWith_K0 (first := [.ref a]) I1.kIn hm.kp (run_fn (us := [.ref a]) (vs := [.ref a]) F hr hb hd hx I1 (.cons rfl .nil) q)
structure Mk (K : PySem.W.Frag) (C f : Addr) : Prop where
  makes : PySem.W.makesIn K C = true
  init : PySem.W.findIn K (.ref C) "__init__" = some (some (.ref f))
  fn : PySem.W.isFn K (.ref f) = true
  kp : PySem.W.keepIn K (.ref C) = true
theorem run_make {pins : List (Addr × Obj)} {σ : St} {H : Hp} {s : Shared} {Q : VK} {us : List Value} {vs : List V} (M : Mk X.K C f) (F : FnOk X.prog X.w X.K X.mg X.base CX k f fd ps sp) (hr : Room (k + 1) X.A) (hb : Binds X.K fd ps ds) (hd : Vals dvs ds)
    (hx : Passes CX X E) (I : Inv X pins σ H s) (r : Vals vs us)
    (h : ∀ x dx, H x = none → H dx = none → dx ≠ x → sp (.ref x :: (vs ++ dvs)) (upd (upd H dx (.own x)) x (.ins C dx [])) (fun v H2 => v = .non ∧ Q (.ref x) H2) E) :
    wpAny (model X.prog X.w) X.A (call (.ref C) us) (EP X pins σ Q) X.xe s := by
  have hq := h (s.heap.objs.size + 1) s.heap.objs.size (I.hok.fresh (Nat.le_succ _)) (I.hok.fresh (Nat.le_refl _)) (Nat.ne_of_lt (Nat.lt_succ_self _))
  have I2 := Inv.made (C := C) I
  have r2 : Vals (V.ref (s.heap.objs.size + 1) :: (vs ++ dvs)) (Value.ref (s.heap.objs.size + 1) :: (us ++ ds)) := .cons rfl (r.append hd)
  have hl : (Value.ref (s.heap.objs.size + 1) :: us ++ ds).length = ps.length := by
    have e := r2.length
    rw [F.len _ _ _ _ hq] at e
    exact e.symm
  refine wpAny_call (make_map (f := f) I.kIn M.makes M.init (beq_iff_eq.mp M.fn) (codeAny_mono (F.run _ X.stack _ _ ⟨Value.ref (s.heap.objs.size + 1) :: us, []⟩ (Value.ref (s.heap.objs.size + 1) :: (us ++ ds)) _ _ E (hr.make C us [])
    (I2.env0.make C us []) (hb _ (Value.ref (s.heap.objs.size + 1) :: us) I2.kIn hl) r2 hq) fun r s' hq' => ?_))
  cases r with
  | error e => exact hx pins σ _ _ e s' I2 hq'
  | ok fl =>
    cases fl with
    | ret u =>
      obtain ⟨v, H', I3, rv, ev, q3⟩ := I2.after hq'
      subst ev
      exact ⟨rv, ⟨V.ref (s.heap.objs.size + 1), H', I3, rfl, q3⟩⟩
    | next => exact False.elim hq'
    | brk => exact False.elim hq'
    | cont => exact False.elim hq'
theorem pe_make (M : Mk X.K C f) (F : FnOk X.prog X.w X.K X.mg X.base CX k f fd ps sp) (hr : Room (k + 1) X.A) (hg : Gl X x) (hm : X.mg x = some (.ref C)) (hb : Binds X.K fd ps ds) (hd : Vals dvs ds) (hx : Passes CX X E)
    (ha : PA X (e :: es) t) (hdb : (x == ("__debug__" : Str)) = false := by decide) (he : starEach (e :: es) X.env = (false, eval e X.env) :: starEach es X.env := by rfl) (hpl : (backTo pos (starEach es X.env)).any (·.1) = false := by rfl) :
    PE X (.Call (.Name x p) (e :: es) [] pos) (tMake C sp dvs E t) := by
  intro pins s σ H Q I h
  refine wpAny_Call_Name_kw (ld_glob I hg hm ?_ hdb)
  refine PySem.W.callWith_K (h₀ := X.base) I.ok.mod.kin M.kp (thn (ha pos pins s σ H _ I h) fun us s1 ⟨vs, H1, I1, r, q⟩ => ⟨I1.kIn, ?_⟩) he hpl
  exact run_make M F hr hb hd hx I1 r q
theorem pe_make0 (M : Mk X.K C f) (F : FnOk X.prog X.w X.K X.mg X.base CX k f fd ps sp) (hr : Room (k + 1) X.A) (hg : Gl X x) (hm : X.mg x = some (.ref C)) (hb : Binds X.K fd ps ds) (hd : Vals dvs ds) (hx : Passes CX X E)
    (hdb : (x == ("__debug__" : Str)) = false := by decide) : PE X (.Call (.Name x p) [] [] pos) (tMake C sp dvs E tNil) := by
  intro pins s σ H Q I h
  refine wpAny_Call_Name_kw (ld_glob I hg hm ?_ hdb)
  exact PySem.W.callWith_K0 I.kIn M.kp (run_make (us := []) M F hr hb hd hx I .nil h)
end
def PK (X : Cx) (kws : List Keyword) (t : TA) : Prop :=
  ∀ (pos : Pos) (pins : List (Addr × Obj)) (s : Shared) (σ : St) (H : Hp) (Q : List V → Hp → Prop), Inv X pins σ H s → t σ H Q → wpAny (model X.prog X.w) X.A (evalAll ((backToKw pos (keywordEach kws X.env)).map (·.2))) (AP X pins σ Q) X.xe s
section
variable {X : Cx} {CX : CXT} {k : Nat} {f C : Addr} {fd : FuncData} {ps ks : List Str} {sp : Sp} {E : XK} {x m : Str} {p pos apos kpos : Pos} {e o : Expr} {es : List Expr} {kws : List Keyword} {te ta : TE} {t tk : TA} {nm : Option Str}
structure KBinds (K : PySem.W.Frag) (fd : FuncData) (ps ks : List Str) (g : List Value → List Value → List Value) (gV : List V → List V → List V) : Prop where
  to : ∀ (s : Shared) (us ws : List Value), K.In s.heap → (g us ws).length = ps.length → BindsTo s fd ⟨us, ks.zip ws⟩ (ps.zip (g us ws))
  rel : ∀ {vs : List V} {us : List Value} {zs : List V} {ws : List Value}, Vals vs us → Vals zs ws → Vals (gV vs zs) (g us ws)
def tCallK (sp : Sp) (gV : List V → List V → List V) (E : XK) (t tk : TA) : TE := fun σ H Q => t σ H fun vs H1 => tk σ H1 fun zs H2 => sp (gV vs zs) H2 Q E
variable {g : List Value → List Value → List Value} {gV : List V → List V → List V}
end
structure FnScope (N P : List Str) (sc : Scope) : Prop where
  kind : sc.kind = .function
  co : sc.isCoroutine = false
  gen : sc.isGenerator = false
  nd : N.Nodup
  pre : N.take P.length = P
  par : ∀ x ∈ P, sc.names.lookup x = some .local ∨ sc.names.lookup x = some .cell
  nofree : ∀ y ∈ sc.names, y.2 ≠ .free
theorem bindL_out {kindOf : Str → Option NameKind} {x : Str} : ∀ {binds : List (Str × Value)} {m : Str → Option Value}, (∀ v, (x, v) ∉ binds) → bindL kindOf binds m x = m x
  | [], _, _ => rfl
  | (n, v) :: r, m, h => by
    unfold bindL
    rw [bindL_out fun w hw => h w (List.mem_cons_of_mem _ hw)]
    split
    · have : x ≠ n := by rintro rfl; exact h v List.mem_cons_self
      simp [this]
    · rfl
theorem bindC_out {kindOf : Str → Option NameKind} {x : Str} : ∀ {binds : List (Str × Value)} {m : Str → Option Value}, (∀ v, (x, v) ∉ binds) → bindC kindOf binds m x = m x
  | [], _, _ => rfl
  | (n, v) :: r, m, h => by
    unfold bindC
    rw [bindC_out fun w hw => h w (List.mem_cons_of_mem _ hw)]
    split
    · rfl
    · have : x ≠ n := by rintro rfl; exact h v List.mem_cons_self
      simp [this]
theorem bindL_get {kindOf : Str → Option NameKind} {x : Str} {v : Value} : ∀ {P : List Str} {vs : List Value} {i : Nat} {m : Str → Option Value}, P.Nodup → P[i]? = some x → vs[i]? = some v → kindOf x = some .local →
    bindL kindOf (P.zip vs) m x = some v
  | [], _, _, _, _, h, _, _ => by simp at h
  | _ :: _, [], _, _, _, _, h, _ => by simp at h
  | p :: P, w :: vs, 0, m, nd, h1, h2, hk => by
    simp at h1 h2; subst h1; subst h2
    show bindL kindOf ((p, w) :: P.zip vs) m p = _
    unfold bindL
    rw [bindL_out fun v hv => (List.nodup_cons.mp nd).1 (List.of_mem_zip hv).1, if_pos hk]
    simp
  | p :: P, w :: vs, i + 1, m, nd, h1, h2, hk => by
    show bindL kindOf ((p, w) :: P.zip vs) m x = _
    unfold bindL
    exact bindL_get (i := i) (List.nodup_cons.mp nd).2 (by simpa using h1) (by simpa using h2) hk
theorem bindC_get {kindOf : Str → Option NameKind} {x : Str} {v : Value} : ∀ {P : List Str} {vs : List Value} {i : Nat} {m : Str → Option Value}, P.Nodup → P[i]? = some x → vs[i]? = some v → kindOf x ≠ some .local →
    bindC kindOf (P.zip vs) m x = some v
  | [], _, _, _, _, h, _, _ => by simp at h
  | _ :: _, [], _, _, _, _, h, _ => by simp at h
  | p :: P, w :: vs, 0, m, nd, h1, h2, hk => by
    simp at h1 h2; subst h1; subst h2
    show bindC kindOf ((p, w) :: P.zip vs) m p = _
    unfold bindC
    rw [bindC_out fun v hv => (List.nodup_cons.mp nd).1 (List.of_mem_zip hv).1, if_neg hk]
    simp
  | p :: P, w :: vs, i + 1, m, nd, h1, h2, hk => by
    show bindC kindOf ((p, w) :: P.zip vs) m x = _
    unfold bindC
    exact bindC_get (i := i) (List.nodup_cons.mp nd).2 (by simpa using h1) (by simpa using h2) hk
def start (N : List Str) (vs : List V) : St := vs.map some ++ List.replicate (N.length - vs.length) none
def cxOf (CX : CXT) (P : Program) (w : World) (K : PySem.W.Frag) (mg : Str → Option Value) (base : Heap) (N : List Str) (qual : Str) (scope : Scope) (f : Addr) (cd : Value) (A : Around) (outer : List Env) (s : Shared) (H : Hp) (E : XK) : Cx where
  prog := P
  w := w
  K := K
  mg := mg
  base := base
  A := A.deeper (envOfC qual scope s.heap.objs.size f cd)
  N := N
  s₀ := s
  H₀ := H
  env := envOfC qual scope s.heap.objs.size f cd
  outer := outer
  stack := envOfC qual scope s.heap.objs.size f cd :: outer
  ex := []
  calm := true
  fn := fun _ => true
  pn := []
  xe := fun e s' => wpAny (model P w) (A.deeper (envOfC qual scope s.heap.objs.size f cd)) (leaving (envOfC qual scope s.heap.objs.size f cd) e) (fun _ s'' => CX outer H s E e s'') (fun e' s'' => CX outer H s E e' s'') s'
theorem cell_has {sc : Scope} {n : Nat} {x : Str} (h : sc.names.lookup x = some .cell) : ∃ c, (cellsFrom n sc.names []).lookup x = some c := by
  have q := PySem.W.cellsFrom_some sc.names n [] (.inl h)
  exact Option.isSome_iff_exists.mp q
theorem inv_start {CX : CXT} {P : Program} {w : World} {K : PySem.W.Frag} {mg : Str → Option Value} {base : Heap} {N ps : List Str} {qual : Str} {scope : Scope} {f : Addr} {cd : Value} {A : Around} {outer : List Env} {s s1 : Shared} {H : Hp} {E : XK} {us : List Value} {vs : List V}
    (S : FnScope N ps scope) (hd : A.handled = none) (e0 : Env0 P w K mg base A outer s H) (hl : vs.length = ps.length) (r : Vals vs us)
    (x : InCallC s s.heap.objs.size (bindL (envOfC qual scope s.heap.objs.size f cd).kindOf (ps.zip us) fun _ => none) (cellsFrom (s.heap.objs.size + 1) scope.names []) (bindC (envOfC qual scope s.heap.objs.size f cd).kindOf (ps.zip us) fun _ => none) s1) :
    Inv (cxOf CX P w K mg base N qual scope f cd A outer s H E) [] (start N vs) H s1 := by
  have hpl : ps.length ≤ N.length := by have := congrArg List.length S.pre; rw [List.length_take] at this; omega
  obtain ⟨h1, tk, rfl, hk⟩ := x.done
  have noA : ∀ b : Addr, b ∉ (cxOf CX P w K mg base N qual scope f cd A outer s H E).ex := fun b z => absurd (show b ∈ ([] : List Addr) from z) (by simp)
  refine ⟨⟨e0.mod, S.kind, rfl, rfl, Nat.le_refl _, fun y z c h1 h2 => ?_, fun y hy => ?_, fun y c _ h => ?_, fun _ => hd, Around.frames_deeper e0.frames, .inr ⟨rfl, rfl⟩, fun b z => absurd z (noA b), e0.bs, e0.bsz, fun b _ _ => noA b, fun b z => absurd z (noA b), e0.funs, e0.frf⟩,
    rfl, e0.bare, Un.kept hk, ⟨_, x.toInCall.ns, fun i y v h1 h2 h3 => ?_⟩, fun y c h => ⟨_, x.cell y c h⟩, e0.hok.fresh (Nat.le_refl _), fun y c h => ?_, fun p hp => absurd (show p ∈ ([] : List (Addr × Obj)) from hp) (by simp), e0.hok.kept hk, ?_⟩
  · exact name_of_addr x.apart (PySem.mem_of_lookup h1) (PySem.mem_of_lookup h2)
  · have hy : scope.names.lookup y = some .cell ∨ scope.names.lookup y = some .free := hy
    rcases hy with hy | hy
    · exact cell_has hy
    · exact absurd rfl (S.nofree _ (PySem.mem_of_lookup hy))
  · exact Nat.le_of_lt (x.above y c (PySem.mem_of_lookup h))
  · have hi : i < vs.length := by
      unfold start at h2
      by_cases hi : i < vs.length
      · exact hi
      · rw [List.getElem?_append_right (by simpa using hi)] at h2
        rw [List.getElem?_replicate] at h2
        split at h2 <;> cases h2
    have ha : vs[i]? = some v := by
      unfold start at h2
      rw [List.getElem?_append_left (by simpa using hi), List.getElem?_map] at h2
      cases e : vs[i]? with
      | none => rw [e] at h2; cases h2
      | some a => rw [e] at h2; cases h2; rfl
    obtain ⟨u, hu, rv⟩ := r.get ha
    have hp : ps[i]? = some y := by
      rw [← S.pre, List.getElem?_take_of_lt (by omega)]; exact h1
    have ndP : ps.Nodup := by rw [← S.pre]; exact S.nd.sublist (List.take_sublist _ _)
    refine ⟨u, rv, ?_⟩
    rcases S.par y (List.mem_of_getElem? hp) with k | k
    · exact .inl ⟨k, bindL_get ndP hp hu k⟩
    · obtain ⟨c, e⟩ := cell_has (n := s.heap.objs.size + 1) k
      refine .inr ⟨.inl k, c, e, ?_⟩
      have q := x.cell y c e
      rw [bindC_get ndP hp hu (by show scope.names.lookup y ≠ _; rw [k]; decide)] at q
      exact q
  · exact e0.hok.fresh (Nat.le_of_lt (x.above y c (PySem.mem_of_lookup h)))
  · unfold start
    show _ = N.length
    rw [List.length_append, List.length_map, List.length_replicate]
    omega
theorem fn_of {CX : CXT} {P : Program} {w : World} {K : PySem.W.Frag} {mg : Str → Option Value} {base : Heap} {k : Nat} {f : Addr} {name qual : Str} {params : Arguments} {body : List Stmt} {scope : Scope} {dV kV doc pm cdv ct oc : Value} {an od : Option Addr}
    {osl : Array (Option Value)} {N ps : List Str} {sp : Sp} (lk : K.lookup f = some ⟨oc, od, .func (PySem.W.fnOf name qual params body scope dV kV doc pm an cdv ct), osl⟩) (hcd : PySem.W.codeIn K cdv qual = true) (S : FnScope N ps scope)
    (len : ∀ vs H Q E, sp vs H Q E → vs.length = ps.length)
    (hbody : ∀ (A : Around) (outer : List Env) (s : Shared) (H : Hp) (vs : List V) (Q : VK) (E : XK), Room k (A.deeper (envOfC qual scope s.heap.objs.size f cdv)) → sp vs H Q E →
      ∃ t, PSs (cxOf CX P w K mg base N qual scope f cdv A outer s H E) body t ∧ t { nx := fun _ H' => Q .non H', rt := Q } (start N vs) H) :
    FnOk P w K mg base CX (k + 1) f (PySem.W.fnOf name qual params body scope dV kV doc pm an cdv ct) ps sp := by
  refine ⟨len, fun A outer s H args us vs Q E hr e0 hb r hsp => ?_⟩
  have hl := len _ _ _ _ hsp
  have KX : K.In s.heap := e0.mod.kin.keeps fun b o e => (e0.bs b o e).1
  have lim : s.heap.NoLimit := e0.mod.nolimit.keeps fun b o e => (e0.bs b o e).1
  have hkind : ∀ y ∈ ps.zip us, scope.names.lookup y.1 = some .local ∨ (scope.names.lookup y.1 = some .cell ∧ ((cellsFrom (s.heap.objs.size + 1) scope.names []).lookup y.1).isSome = true) := fun ⟨n, v⟩ hy => by
    rcases S.par n (List.of_mem_zip hy).1 with q | q
    · exact .inl q
    · exact .inr ⟨q, PySem.W.cellsFrom_some _ _ _ (.inl q)⟩
  refine codeAny_call_function hr.depth (KX _ _ lk) rfl S.co S.gen rfl (PySem.W.codeRec_of KX hcd) (hb _ _ _ _ ?_)
  refine wpAny_newFunctionEnv_cells S.kind hkind fun env he s1 x => ?_
  subst he
  refine ⟨lim.keeps x.toInCall.keep, codeAny_func ?_⟩
  obtain ⟨t, ht, hq⟩ := hbody A outer s H vs Q E (hr.deeper _) hsp
  have I : Inv (cxOf CX P w K mg base N qual scope f cdv A outer s H E) [] (start N vs) H s1 := inv_start S hr.hd e0 hl r x
  refine wpAny_mono (ht [] s1 (start N vs) H _ I hq) (fun fl s' hs => ?_) fun e s' hs => hs
  have fin : ∀ {σ' : St} {H' : Hp} {v : V} {u : Value}, Inv (cxOf CX P w K mg base N qual scope f cdv A outer s H E) [] σ' H' s' → RelV v u → Q v H' → CE outer P w H s Q u s' :=
    fun {σ' H' v u} J rv q => ⟨v, H', J.os, J.bare, J.base, J.hok, rv, q⟩
  cases fl with
  | ret u =>
    obtain ⟨v, σ', H', J, rv, q⟩ := hs
    exact fin J rv q
  | next =>
    obtain ⟨σ', H', J, q⟩ := hs
    exact fin (v := V.non) (u := Value.none) J rfl q
  | brk =>
    obtain ⟨_, _, _, q⟩ := hs
    exact False.elim q
  | cont =>
    obtain ⟨_, _, _, q⟩ := hs
    exact False.elim q
end L2
namespace L2
open PySem PySem.Spec PyProof.Rows
section
variable {X : Cx} {x : Str} {p pos : Pos} {e : Expr} {es : List Expr} {t : TA} {id T : String} {r : List V → Hp → VK → Prop}
def tCB (r : List V → Hp → VK → Prop) (t : TA) : TE := fun σ H Q => t σ H fun vs H1 => r vs H1 Q
theorem pe_callB (hc : CallR X (.builtin id) r) (hg : Gl X x) (hm : X.mg x = none) (hv : bootBuiltins x = some (.builtin id)) (ha : PA X (e :: es) t) (hn : x ≠ "__name__" := by decide) (hdb : (x == ("__debug__" : Str)) = false := by decide)
    (he : starEach (e :: es) X.env = (false, eval e X.env) :: starEach es X.env := by rfl) (hpl : (backTo pos (starEach es X.env)).any (·.1) = false := by rfl) : PE X (.Call (.Name x p) (e :: es) [] pos) (tCB r t) := by
  intro pins s σ H Q I h
  refine wpAny_Call_Name_kw (ld_blt I hg hm hv ?_ hn hdb)
  exact PyProof.Rows.callWith_builtin1 (thn (ha pos pins s σ H _ I h) fun us s1 ⟨vs, H1, I1, r1, q1⟩ => hc pins s1 σ H1 vs us Q I1 r1 q1) he hpl
theorem pe_callTy (hc : CallR X (.type T) r) (hg : Gl X x) (hm : X.mg x = none) (hv : bootBuiltins x = some (.type T)) (ha : PA X (e :: es) t) (hn : x ≠ "__name__" := by decide) (hdb : (x == ("__debug__" : Str)) = false := by decide)
    (he : starEach (e :: es) X.env = (false, eval e X.env) :: starEach es X.env := by rfl) (hpl : (backTo pos (starEach es X.env)).any (·.1) = false := by rfl) : PE X (.Call (.Name x p) (e :: es) [] pos) (tCB r t) := by
  intro pins s σ H Q I h
  refine wpAny_Call_Name_kw (ld_blt I hg hm hv ?_ hn hdb)
  exact PyProof.Rows.callWith_type1 (thn (ha pos pins s σ H _ I h) fun us s1 ⟨vs, H1, I1, r1, q1⟩ => hc pins s1 σ H1 vs us Q I1 r1 q1) he hpl
end
end L2
namespace HT
open PySem PyProof.Rows
def lexLt : List Int → List Int → Bool
  | [], [] => false
  | [], _ :: _ => true
  | _ :: _, [] => false
  | x :: xs, y :: ys => if x = y then lexLt xs ys else decide (x < y)
section
open PySem.SeqAt
open PySem.AutoSeq1 (wpAny_loadPart')
open PySem.MeetsSeq PySem.MeetsSeq2 PySem.MeetsSeq3
end
section
variable {prog : Program} {w : World} {A : Around} {E : Value → Shared → Prop} {s : Shared}
def sIx (n d : Nat) : Option Int → Nat
  | none => d
  | some v => if v < 0 then (v + (n : Int)).toNat else min v.toNat n
theorem sIx_none (n d : Nat) : sIx n d none = d := rfl
theorem sIx_nat (n d k : Nat) : sIx n d (some (k : Int)) = min k n := by
  show (if (k : Int) < 0 then ((k : Int) + (n : Int)).toNat else min (k : Int).toNat n) = min k n
  rw [if_neg (by omega), Int.toNat_natCast]
end
end HT
namespace L2
open PySem PySem.Spec PyProof.Rows
abbrev TO := St → Hp → (Option Int → Hp → Prop) → Prop
def PO (X : Cx) (e : Option Expr) (t : TO) : Prop :=
  ∀ (pins : List (Addr × Obj)) (s : Shared) (σ : St) (H : Hp) (Q : Option Int → Hp → Prop), Inv X pins σ H s → t σ H Q →
    wpAny (model X.prog X.w) X.A (evalPart e X.env) (fun u s' => ∃ o H', Inv X pins σ H' s' ∧ IsPart u o ∧ Q o H') X.xe s
def tNoPart : TO := fun _ H Q => Q none H
def tPart (t : TE) : TO := fun σ H Q => t σ H fun x H1 => ∃ i, x = .int i ∧ Q (some i) H1
theorem intsAre_of {ns : List Int} : ∀ {us : List Value}, Vals (ns.map V.int) us → IntsAre us ns := by
  induction ns with
  | nil => intro us r; rw [List.map_nil] at r; cases r; exact .nil
  | cons n ns ih =>
    intro us r
    rw [List.map_cons] at r
    cases r with
    | cons r1 r2 =>
      obtain ⟨t, e⟩ := r1
      subst e
      exact .cons n t (ih r2)
section
variable {X : Cx} {e : Expr} {te : TE} {lo hi : Option Expr} {tl th : TO} {pos p2 : Pos}
theorem po_none : PO X none tNoPart := by
  intro pins s σ H Q I h
  rw [evalPart_none]
  exact wpAny_pure ⟨none, H, I, .none, h⟩
theorem po_some (h : PE X e te) : PO X (some e) (tPart te) := by
  intro pins s σ H Q I hw
  rw [evalPart_some]
  refine thn (h pins s σ H _ I hw) fun u s1 ⟨x, H1, I1, r1, q1⟩ => ?_
  obtain ⟨i, rfl, q⟩ := q1
  obtain ⟨t, rfl⟩ := r1
  exact ⟨some i, H1, I1, .int i t, q⟩
def SlR (X : Cx) (r : V → Option Int → Option Int → Hp → VK → Prop) : Prop :=
  ∀ (pins : List (Addr × Obj)) (s : Shared) (σ : St) (H : Hp) (x : V) (v vl vu : Value) (lo hi : Option Int) (sl : Addr) (Q : VK), Inv X pins σ H s → RelV x v → s.heap.IsSliceOf sl vl vu .none → IsPart vl lo → IsPart vu hi → r x lo hi H Q →
    ∃ T id, typeLookup (.type T) "__getitem__" = pure (some (.builtin id)) ∧ s.TypeIs v T ∧ wpAny (model X.prog X.w) X.A (getItem v (.ref sl)) (EP X pins σ Q) X.xe s
def tSl (r : V → Option Int → Option Int → Hp → VK → Prop) (te : TE) (tl th : TO) : TE := fun σ H Q => te σ H fun x H1 => tl σ H1 fun l H2 => th σ H2 fun u H3 => r x l u H3 Q
theorem pe_slice {r : V → Option Int → Option Int → Hp → VK → Prop} (hr : SlR X r) (he : PE X e te) (hl : PO X lo tl) (hu : PO X hi th) : PE X (.Subscript e (.Slice lo hi none p2) pos) (tSl r te tl th) := by
  intro pins s σ H Q I h
  refine Subscript_ (thn (he pins s σ H _ I h) fun v s1 ⟨x, H1, I1, r1, q1⟩ => ?_)
  refine wpAny_Slice (thn (hl pins s1 σ H1 _ I1 q1) fun vl s2 ⟨l, H2, I2, pl, q2⟩ => thn (hu pins s2 σ H2 _ I2 q2) fun vu s3 ⟨u, H3, I3, pu, q3⟩ => ?_)
  rw [evalPart_none]
  refine wpAny_pure ?_
  have I4 : Inv X pins σ H3 { s3 with heap := s3.heap.push { cls := .type "slice", data := .fields #[vl, vu, .none] } } := I3.kept (t' := s3.toks) fun b ob q => Heap.get?_push_of_some _ q
  obtain ⟨T, id, hT, ht, hg⟩ := hr pins { s3 with heap := s3.heap.push { cls := .type "slice", data := .fields #[vl, vu, .none] } } σ H3 x v vl vu l u s3.heap.objs.size Q I4 r1 (Heap.IsSliceOf.new ..) pl pu q3
  show wpAny (model X.prog X.w) X.A (subscriptTail e (.Slice lo hi none p2) v (.ref s3.heap.objs.size)) (EP X pins σ Q) X.xe { s3 with heap := s3.heap.push { cls := .type "slice", data := .fields #[vl, vu, .none] } }
  exact tail_any (ops := [.ref s3.heap.objs.size, v]) ht hT hg (by with_unfolding_all rfl)
def cutV (xs : List V) (lo hi : Option Int) : List V := (xs.drop (HT.sIx xs.length 0 lo)).take (HT.sIx xs.length xs.length hi - HT.sIx xs.length 0 lo)
theorem cutV_length (xs : List V) (lo hi : Option Int) : (cutV xs lo hi).length ≤ xs.length := by
  unfold cutV
  rw [List.length_take, List.length_drop]
  omega
def rSlT (K : PySem.W.Frag) : V → Option Int → Option Int → Hp → VK → Prop := fun x lo hi H Q => ∃ a xs, x = .ref a ∧ SqT K H a xs ∧
  ¬ (HT.sIx xs.length 0 lo = 0 ∧ HT.sIx xs.length xs.length hi = xs.length) ∧ ∀ p, H p = none → Q (.ref p) (upd H p (.tup (cutV xs lo hi)))
def rLtT (K : PySem.W.Frag) : R2 := fun x y H Q => ∃ a b ns ms, x = .ref a ∧ y = .ref b ∧ SqT K H a (ns.map V.int) ∧ SqT K H b (ms.map V.int) ∧ Q (.bl (HT.lexLt ns ms)) H
def rCatT (K : PySem.W.Frag) : R2 := fun x y H Q => ∃ a b xs ys, x = .ref a ∧ y = .ref b ∧ SqT K H a xs ∧ SqT K H b ys ∧ xs ≠ [] ∧ xs.length + ys.length ≤ sizeLine ∧
  (ys = [] → Q (.ref a) H) ∧ (ys ≠ [] → ∀ p, H p = none → Q (.ref p) (upd H p (.tup (xs ++ ys))))
end
end L2
namespace L2
open PySem PySem.Spec PyProof.Rows
def ixN (n : Nat) (i : Int) : Option Nat := if 0 ≤ i then (if i < n then some i.toNat else none) else if -(n : Int) ≤ i then some (i + n).toNat else none
def atI {α : Type} (xs : List α) (i : Int) : Option α := (ixN xs.length i).bind fun j => xs[j]?
theorem ixN_seq {n : Nat} {i : Int} {j : Nat} (h : ixN n i = some j) : seqIndex? i n = some j ∧ j < n ∧ -(n : Int) ≤ i ∧ i < n := by
  unfold ixN at h
  by_cases h0 : 0 ≤ i
  · rw [if_pos h0] at h
    by_cases h1 : i < n
    · rw [if_pos h1] at h
      have e : i.toNat = j := Option.some.inj h
      exact ⟨by rw [seqIndex_of h0 h1, e], by omega, by omega, h1⟩
    · rw [if_neg h1] at h; cases h
  · rw [if_neg h0] at h
    by_cases h1 : -(n : Int) ≤ i
    · rw [if_pos h1] at h
      have e : (i + n).toNat = j := Option.some.inj h
      exact ⟨by rw [seqIndex_neg (by omega) h1, e], by omega, h1, by omega⟩
    · rw [if_neg h1] at h; cases h
theorem atI_get {α : Type} {xs : List α} {i : Int} {v : α} (h : atI xs i = some v) : ∃ j, seqIndex? i xs.length = some j ∧ xs[j]? = some v ∧ j < xs.length ∧ -(xs.length : Int) ≤ i ∧ i < xs.length := by
  unfold atI at h
  cases e : ixN xs.length i with
  | none => rw [e] at h; cases h
  | some j =>
    rw [e] at h
    obtain ⟨h1, h2, h3, h4⟩ := ixN_seq e
    exact ⟨j, h1, h, h2, h3, h4⟩
theorem atI_nat {α : Type} {xs : List α} {j : Nat} {v : α} (h : xs[j]? = some v) : atI xs (j : Int) = some v := by
  have hj : j < xs.length := (List.getElem?_eq_some_iff.mp h).1
  have e : ixN xs.length (j : Int) = some j := by
    unfold ixN
    rw [if_pos (by omega), if_pos (by omega)]; simp
  unfold atI; rw [e]; exact h
def PlainIx (b : Expr) : Prop := ∀ o i, subscripted b false o i = operate [o, i] (getItem o i)
def IxR (X : Cx) (r : R2) : Prop :=
  ∀ (value slice : Expr) (pins : List (Addr × Obj)) (s : Shared) (σ : St) (H : Hp) (x y : V) (v u : Value) (Q : VK), Inv X pins σ H s → RelV x v → RelV y u → r x y H Q →
    subscripted slice false v u = operate [v, u] (getItem v u) → wpAny (model X.prog X.w) X.A (subscriptTail value slice v u) (EP X pins σ Q) X.xe s
def MtR (X : Cx) (id : String) (r : V → List V → Hp → VK → Prop) : Prop :=
  ∀ (pins : List (Addr × Obj)) (s : Shared) (σ : St) (H : Hp) (x : V) (xs : List V) (v : Value) (us : List Value) (Q : VK), Inv X pins σ H s → RelV x v → Vals xs us → r x xs H Q →
    wpAny (model X.prog X.w) X.A (call (.builtin id) (v :: us)) (EP X pins σ Q) X.xe s
section
variable {X : Cx} {a b : Expr} {ta tb : TE} {pos : Pos}
theorem pe_ix {r : R2} (hr : IxR X r) (ha : PE X a ta) (hb : PE X b tb) (hs : PlainIx b) : PE X (.Subscript a b pos) (tOp r ta tb) := by
  intro pins s σ H Q I h
  exact Subscript_ (binT ha hb I h fun v u s2 x y H2 I2 rx ry q => hr a b pins s2 σ H2 x y v u Q I2 rx ry q (hs _ _))
def rIxL (K : PySem.W.Frag) : R2 := fun x y H Q => ∃ p xs i v, x = .ref p ∧ y = .int i ∧ SqL K H p xs ∧ atI xs i = some v ∧ Q v H
def rIxT (K : PySem.W.Frag) : R2 := fun x y H Q => ∃ p xs i v, x = .ref p ∧ y = .int i ∧ SqT K H p xs ∧ atI xs i = some v ∧ Q v H
def rIxS : R2 := fun x y H Q => ∃ z i c, x = .str z ∧ y = .int i ∧ z.length ≤ sizeLine ∧ atI z.cps.toList i = some c ∧ Q (.str ⟨#[c]⟩) H
theorem ix_list : IxR X (rIxL X.K) := by
  intro value slice pins s σ H x y v u Q I rx ry h hs
  obtain ⟨p, xs, i, z, rfl, rfl, hq, he, q⟩ := h
  cases rx
  obtain ⟨t, rfl⟩ := ry
  obtain ⟨its, r, pl, hz⟩ := I.list hq
  obtain ⟨j, h1, h2, h3, h4, h5⟩ := atI_get he
  obtain ⟨w, ew, rw'⟩ := r.get h2
  have hl := r.length
  have hn := line63
  have fin : EP X pins σ Q w s := ⟨z, H, I, rw', q⟩
  by_cases h0 : 0 ≤ i
  · have hj : i.toNat = j := by
      rw [seqIndex_of h0 h5] at h1
      exact Option.some.inj h1
    exact item_listR pl.isList h0 (by omega) (by rw [hj]; simpa using ew) fin hs
  · have hj : (i + (its.toArray.size : Int)).toNat = j := by
      rw [seqIndex_neg (by omega) h4] at h1
      rw [List.size_toArray, ← hl]
      exact Option.some.inj h1
    exact subscriptTail_builtinR (x := w) pl.isList.typeIs slot_list_getitem.lookup
      (wpAny_getItem_list_neg (Q := fun r s' => r = w ∧ EP X pins σ Q r s') pl.isList (by omega) (by rw [List.size_toArray] <;> omega) (by omega) (by rw [hj]; simpa using ew) ⟨rfl, fin⟩) hs
theorem ix_tup : IxR X (rIxT X.K) := by
  intro value slice pins s σ H x y v u Q I rx ry h hs
  obtain ⟨p, xs, i, z, rfl, rfl, hq, he, q⟩ := h
  cases rx
  obtain ⟨t, rfl⟩ := ry
  obtain ⟨its, r, pl, hz⟩ := I.tuple hq
  obtain ⟨j, h1, h2, h3, h4, h5⟩ := atI_get he
  obtain ⟨w, ew, rw'⟩ := r.get h2
  have hl := r.length
  have hn := line63
  have fin : EP X pins σ Q w s := ⟨z, H, I, rw', q⟩
  exact subscriptTail_builtinR (x := w) pl.typeIs slot_tuple_getitem.lookup
    (getItem_tuple (j := j) (Q := fun r s' => r = w ∧ EP X pins σ Q r s') pl (by omega) (by omega) (by rw [List.size_toArray, ← hl]; exact h1) (by simpa using ew) ⟨rfl, fin⟩) hs
def rIx (K : PySem.W.Frag) : R2 := fun x y H Q => rIxL K x y H Q ∨ rIxT K x y H Q ∨ rIxS x y H Q
def rSetL : V → V → V → Hp → (Hp → Prop) → Prop := fun o i v H Q => ∃ p xs k j, o = .ref p ∧ i = .int k ∧ H p = some (.lst xs) ∧ ixN xs.length k = some j ∧ Q (upd H p (.lst (xs.set j v)))
theorem slice_bounds (lo hi : Option Int) (n : Nat) : (sliceBounds lo hi none n).1 = ((HT.sIx n 0 lo : Nat) : Int) ∧ (sliceBounds lo hi none n).2.1 = ((HT.sIx n n hi : Nat) : Int) ∧ (sliceBounds lo hi none n).2.2 = 1 := by
  refine ⟨?_, ?_, rfl⟩
  · cases lo with
    | none => simp [sliceBounds, HT.sIx]
    | some i =>
      simp only [sliceBounds, HT.sIx, Option.getD_none, show (1 : Int) > 0 by decide, if_true]
      by_cases h : i < 0
      · simp only [h, if_true] <;> omega
      · simp only [h, if_false] <;> omega
  · cases hi with
    | none => simp [sliceBounds, HT.sIx]
    | some i =>
      simp only [sliceBounds, HT.sIx, Option.getD_none, show (1 : Int) > 0 by decide, if_true]
      by_cases h : i < 0
      · simp only [h, if_true] <;> omega
      · simp only [h, if_false] <;> omega
theorem slicePick_cut (its : List Value) (lo hi : Option Int) : slicePick its.toArray lo hi none = ((its.drop (HT.sIx its.length 0 lo)).take (HT.sIx its.length its.length hi - HT.sIx its.length 0 lo)).toArray := by
  obtain ⟨h1, h2, h3⟩ := slice_bounds lo hi its.toArray.size
  unfold slicePick
  rw [h1, h2, h3]
  simp only [sliceRange_one, pick_run, List.size_toArray] <;> rfl
def rSlL (K : PySem.W.Frag) : V → Option Int → Option Int → Hp → VK → Prop := fun x lo hi H Q => ∃ a xs, x = .ref a ∧ SqL K H a xs ∧ ∀ p, H p = none → Q (.ref p) (upd H p (.lst (cutV xs lo hi)))
theorem sl_list : SlR X (rSlL X.K) := by
  intro pins s σ H x v vl vu lo hi sl Q I rx hs pl pu h
  obtain ⟨a, xs, rfl, hx, q⟩ := h
  cases rx
  obtain ⟨its, r, ht, hz⟩ := I.list hx
  have hlen := r.length
  refine ⟨"list", _, slot_list_getitem.lookup, ht.isList.typeIs, ?_⟩
  refine wpAny_getItem_list_slice ht.isList hs pl pu .none (by simp) ?_ (by rw [List.size_toArray] <;> omega)
  rw [slicePick_cut, ← hlen]
  refine ⟨.ref s.heap.objs.size, _, I.laid (t' := s.toks) (o := .lst (cutV xs lo hi)) (fun b ob q => Heap.get?_push_of_some _ q) (Nat.le_refl _) ?_, rfl, q _ (I.hok.fresh (Nat.le_refl _))⟩
  exact ⟨Nat.le_trans (cutV_length xs lo hi) hz, _, 0, (r.drop (HT.sIx xs.length 0 lo)).take (HT.sIx xs.length xs.length hi - HT.sIx xs.length 0 lo), Heap.get?_push_size _ rfl⟩
def flatV : V → Bool
  | .non => true
  | .bl _ => true
  | .int _ => true
  | .str _ => true
  | _ => false
def eqV : V → V → Bool
  | .non, .non => true
  | .bl a, .bl b => a == b
  | .bl a, .int b => (if a then 1 else 0) == b
  | .int a, .bl b => a == (if b then 1 else 0)
  | .int a, .int b => a == b
  | .str a, .str b => a == b
  | _, _ => false
theorem eqAt_V {A : Around} {s : Shared} {y x : V} {u v : Value} (ry : RelV y u) (rx : RelV x v) (fy : flatV y = true) (fx : flatV x = true) : SeqAt.EqAt A s u v (eqV y x) := by
  cases y with
  | non =>
    cases ry
    cases x with
    | non => cases rx; exact SeqAt.EqAt.same _
    | bl b => cases rx; exact SeqAt.EqAt.none_bool b
    | int b => obtain ⟨t, rfl⟩ := rx; exact SeqAt.EqAt.none_int b t
    | str b => obtain ⟨t, rfl⟩ := rx; exact SeqAt.EqAt.none_str b t
    | _ => exact absurd (show false = true from fx) Bool.false_ne_true
  | bl a =>
    cases ry
    cases x with
    | non => cases rx; exact SeqAt.EqAt.bool_none a
    | bl b => cases rx; exact SeqAt.EqAt.bool_bool a b
    | int b => obtain ⟨t, rfl⟩ := rx; exact SeqAt.EqAt.bool_int a b t
    | str b => obtain ⟨t, rfl⟩ := rx; exact SeqAt.EqAt.bool_str a b t
    | _ => exact absurd (show false = true from fx) Bool.false_ne_true
  | int a =>
    obtain ⟨t', rfl⟩ := ry
    cases x with
    | non => cases rx; exact SeqAt.EqAt.int_none a t'
    | bl b => cases rx; exact SeqAt.EqAt.int_bool a t' b
    | int b => obtain ⟨t, rfl⟩ := rx; exact SeqAt.EqAt.int_int a t' b t
    | str b => obtain ⟨t, rfl⟩ := rx; exact SeqAt.EqAt.int_str a t' b t
    | _ => exact absurd (show false = true from fx) Bool.false_ne_true
  | str a =>
    obtain ⟨t', rfl⟩ := ry
    cases x with
    | non => cases rx; exact SeqAt.EqAt.str_none a t'
    | bl b => cases rx; exact SeqAt.EqAt.str_bool a t' b
    | int b => obtain ⟨t, rfl⟩ := rx; exact SeqAt.EqAt.str_int a t' b t
    | str b => obtain ⟨t, rfl⟩ := rx; exact SeqAt.EqAt.str_str a t' b t
    | _ => exact absurd (show false = true from fx) Bool.false_ne_true
  | _ => exact absurd (show false = true from fy) Bool.false_ne_true
def eqU (x : V) (u : Value) : Bool := match u with
  | .none => eqV .non x
  | .bool b => eqV (.bl b) x
  | .int i _ => eqV (.int i) x
  | .str z _ => eqV (.str z) x
  | _ => false
theorem eqU_of {x y : V} {u : Value} (r : RelV y u) (f : flatV y = true) : eqU x u = eqV y x := by
  cases y with
  | non => cases r; rfl
  | bl b => cases r; rfl
  | int i => obtain ⟨t, rfl⟩ := r; rfl
  | str z => obtain ⟨t, rfl⟩ := r; rfl
  | _ => exact absurd (show false = true from f) Bool.false_ne_true
theorem any_eqU {x : V} : ∀ {xs : List V} {us : List Value}, Vals xs us → xs.all flatV = true → us.any (eqU x) = xs.any fun y => eqV y x
  | _, _, .nil, _ => rfl
  | y :: xs, u :: us, .cons r t, f => by
    rw [List.all_cons, Bool.and_eq_true] at f
    rw [List.any_cons, List.any_cons, eqU_of r f.1, any_eqU t f.2]
theorem mem_eqAt {A : Around} {s : Shared} {x : V} {v : Value} (rx : RelV x v) (fx : flatV x = true) : ∀ {xs : List V} {us : List Value}, Vals xs us → xs.all flatV = true → ∀ u ∈ us, SeqAt.EqAt A s u v (eqU x u)
  | _, _, .nil, _ => fun u hu => by cases hu
  | y :: xs, u :: us, .cons r t, f => fun u' hu => by
    rw [List.all_cons, Bool.and_eq_true] at f
    rcases List.mem_cons.mp hu with rfl | hu
    · rw [eqU_of r f.1]; exact eqAt_V r rx f.1 fx
    · exact mem_eqAt rx fx t f.2 u' hu
def inV (x : V) (xs : List V) : Bool := xs.any fun y => eqV y x
def rIn (K : PySem.W.Frag) (neg : Bool) : R2 := fun x y H Q => ∃ p xs, y = .ref p ∧ (SqL K H p xs ∨ SqT K H p xs) ∧ flatV x = true ∧ xs.all flatV = true ∧ Q (.bl (if neg then !inV x xs else inV x xs)) H
theorem op_notIn_seq : OpR X (compareOp .NotIn) (rIn X.K true) := by
  intro pins s σ H x y v u Q I rx ry h
  obtain ⟨p, xs, rfl, hq, fx, fs, q⟩ := h
  cases ry
  rcases hq with hq | hq
  · obtain ⟨its, r, pl, hz⟩ := I.list hq
    refine SeqAt.notIn_listAt (eqU x) pl.isList (fun w hw => mem_eqAt rx fx r fs w (by simpa using hw)) ⟨.bl _, H, I, rfl, ?_⟩
    rw [show its.toArray.any (eqU x) = its.any (eqU x) by simp, any_eqU r fs]
    exact q
  · obtain ⟨its, r, pl, hz⟩ := I.tuple hq
    refine SeqAt.notIn_tupleAt (eqU x) pl (fun w hw => mem_eqAt rx fx r fs w (by simpa using hw)) ⟨.bl _, H, I, rfl, ?_⟩
    rw [show its.toArray.any (eqU x) = its.any (eqU x) by simp, any_eqU r fs]
    exact q
theorem call_len_seq : CallR X (.builtin "len") (fun xs H Q => ∃ p ys, xs = [.ref p] ∧ (SqL X.K H p ys ∨ SqT X.K H p ys) ∧ Q (.int ys.length) H) := by
  intro pins s σ H xs us Q I r h
  obtain ⟨p, ys, rfl, hq, q⟩ := h
  obtain ⟨u, rfl, rx⟩ := vals1 r
  cases rx
  have hn := line63
  rcases hq with hq | hq
  · obtain ⟨its, r', pl, hz⟩ := I.list hq
    have hlen := r'.length
    exact Calls.call_len_list pl.isList (by simp only [List.size_toArray] <;> omega) ⟨.int ys.length, H, I.tok _, ⟨s.toks + 1, by rw [List.size_toArray, hlen]⟩, q⟩
  · obtain ⟨its, r', pl, hz⟩ := I.tuple hq
    have hlen := r'.length
    exact len_tuple pl (by simp only [List.size_toArray] <;> omega) ⟨.int ys.length, H, I.tok _, ⟨s.toks + 1, by rw [List.size_toArray, hlen]⟩, q⟩
theorem call_list_of : CallR X (.type "list") (fun xs H Q => ∃ p ys, xs = [.ref p] ∧ (SqL X.K H p ys ∨ SqT X.K H p ys) ∧ ∀ l, H l = none → Q (.ref l) (upd H l (.lst ys))) := by
  intro pins s σ H xs us Q I r h
  obtain ⟨p, ys, rfl, hq, q⟩ := h
  obtain ⟨u, rfl, rx⟩ := vals1 r
  cases rx
  have fin : ∀ (its : List Value), Vals ys its → ys.length ≤ sizeLine → ∀ (h' : Heap) (c' : Nat), (∀ b o', s.heap.get? b = some o' → h'.get? b = some o') →
      h'.get? s.heap.objs.size = some { cls := .type "list", dict := none, data := .seq its.toArray c', slots := #[] } → EP X pins σ Q (.ref s.heap.objs.size) { s with heap := h' } := fun its r' hz h' c' kp e =>
    ⟨.ref s.heap.objs.size, _, I.laid (t' := s.toks) kp (Nat.le_refl _) (show ObjOk X.prog X.w _ h' _ (.lst ys) from ⟨hz, its, c', r', e⟩), rfl, q _ (I.hok.fresh (Nat.le_refl _))⟩
  rcases hq with hq | hq
  · obtain ⟨its, r', pl, hz⟩ := I.list hq
    have hlen := r'.length
    obtain ⟨o, ho, hc, n, hd⟩ := pl.isList
    exact call_list_seq p (.inl rfl) ho hc hd (fun h' c' kp e => fin its r' hz h' c' kp e) (by simp only [List.size_toArray] <;> omega)
  · obtain ⟨its, r', pl, hz⟩ := I.tuple hq
    have hlen := r'.length
    obtain ⟨o, ho, hc, n, hd⟩ := pl
    exact call_list_seq p (.inr rfl) ho hc hd (fun h' c' kp e => fin its r' hz h' c' kp e) (by simp only [List.size_toArray] <;> omega)
def tyV (K : PySem.W.Frag) (T : String) (x : V) (H : Hp) : Prop := match x with
  | .str _ => T = "str"
  | .int _ => T = "int"
  | .ref p => (T = "list" ∧ ∃ xs, SqL K H p xs) ∨ (T = "tuple" ∧ ∃ o, K.lookup p = some o ∧ o.cls = .type "tuple" ∧ o.dict = none) ∨
      (T = "dict" ∧ ((∃ kvs, H p = some (.dK kvs)) ∨ ∃ kvs, H p = some (.dT kvs))) ∨ (T = "set" ∧ ∃ S n, H p = some (.set S n))
  | _ => False
theorem tyV_is {pins : List (Addr × Obj)} {σ : St} {H : Hp} {s : Shared} {T : String} {x : V} {v : Value} (I : Inv X pins σ H s) (r : RelV x v) (ty : tyV X.K T x H) :
    s.TypeIs v T ∧ ∀ a, v = .ref a → ∃ ob, s.heap.get? a = some ob ∧ ob.dict = none := by
  cases x with
  | str z =>
    obtain ⟨t, rfl⟩ := r
    cases (show T = "str" from ty)
    exact ⟨typeIs_str s z t, fun _ e => nomatch e⟩
  | int i =>
    obtain ⟨t, rfl⟩ := r
    cases (show T = "int" from ty)
    exact ⟨typeIs_int s i t, fun _ e => nomatch e⟩
  | ref p =>
    cases r
    rcases ty with ⟨rfl, xs, hq⟩ | ⟨rfl, o, hk, hc, hd⟩ | ⟨rfl, hk⟩ | ⟨rfl, S, n, hk⟩
    · obtain ⟨its, _, pl, _⟩ := I.list hq
      refine ⟨pl.isList.typeIs, fun a e => ?_⟩
      cases e
      obtain ⟨o, n, e, c, hd, _⟩ := pl
      exact ⟨o, e, hd⟩
    · refine ⟨⟨o, I.kIn p o hk, hc⟩, fun a e => ?_⟩
      cases e
      exact ⟨o, I.kIn _ o hk, hd⟩
    · have z : ∃ o, s.heap.get? p = some o ∧ o.ExactDict := by
        rcases hk with ⟨kvs, hk⟩ | ⟨kvs, hk⟩
        · obtain ⟨_, _, _, _, o, _, _, e, ex, _⟩ := I.hok p _ hk
          exact ⟨o, e, ex⟩
        · obtain ⟨_, _, _, _, o, _, _, e, ex, _⟩ := I.hok p _ hk
          exact ⟨o, e, ex⟩
      obtain ⟨o, e, ex⟩ := z
      refine ⟨⟨o, e, ex.1⟩, fun a e2 => ?_⟩
      cases e2
      exact ⟨o, e, ex.2.1⟩
    · obtain ⟨o, _, _, _, e, ex, _⟩ := I.hok p _ hk
      refine ⟨⟨o, e, ex.1⟩, fun a e2 => ?_⟩
      cases e2
      exact ⟨o, e, ex.2.1⟩
  | _ => exact False.elim ty
def tBM0 (K : PySem.W.Frag) (T : String) (r : V → List V → Hp → VK → Prop) (to : TE) : TE := fun σ H Q => to σ H fun x H1 => tyV K T x H1 ∧ r x [] H1 Q
def tBM (K : PySem.W.Frag) (T : String) (r : V → List V → Hp → VK → Prop) (to : TE) (t : TA) : TE := fun σ H Q => to σ H fun x H1 => tyV K T x H1 ∧ t σ H1 fun xs H2 => r x xs H2 Q
variable {o e : Expr} {es : List Expr} {to : TE} {t : TA} {name : Str} {apos cpos : Pos} {T id : String} {r : V → List V → Hp → VK → Prop}
theorem pe_bm (pa : PlainAttrs T) (slot : Slot T name id) (hty : typeOf (.builtin id) = pure (.type "method_descriptor")) (hm : MtR X id r) (ho : PE X o to) (ha : PA X (e :: es) t)
    (hbase : attributeBase o name X.env (eval o X.env) = eval o X.env := by rfl)
    (hfew : ((backTo cpos (starEach (e :: es) X.env)).all (fun x => !x.1) && (backToKw cpos (keywordEach [] X.env)).all (fun x => x.1.isSome)
      && decide ((e :: es).length + ([] : List Keyword).length + (if ([] : List Keyword).isEmpty then 0 else 1) < 30)) = true := by rfl)
    (hline : (apos.endLine == cpos.line) = true := by rfl) (hs : starEach (e :: es) X.env = (false, eval e X.env) :: starEach es X.env := by rfl) (hplain : (backTo cpos (starEach es X.env)).any (·.1) = false := by rfl) :
    PE X (.Call (.Attribute o name apos) (e :: es) [] cpos) (tBM X.K T r to t) := by
  intro pins s σ H Q I h
  refine wpAny_Call_method_late hbase hfew hline rfl (thn (ho pins s σ H _ I h) fun v s1 ⟨x, H1, I1, r1, ty, q1⟩ => ?_)
  obtain ⟨h1, h2⟩ := tyV_is I1 r1 ty
  refine ⟨T, id, pa, slot, hty, h1, h2, ?_⟩
  have hA := ha cpos pins s1 σ H1 _ I1 q1
  rw [hs] at hA ⊢
  refine Calls.callWith_builtin (by show (false || (backTo cpos (starEach es X.env)).any (·.1)) = false; rw [hplain] <;> rfl) (Calls.evalArgs_plain ?_)
  exact thn hA fun us s2 ⟨vs, H2, I2, r2, q2⟩ => hm pins s2 σ H2 x vs v us Q I2 r1 r2 q2
end
end L2
namespace L2
open PySem PySem.Spec PyProof.Rows
def MtM (X : Cx) (id : String) (r : V → List V → Hp → VK → Prop) : Prop :=
  ∀ (pins : List (Addr × Obj)) (s : Shared) (σ : St) (H : Hp) (x : V) (xs : List V) (v : Value) (us : List Value) (Q : VK), Inv X pins σ H s → RelV x v → Vals xs us → r x xs H Q →
    wpAny (model X.prog X.w) X.A (call (.builtin id) (v :: us)) (EP X pins σ Q) X.xe s
theorem Vals.one : ∀ {x : V} {us : List Value}, Vals [x] us → ∃ u, us = [u] ∧ RelV x u
  | _, _, .cons r .nil => ⟨_, rfl, r⟩
theorem Vals.two : ∀ {x y : V} {us : List Value}, Vals [x, y] us → ∃ u v, us = [u, v] ∧ RelV x u ∧ RelV y v
  | _, _, _, .cons r (.cons q .nil) => ⟨_, _, rfl, r, q⟩
theorem Vals.eraseIdx : ∀ {xs : List V} {us : List Value} (i : Nat), Vals xs us → Vals (xs.eraseIdx i) (us.eraseIdx i)
  | _, _, _, .nil => .nil
  | _, _, 0, .cons _ t => t
  | _, _, i + 1, .cons r t => .cons r (Vals.eraseIdx i t)
theorem len_erase {α : Type} : ∀ (l : List α) (i : Nat), (l.eraseIdx i).length ≤ l.length
  | [], _ => Nat.le_refl _
  | _ :: _, 0 => Nat.le_succ _
  | _ :: r, i + 1 => Nat.succ_le_succ (len_erase r i)
section
variable {X : Cx} {pins : List (Addr × Obj)} {σ : St} {H : Hp} {s : Shared} {l b : Addr} {xs ys zs : List V}
theorem Inv.lset {its its' : List Value} {n : Nat} {f : Array Value → Array Value} {t' : Nat} (I : Inv X pins σ H s) (hH : H l = some (.lst xs))
    (e : s.heap.get? l = some { cls := .type "list", data := .seq its.toArray n }) (hf : f its.toArray = its'.toArray) (hv : Vals ys its') (hz : ys.length ≤ sizeLine) :
    Inv X pins σ (upd H l (.lst ys)) { s with heap := s.heap.update l (Obj.mapSeq f), toks := t' } := by
  have q := PySem.IsL.update e f
  rw [hf] at q
  refine I.write (x := l) (e := l) (by rw [hH]; exact trivial) (.inl rfl) (fun b' u hb hu => (Heap.get?_update_other s.heap (Obj.mapSeq f) (Ne.symm hb)).trans hu) ⟨_, q⟩ ?_
  exact ⟨hz, its', _, hv, q⟩
theorem Inv.lnew {its : List Value} {t' : Nat} (I : Inv X pins σ H s) (hv : Vals ys its) (hz : ys.length ≤ sizeLine) :
    Inv X pins σ (upd H s.heap.objs.size (.lst ys)) { s with heap := s.heap.push { cls := .type "list", data := .seq its.toArray }, toks := t' } :=
  I.laid (fun _ _ q => Heap.get?_push_of_some _ q) (Nat.le_refl _) ⟨hz, its, 0, hv, Heap.get?_push_size _ rfl⟩
theorem Inv.fresh (I : Inv X pins σ H s) : H s.heap.objs.size = none := I.hok.fresh (Nat.le_refl _)
theorem Inv.lstM (I : Inv X pins σ H s) (hH : H l = some (.lst xs)) : xs.length ≤ sizeLine ∧ ∃ (its : List Value) (n : Nat), Vals xs its ∧ xs.length = its.length ∧ s.heap.get? l = some { cls := .type "list", data := .seq its.toArray n } := by
  obtain ⟨z, its, n, r, e⟩ := I.hok l _ hH
  exact ⟨z, its, n, r, r.length, e⟩
theorem notLongL {n : Nat} (h : n ≤ sizeLine) : Builtin.List.listTooLong n = false := by
  unfold Builtin.List.listTooLong
  exact decide_eq_false (by omega)
end
section
variable {X : Cx}
def rAppend : V → List V → Hp → VK → Prop := fun x vs H Q => ∃ l xs y, x = .ref l ∧ vs = [y] ∧ H l = some (.lst xs) ∧ xs.length < sizeLine ∧ Q .non (upd H l (.lst (xs ++ [y])))
theorem mt_append : MtM X "list.append" rAppend := by
  intro pins s σ H x vs v us Q I rx rv h
  obtain ⟨l, xs, y, rfl, rfl, hH, hz, q⟩ := h
  cases rx
  obtain ⟨u, rfl, ru⟩ := rv.one
  obtain ⟨z, its, n, r, hl, e⟩ := I.lstM hH
  refine call_meets F.slot_list_append ⟨_, e, rfl⟩ F.entry_list_append (F.args_list_append_2 _ _) (PySem.list_append l its.toArray n u (by rw [List.size_toArray]; omega)) ⟨e, ?_⟩
  refine ⟨.non, _, I.lset (its' := its ++ [u]) hH e (by simp) (r.append (.cons ru .nil)) ?_, rfl, q⟩
  rw [List.length_append, List.length_singleton]
  omega
def rExtend : V → List V → Hp → VK → Prop := fun x vs H Q => ∃ l b xs zs, x = .ref l ∧ vs = [.ref b] ∧ H l = some (.lst xs) ∧ H b = some (.lst zs) ∧ xs.length + zs.length ≤ sizeLine ∧ Q .non (upd H l (.lst (xs ++ zs)))
theorem mt_extend : MtM X "list.extend" rExtend := by
  intro pins s σ H x vs v us Q I rx rv h
  obtain ⟨l, b, xs, zs, rfl, rfl, hH, hB, hz, q⟩ := h
  cases rx
  obtain ⟨u, rfl, ru⟩ := rv.one
  cases ru
  obtain ⟨z, its, n, r, hl, e⟩ := I.lstM hH
  obtain ⟨z2, its2, n2, r2, hl2, e2⟩ := I.lstM hB
  have hsz : its.toArray.size + its2.toArray.size ≤ sizeLine := by rw [List.size_toArray, List.size_toArray]; omega
  have hlong : ¬ (!its.toArray.isEmpty && Builtin.List.listTooLong (its.toArray.size + its2.toArray.size)) = true := by
    rw [notLongL hsz, Bool.and_false]
    exact Bool.false_ne_true
  refine call_meets F.slot_list_extend ⟨_, e, rfl⟩ F.entry_list_extend (F.args_list_extend_2 _ _)
    (AutoSeq1.list_extend_list_list_0 l its.toArray n b its2.toArray n2 hlong (by rw [List.size_toArray]; omega) (by omega)) ⟨e, e2, ?_⟩
  refine ⟨.non, _, I.lset (its' := its ++ its2) hH e (by simp) (r.append r2) ?_, rfl, q⟩
  rw [List.length_append]
  omega
def rPop : V → List V → Hp → VK → Prop := fun x vs H Q => ∃ l xs y, x = .ref l ∧ vs = [] ∧ H l = some (.lst xs) ∧ xs[xs.length - 1]? = some y ∧ Q y (upd H l (.lst xs.dropLast))
def rPopAt : V → List V → Hp → VK → Prop := fun x vs H Q => ∃ l xs i k y, x = .ref l ∧ vs = [.int i] ∧ H l = some (.lst xs) ∧ -(2 ^ 63) ≤ i ∧ i < 2 ^ 63 ∧ seqIndex? i xs.length = some k ∧ xs[k]? = some y ∧ Q y (upd H l (.lst (xs.eraseIdx k)))
theorem mt_popAt : MtM X "list.pop" rPopAt := by
  intro pins s σ H x vs v us Q I rx rv h
  obtain ⟨l, xs, i, k, y, rfl, rfl, hH, h1, h2, hk, hy, q⟩ := h
  cases rx
  obtain ⟨u, rfl, ru⟩ := rv.one
  obtain ⟨t, rfl⟩ := ru
  obtain ⟨z, its, n, r, hl, e⟩ := I.lstM hH
  obtain ⟨w, hw, rw'⟩ := r.get hy
  refine call_meets F.slot_list_pop ⟨_, e, rfl⟩ F.entry_list_pop (F.args_list_pop_2 _ _)
    (MeetsSeq.list_pop_at l its.toArray n i t k w (fitsIndex_both h1 h2) (by rw [List.size_toArray, ← hl]; exact hk) (by rw [← Array.getElem?_toList]; exact hw) (by rw [List.size_toArray]; omega)) ⟨e, ?_⟩
  refine ⟨y, _, I.lset (its' := its.eraseIdx k) hH e ?_ (r.eraseIdx k) ?_, rw', q⟩
  · show its.toArray.eraseIdxIfInBounds k = (its.eraseIdx k).toArray
    rw [List.eraseIdxIfInBounds_toArray]
  · have := len_erase xs k
    omega
def rReverse : V → List V → Hp → VK → Prop := fun x vs H Q => ∃ l xs, x = .ref l ∧ vs = [] ∧ H l = some (.lst xs) ∧ Q .non (upd H l (.lst xs.reverse))
def rClear : V → List V → Hp → VK → Prop := fun x vs H Q => ∃ l xs, x = .ref l ∧ vs = [] ∧ H l = some (.lst xs) ∧ Q .non (upd H l (.lst []))
def rCat : R2 := fun x y H Q => ∃ l b xs zs, x = .ref l ∧ y = .ref b ∧ H l = some (.lst xs) ∧ H b = some (.lst zs) ∧ xs.length + zs.length ≤ sizeLine ∧ ∀ p, H p = none → Q (.ref p) (upd H p (.lst (xs ++ zs)))
theorem op_cat : OpR X (binaryOp .Add) rCat := by
  intro pins s σ H x y v u Q I rx ry h
  obtain ⟨l, b, xs, zs, rfl, rfl, hH, hB, hz, q⟩ := h
  cases rx
  cases ry
  obtain ⟨z, its, n, r, hl, e⟩ := I.lstM hH
  obtain ⟨z2, its2, n2, r2, hl2, e2⟩ := I.lstM hB
  refine PySem.P.add_list e e2 ?_ (by rw [List.size_toArray, List.size_toArray]; omega)
  have ea : its.toArray ++ its2.toArray = (its ++ its2).toArray := by simp
  rw [ea]
  exact ⟨.ref _, _, I.lnew (t' := s.toks) (r.append r2) (by rw [List.length_append]; omega), rfl, q _ I.fresh⟩
def rRep : R2 := fun x y H Q => ∃ l k xs, x = .ref l ∧ y = .int k ∧ H l = some (.lst xs) ∧ -(2 ^ 63) ≤ k ∧ k < 2 ^ 63 ∧ xs.length * k.toNat ≤ sizeLine ∧
  ∀ p, H p = none → Q (.ref p) (upd H p (.lst (List.replicate k.toNat xs).flatten))
end
section
variable {prog : Program} {w : World} {A : Around} {E : Value → Shared → Prop} {s : Shared}
end
section
variable {X : Cx}
end
end L2
namespace Att
open PySem PySem.W PySem.Calls PyProof.Rows
theorem ints_of_wellAll {P : Params} {h : Heap} : ∀ (ns : List Int) (vs : List Value), WellAll P h vs (ns.map WData.int) → IntsAre vs ns := by
  intro ns
  induction ns with
  | nil =>
    intro vs w
    rw [List.map_nil] at w
    cases w
    exact .nil
  | cons n ns ih =>
    intro vs w
    rw [List.map_cons] at w
    cases w with
    | cons a b =>
      cases a
      exact .cons _ _ (ih _ b)
theorem script_of {l : OpenLaw} {n : Nat} (hn : l.most = some n) {P : Params} {h : Heap} {args : List WData} {vals : List Value}
    (hpre : l.row.toRowW.claim.pre args = true) (hwl : WellAll P h vals args) :
    ∃ a vs ns, vals = [Value.ref a] ∧ args = [WData.list (ns.map WData.int)] ∧ h.get? a = some { cls := .type "list", data := .seq vs.toArray } ∧ IntsAre vs ns ∧ ns.length ≤ n := by
  have hsh : WShape.hasAll [] args [.list .int] = true := (pre_splitW hpre).1
  have hc : l.pre.holds [] { args := args } = true := (pre_splitW hpre).2
  obtain ⟨d, r, rfl, h1, h2⟩ := hasAllW_cons hsh
  obtain rfl := hasAllW_nil h2
  obtain ⟨xs, rfl, h3⟩ := hasW_list h1
  obtain ⟨ns, rfl⟩ := items_int h3
  have hlen : ns.length ≤ n := by
    unfold OpenLaw.pre at hc
    have h4 : (WTm.not (.lt (.lit (.int (n : Int))) (.len (.arg 0)))).holds [] { args := [.list (ns.map .int)] } = true := by
      have h4 := (holds_andW hc).1
      rw [hn] at h4
      exact h4
    have h5 := condW_of h4 (w_not (w_lt w_lit (w_len_list (w_arg rfl))))
    rw [List.length_map] at h5
    refine Nat.le_of_not_lt fun q => ?_
    have q' : (n : Int) < ((ns.length : Nat) : Int) := by omega
    first
      | (rw [decide_eq_true q'] at h5; exact absurd h5 (by decide))
      | (simp at h5; omega)
  cases hwl with
  | cons w1 w2 =>
    cases w2
    cases w1 with
    | list ho hall => exact ⟨_, _, ns, rfl, rfl, ho, ints_of_wellAll ns _ hall, hlen⟩
theorem post_true (l : OpenLaw) (args : List WData) : l.row.toRowW.claim.post args (.bool true) args = true :=
  postW_of (r := l.row.toRowW) (X := (true == true))
    (show WShape.has [] (.bool true) .bool = true by first | rfl | decide | simp [WShape.has, WShape.arms, WShape.armsAll])
    (show (WTm.eq .res (.lit (.bool true))).value [] { args := args, res := some (.bool true), after := args } = some (.bool (true == true)) from w_eq_bool (w_res rfl) w_lit) rfl
theorem attach_call {l : OpenLaw} {n : Nat} {q : Program} {loose : List Str} {XP : (Str → Option Value) → Heap → Prop} {YP : World → Heap → Prop} {d : DefRec}
    (hn : l.most = some n) (hdf : d.params.defaults = [])
    (call : ∀ (w : World) (s₀ s₁ : Shared) (mg mb : Str → Option Value) (fa : Addr) (o : Obj) (pm cd doc : Value) (a : Addr) (vs : List Value) (ns : List Int),
      Ground q loose [] XP w s₀ mg mb s₁.heap → YP w s₁.heap →
      s₁.heap.get? fa = some o → o.data = .func (docDef d.name d.params d.body d.scope pm cd doc) → s₁.heap.CodeRec cd d.name → mg d.name = some (.ref fa) →
      s₁.heap.get? a = some { cls := .type "list", data := .seq vs.toArray } → IntsAre vs ns → ns.length ≤ n → s₁.gens = #[] →
      codeAny (model l.prog w) callerA (.call (.ref fa) ⟨[.ref a], []⟩) (fun r s' => r = .ok (.ret (.bool true)) ∧ OldK s₁.heap s'.heap ∧ s'.os = s₁.os ∧ AllBare s'.gens) s₁) :
    WalkO q loose XP YP l.row.toRowW d [] (fun f vs => PySem.call f vs) := by
  intro w s₀ s₁ mg mb G Y fa o pm cd doc dV kV ho hd hcd hD hmg hg args vals as hpre hlay hrd hwl hlo
  obtain rfl : dV = .none := Dflts.none hD hdf
  obtain rfl : kV = .none := Dflts.noKw hD
  obtain ⟨a, vs, ns, rfl, rfl, hobj, hints, hlen⟩ := script_of hn hpre hwl
  refine enter_call (codeAny_mono (call w s₀ s₁ mg mb fa o pm cd doc a vs ns G Y ho (fd_plain hd) hcd hmg hobj hints hlen hg) fun r s' hq => ?_)
  obtain ⟨rfl, h2, h3, h4⟩ := hq
  exact ⟨.inl ⟨.bool true, .bool true, [], rfl, fun _ => rfl, .bool true, post_true l _, fun _ => ⟨List.Pairwise.nil, fun _ hm => (nomatch hm)⟩⟩, h2, h3, h4⟩
section
variable {prog : Program} {w : World} {A : Around} {E : Value → Shared → Prop} {s : Shared} {K : Frag}
def noObjs (h : Heap) : Heap := { h with objs := #[] }
def ledger (h : Heap) (L d : Addr) : List (Addr × Obj) := (List.range h.objs.size).filterMap fun a => if a = L ∨ a = d then none else (h.get? a).map fun o => (a, o)
end
end Att
namespace L2
open PySem PySem.Spec PyProof.Rows
theorem vals_ints : ∀ {vs : List Value} {ns : List Int}, IntsAre vs ns → Vals (ns.map V.int) vs
  | _, _, .nil => .nil
  | _, _, .cons n t h => .cons ⟨t, rfl⟩ (vals_ints h)
def Only (H : Hp) : Prop := ∀ b, H b = none ∨ ∃ o xs, H b = some (.frz o (.lst xs))
theorem law_call {P : Program} {w : World} {K : PySem.W.Frag} {mg mb : Str → Option Value} {CX : CXT} {k : Nat} {fa a : Addr} {fd : FuncData} {x : Str} {sp : Sp} {s₁ : Shared} {vs : List Value} {ns : List Int}
    (KX : K.In s₁.heap) (hns : s₁.heap.Ns mainGlobals mg) (hb : s₁.heap.Ns builtinsNs mb) (hbb : ∀ x : Str, x ≠ "__name__" → mb x = bootBuiltins x) (hlim : s₁.heap.NoLimit) (hg : s₁.gens = #[])
    (ha : s₁.heap.get? a = some { cls := .type "list", data := .seq vs.toArray }) (hi : IntsAre vs ns) (hl : ns.length ≤ sizeLine) (hr : Room k callerA)
    (F : ∀ base : Heap, K.In base → base.Ns mainGlobals mg → FnOk P w K mg base CX k fa fd [x] sp) (hbind : ∀ (s : Shared) (u : Value), BindsTo s fd ⟨[u], []⟩ [(x, u)])
    (hsp : ∀ H : Hp, Only H → SqL K H a (ns.map V.int) → sp [.ref a] H (fun v _ => v = .bl true) fun _ _ _ => False)
    (hCX : ∀ H e s', CX [] H s₁ (fun _ _ _ => False) e s' → False) :
    codeAny (model P w) callerA (.call (.ref fa) ⟨[.ref a], []⟩) (fun r s' => r = .ok (.ret (.bool true)) ∧ OldK s₁.heap s'.heap ∧ s'.os = s₁.os ∧ AllBare s'.gens) s₁ := by
  have rv := vals_ints hi
  have lenV := hi.length
  have core : ∀ H : Hp, Only H → SqL K H a (ns.map V.int) → HOk P w H s₁.heap → (∀ b, H b ≠ none → b = a) → (H a ≠ none → K.lookup a = none) →
      codeAny (model P w) callerA (.call (.ref fa) ⟨[.ref a], []⟩) (fun r s' => r = .ok (.ret (.bool true)) ∧ OldK s₁.heap s'.heap ∧ s'.os = s₁.os ∧ AllBare s'.gens) s₁ := by
    intro H hO hS hok hA hK
    have base_of : ∀ {b : Addr} {o : Obj}, s₁.heap.get? b = some o → H b = none → (hidT s₁.heap H).get? b = some o := fun e n => hidT_get e n
    have noA : ∀ {b : Addr} {o : Obj} {es : Array DictEntry} {ep : Nat}, s₁.heap.get? b = some o → o.data = .dict es ep → H b = none := fun {b o es ep} e d => by
      cases q : H b with
      | none => rfl
      | some u =>
        have e' : b = a := hA b (by rw [q]; simp)
        subst e'
        rw [ha] at e; cases e
        have d' : Data.seq vs.toArray _ = Data.dict es ep := d
        cases d'
    have nsK : ∀ {b : Addr} {m : Str → Option Value}, s₁.heap.Ns b m → (hidT s₁.heap H).Ns b m := fun {b m} ⟨o, es, ep, e, d, r⟩ => ⟨o, es, ep, base_of e (noA e d), d, r⟩
    have hKb : K.In (hidT s₁.heap H) := fun b o e => base_of (KX b o e) (by
      cases q : H b with
      | none => rfl
      | some u =>
        have e' : b = a := hA b (by rw [q]; simp)
        subst e'
        rw [hK (by rw [q]; simp)] at e; cases e)
    have hM : Mod K mg (hidT s₁.heap H) := ⟨hKb, nsK hns, ⟨mb, nsK hb, hbb⟩, let ⟨mc, h1, h2⟩ := hlim; ⟨mc, nsK h1, h2⟩⟩
    have e0 : Env0 P w K mg (hidT s₁.heap H) callerA [] s₁ H := ⟨rfl, hM, fun b o e => of_hidT e, Nat.le_of_eq (hidT_size _ _), trivial, fun b hb => absurd (show b ∈ ([] : List Addr) from hb) (by simp), hok, .of_eq hg⟩
    refine codeAny_mono ((F _ hKb (nsK hns)).run callerA [] s₁ H ⟨[.ref a], []⟩ [.ref a] [.ref a] _ _ hr e0 (hbind s₁ (.ref a)) (.cons rfl .nil) (hsp H hO hS)) fun r s' h => ?_
    cases r with
    | error e => exact (hCX H e s' h).elim
    | ok fl =>
      cases fl with
      | next => exact False.elim h
      | brk => exact False.elim h
      | cont => exact False.elim h
      | ret u =>
        obtain ⟨v, H', os, bare, un, hok', r', q⟩ := h
        have q' : v = .bl true := q
        subst q'
        obtain rfl : u = Value.bool true := r'
        refine ⟨rfl, OldK.of_keep fun b o e => ?_, os, bare⟩
        cases q : H b with
        | none => exact un.keep b o e q (by intro z; exact absurd (show b ∈ ([] : List Addr) from z) (by simp)) (by simp)
        | some u =>
          rcases hO b with z | ⟨ob, xs, z⟩
          · rw [q] at z; cases z
          · have z2 := un.frzs b ob _ z
            obtain ⟨e1, _⟩ := hok b _ z
            obtain ⟨e2, _⟩ := hok' b _ z2
            rw [e] at e1; cases e1
            exact e2
  cases hk : K.lookup a with
  | some o =>
    have e := KX a o hk
    rw [ha] at e
    cases e
    refine core (fun _ => none) (fun _ => .inl rfl) (.inr ⟨_, vs.toArray, _, hk, rfl, rfl, rfl, by rw [List.size_toArray, lenV]; exact hl, by simpa using rv⟩) (fun b u z => by have z' : (none : Option HO) = some u := z; cases z') (fun b z => absurd rfl z) fun z => absurd rfl z
  | none =>
    refine core (fun b => if b = a then some (.frz { cls := .type "list", data := .seq vs.toArray } (.lst (ns.map V.int))) else none) (fun b => ?_) (.inl (.inr ⟨{ cls := .type "list", data := .seq vs.toArray }, if_pos rfl⟩)) (fun b u z => ?_) (fun b z => ?_) fun _ => hk
    · by_cases hb : b = a
      · exact .inr ⟨_, _, if_pos hb⟩
      · exact .inl (if_neg hb)
    · by_cases hb : b = a
      · have z' := (if_pos hb).symm.trans z
        cases z'
        subst hb
        exact ⟨ha, by rw [List.length_map]; exact hl, vs, _, rv, ha⟩
      · have z' := (if_neg hb).symm.trans z
        cases z'
    · by_cases hb : b = a
      · exact hb
      · exact absurd (if_neg hb) z
end L2
namespace L2
open PySem PySem.Spec PyProof.Rows
abbrev KOf {K : PySem.W.Frag} {h : Heap} (_ : K.In h) : PySem.W.Frag := K
theorem walk_of {l : PySem.W.OpenLaw} {n k : Nat} {q : Program} {loose : List Str} {XP : (Str → Option Value) → Heap → Prop} {YP : World → Heap → Prop} {d : DefRec} {K : Params → PySem.W.Frag} {CX : World → CXT} {sp : World → Sp} {x : Str}
    (hn : l.most = some n) (hn2 : n ≤ sizeLine) (hdf : d.params.defaults = []) (hr : Room k callerA)
    (hY : ∀ (w : World) (h : Heap), YP w h → (K w.params).In h)
    (F : ∀ (w : World) (mg : Str → Option Value) (fa : Addr) (h : Heap), (K w.params).In h → h.Ns mainGlobals mg → mg d.name = some (.ref fa) →
      ∃ fd : FuncData, (∀ (s : Shared) (u : Value), BindsTo s fd ⟨[u], []⟩ [(x, u)]) ∧
        ∀ base : Heap, (K w.params).In base → base.Ns mainGlobals mg → FnOk l.prog w (K w.params) mg base (CX w) k fa fd [x] (sp w))
    (hsp : ∀ (w : World) (H : Hp) (a : Addr) (ns : List Int), ns.length ≤ n → Only H → SqL (K w.params) H a (ns.map V.int) → sp w [.ref a] H (fun v _ => v = .bl true) fun _ _ _ => False)
    (hCX : ∀ (w : World) (H : Hp) (s : Shared) (e : Value) (s' : Shared), CX w [] H s (fun _ _ _ => False) e s' → False) :
    PySem.W.WalkO q loose XP YP l.row.toRowW d [] (fun f vs => PySem.call f vs) := by
  refine Att.attach_call hn hdf fun w s₀ s₁ mg mb fa o pm cd doc a vs ns G Y ho hd hcd hmg hobj hints hlen hg => ?_
  have KX := hY w _ Y
  obtain ⟨fd, hb, hF⟩ := F w mg fa _ KX G.T.g hmg
  exact law_call KX G.T.g G.T.b G.T.builtins G.T.nolimit hg hobj hints (Nat.le_trans hlen hn2) hr hF hb (fun H hO hS => hsp w H a ns hlen hO hS) fun H e s' => hCX w H s₁ e s'
end L2
namespace L2
open PySem PySem.Spec PyProof.Rows
def inClass (s : Stmt) (j : Nat) : Stmt := match s with
  | .ClassDef _ _ _ body _ _ _ _ _ _ _ => body.getD j (.Pass ⟨0, 0, 0, 0⟩)
  | _ => .Pass ⟨0, 0, 0, 0⟩
def defArgs (s : Stmt) : Arguments := match s with
  | .FunctionDef _ a _ _ _ _ _ _ _ _ => a
  | _ => { posonlyargs := [], args := [], vararg := none, kwonlyargs := [], kw_defaults := [], kwarg := none, defaults := [] }
def defBody (s : Stmt) : List Stmt := match s with
  | .FunctionDef _ _ b _ _ _ _ _ _ _ => b
  | _ => []
def defScope (s : Stmt) : Scope := match s with
  | .FunctionDef _ _ _ _ _ _ sc _ _ _ => sc
  | _ => { kind := .function, names := [], isGenerator := false, isCoroutine := false }
abbrev CX0 : CXT := fun _ _ _ _ _ _ => False
abbrev E0 : XK := fun _ _ _ => False
theorem pass0 {X : Cx} : Passes CX0 X E0 := fun _ _ _ _ _ _ _ h => h.elim
structure Fun (K : PySem.W.Frag) (x qual : Str) (st : Stmt) (f : Addr) (fd : FuncData) : Prop where
  ex : ∃ (oc : Value) (od : Option Addr) (kV doc pm : Value) (an : Option Addr) (cdv ct : Value) (osl : Array (Option Value)),
    fd = PySem.W.fnOf x qual (defArgs st) (defBody st) (defScope st) .none kV doc pm an cdv ct ∧ K.lookup f = some ⟨oc, od, .func fd, osl⟩ ∧ PySem.W.codeIn K cdv qual = true
  kp : PySem.W.keepIn K (.ref f) = true
section
variable {P : Program} {w : World} {K : PySem.W.Frag} {mg : Str → Option Value} {base : Heap}
theorem Fun.ok {x qual : Str} {st : Stmt} {f : Addr} {fd : FuncData} {N ps : List Str} {k : Nat} {sp : Sp} (F : Fun K x qual st f fd) (S : FnScope N ps (defScope st)) (len : ∀ vs H Q E, sp vs H Q E → vs.length = ps.length)
    (hbody : ∀ (cdv : Value) (A : Around) (outer : List Env) (s : Shared) (H : Hp) (vs : List V) (Q : VK) (E : XK), Room k (A.deeper (envOfC qual (defScope st) s.heap.objs.size f cdv)) → sp vs H Q E →
      ∃ t, PSs (cxOf CX0 P w K mg base N qual (defScope st) f cdv A outer s H E).nox (defBody st) t ∧ t { nx := fun _ H' => Q .non H', rt := Q } (start N vs) H) : FnOk P w K mg base CX0 (k + 1) f fd ps sp := by
  obtain ⟨oc, od, kV, doc, pm, an, cdv, ct, osl, rfl, lk, hcd⟩ := F.ex
  refine fn_of lk hcd S len fun A outer s H vs Q E hr hsp => ?_
  obtain ⟨t, h, q⟩ := hbody cdv A outer s H vs Q E hr hsp
  exact ⟨t, h.nox, q⟩
theorem Fun.binds {x qual : Str} {st : Stmt} {f : Addr} {fd : FuncData} {ps : List Str} (F : Fun K x qual st f fd)
    (h : ∀ (kV doc pm : Value) (an : Option Addr) (cdv ct : Value) (us : List Value), us.length = ps.length → bindArgs (PySem.W.fnOf x qual (defArgs st) (defBody st) (defScope st) .none kV doc pm an cdv ct) ⟨us, []⟩ = pure (ps.zip us)) : Binds K fd ps [] := by
  obtain ⟨oc, od, kV, doc, pm, an, cdv, ct, osl, rfl, lk, hcd⟩ := F.ex
  exact .all (h kV doc pm an cdv ct)
theorem fun_mk {x qual : Str} {st : Stmt} {f : Addr} {oc : Value} {od an : Option Addr} {osl : Array (Option Value)} {kV doc pm cdv ct : Value} (l : K.lookup f = some ⟨oc, od, .func (PySem.W.fnOf x qual (defArgs st) (defBody st) (defScope st) .none kV doc pm an cdv ct), osl⟩)
    (c : PySem.W.codeIn K cdv qual = true) (k : PySem.W.keepIn K (.ref f) = true) : Fun K x qual st f (PySem.W.fnOf x qual (defArgs st) (defBody st) (defScope st) .none kV doc pm an cdv ct) := ⟨⟨oc, od, kV, doc, pm, an, cdv, ct, osl, rfl, l, c⟩, k⟩
end
theorem small1000 {n : Nat} (h : n ≤ 1000) : n < sizeLine := Nat.lt_of_le_of_lt h (by decide)
section
variable {X : Cx}
end
theorem iteF {A B : Prop} (h : B) : if false = true then A else B := by
  rw [if_neg Bool.false_ne_true]
  exact h
theorem ite2 {c A B : Prop} [Decidable c] (h1 : c → A) (h2 : ¬ c → B) : if c then A else B := by
  by_cases h : c
  · rw [if_pos h]
    exact h1 h
  · rw [if_neg h]
    exact h2 h
theorem iteNS {c A B : Prop} [Decidable c] (hc : c) (h : B) : if (!decide c) = true then A else B := by
  rw [decide_eq_true hc]
  exact iteF h
def Same (H H' : Hp) : Prop := ∀ b o, H b = some o → H' b = some o
theorem Same.refl (H : Hp) : Same H H := fun _ _ h => h
theorem Same.trans {H H1 H2 : Hp} (a : Same H H1) (b : Same H1 H2) : Same H H2 := fun c o h => b c o (a c o h)
theorem Same.seq {K : PySem.W.Frag} {H H' : Hp} {a : Addr} {xs : List V} (e : Same H H') (h : SqL K H a xs) : SqL K H' a xs := by
  rcases h with (h | ⟨o, h⟩) | h
  · exact .inl (.inl (e _ _ h))
  · exact .inl (.inr ⟨o, e _ _ h⟩)
  · exact .inr h
end L2
namespace L2
open PySem PySem.Spec PyProof.Rows
theorem bt_len : bootBuiltins "len" = some (.builtin "len") := by decide +kernel
theorem bt_isinstance : bootBuiltins "isinstance" = some (.builtin "isinstance") := by decide +kernel
theorem bt_list : bootBuiltins "list" = some (.type "list") := by decide +kernel
theorem bt_int : bootBuiltins "int" = some (.type "int") := by decide +kernel
theorem bt_bool : bootBuiltins "bool" = some (.type "bool") := by decide +kernel
theorem bt_tuple : bootBuiltins "tuple" = some (.type "tuple") := by decide +kernel
theorem bt_ValueError : bootBuiltins "ValueError" = some (.type "ValueError") := by decide +kernel
theorem bits_leI {i : Int} {n : Nat} (h : i.natAbs < 2 ^ n) : Builtin.Int.intBits i ≤ n := by
  unfold Builtin.Int.intBits
  split
  · exact Nat.zero_le _
  · rename_i h0
    have h1 : i.natAbs ≠ 0 := by
      intro q
      apply h0
      have : i = 0 := by omega
      subst this; rfl
    exact (Nat.log2_lt h1).mpr h
def Big : Nat := 2 ^ 4000
def IsBig (i : Int) : Prop := i.natAbs < 2 ^ 4000
section
variable {X : Cx}
def rN (C : Nat → Nat → Prop) (g : Nat → Nat → Nat) : R2 := fun x y H Q => ∃ a b : Nat, x = .int a ∧ y = .int b ∧ C a b ∧ Q (.int ((g a b : Nat) : Int)) H
def CShl (i j : Int) : Prop := 0 ≤ j ∧ j ≤ 4000 ∧ i.natAbs < 2 ^ 4000
def CMulB (i j : Int) : Prop := i.natAbs < 2 ^ 4000 ∧ j.natAbs < 2 ^ 4000
theorem CMulB.ok {i j : Int} (h : CMulB i j) : IntMulOk i j := by
  unfold IntMulOk
  have h1 := bits_leI h.1
  have h2 := bits_leI h.2
  have h3 : Builtin.Int.intTooBig ((Builtin.Int.intBits i : Int) + (Builtin.Int.intBits j : Int)) = false := by
    unfold Builtin.Int.intTooBig
    apply decide_eq_false
    have : (8000 : Int) ≤ bitsLine := by decide
    omega
  simp only [h3, Bool.and_false]
  decide
theorem op_mulB : OpR X (binaryOp .Mult) (rI CMulB fun i j => .int (i * j)) := opI fun _ _ _ _ _ _ _ hc q => mul_int q hc.ok
def clsV : V → Option Value
  | .ref a => some (.ref a)
  | .ty n => some (.type n)
  | _ => none
theorem clsV_is {c : V} {cv u : Value} (e : clsV c = some cv) (r : RelV c u) : u = cv := by
  cases c <;> simp only [clsV] at e <;> first | (cases e; exact r) | cases e
theorem call_isi : CallR X (.builtin "isinstance") (fun xs H Q => ∃ x c cv t b, xs = [x, c] ∧ clsV c = some cv ∧ TyOf X.K H x t ∧ PySem.W.kitOne X.K t cv = some b ∧ Q (.bl b) H) := by
  intro pins s σ H xs us Q I rv h
  obtain ⟨x, c, cv, t, b, rfl, ec, ty, e, q⟩ := h
  obtain ⟨u, v, rfl, rx, rc⟩ := rv.two
  cases clsV_is ec rc
  exact isinst_ok I rx ty e fun tk => ⟨.bl b, H, I.tok _, rfl, q⟩
end
section
variable {K : PySem.W.Frag}
theorem isi_int_int : PySem.W.kitOne K (.type "int") (.type "int") = some true := by rfl
theorem isi_int_bool : PySem.W.kitOne K (.type "int") (.type "bool") = some false := by first | rfl | decide +kernel
theorem isi_bool_bool : PySem.W.kitOne K (.type "bool") (.type "bool") = some true := by rfl
theorem isi_bool_int : PySem.W.kitOne K (.type "bool") (.type "int") = some true := by first | rfl | decide +kernel
theorem isi_list_list : PySem.W.kitOne K (.type "list") (.type "list") = some true := by rfl
theorem isi_tuple_tuple : PySem.W.kitOne K (.type "tuple") (.type "tuple") = some true := by rfl
end
section
variable {X : Cx} {e : Expr} {te : TE} {st : Stmt} {ts : TS}
def tCut (t : TE) : TE := fun σ H Q => ∃ P : VK, t σ H P ∧ ∀ x H', P x H' → Q x H'
theorem pe_cut (h : PE X e te) : PE X e (tCut te) := by
  intro pins s σ H Q I hw
  obtain ⟨P, h1, h2⟩ := hw
  exact thn (h pins s σ H P I h1) fun v s1 ⟨x, H1, I1, r, q⟩ => ⟨x, H1, I1, r, h2 x H1 q⟩
def tCutS (t : TS) : TS := fun D σ H => ∃ N : St → Hp → Prop, t { D with nx := N } σ H ∧ ∀ σ' H', N σ' H' → D.nx σ' H'
end
theorem dec_true {p : Prop} [Decidable p] (h : decide p = true) : p := of_decide_eq_true h
theorem dec_false {p : Prop} [Decidable p] (h : ¬ decide p = true) : ¬ p := fun q => h (decide_eq_true q)
theorem big_of {z : Int} {n : Nat} (h : z.natAbs < 2 ^ n) (hn : n ≤ 4000 := by decide) : z.natAbs < 2 ^ 4000 := Nat.lt_of_lt_of_le h (Nat.pow_le_pow_right (by decide) hn)
theorem big64 {z : Int} (h0 : -18446744073709551616 < z) (h1 : z < 18446744073709551616) : z.natAbs < 2 ^ 4000 := big_of (n := 64) (by omega)
theorem two_pow_pos (a : Nat) : (0 : Int) < 2 ^ a := by
  have := Nat.two_pow_pos a
  exact_mod_cast this
theorem at_mod {ns : List Int} {k : Int} (h : 0 < ns.length) : ∃ v : Int, atI (ns.map V.int) (k % (((ns.map V.int).length : Nat) : Int)) = some (.int v) := by
  rw [List.length_map]
  have h0 : 0 ≤ k % ((ns.length : Nat) : Int) := Int.emod_nonneg _ (by omega)
  have h1 : k % ((ns.length : Nat) : Int) < ((ns.length : Nat) : Int) := Int.emod_lt_of_pos _ (by omega)
  generalize k % ((ns.length : Nat) : Int) = j at h0 h1
  have hk : j.toNat < ns.length := by omega
  refine ⟨ns[j.toNat], ?_⟩
  have q : atI (ns.map V.int) ((j.toNat : Nat) : Int) = some (.int ns[j.toNat]) := atI_nat (by rw [List.getElem?_map, List.getElem?_eq_getElem hk] <;> rfl)
  have e : ((j.toNat : Nat) : Int) = j := by omega
  rw [e] at q
  exact q
def spLaw (K : PySem.W.Frag) : Sp := fun vs H Q _ => ∃ (a : Addr) (ns : List Int), vs = [.ref a] ∧ SqL K H a (ns.map V.int) ∧ ns.length ≤ 63 ∧ ∀ H', Q (.bl true) H'
def spDraw (K : PySem.W.Frag) : Sp := fun vs H Q _ => ∃ (a : Addr) (ns : List Int) (k m : Int), vs = [.ref a, .int k, .int m] ∧ SqL K H a (ns.map V.int) ∧ ns.length ≤ 63 ∧ 0 ≤ k ∧ k ≤ 100000 ∧ 0 < m ∧ ∀ d : Int, 0 ≤ d → d < m → Q (.int d) H
end L2
namespace L2
open PySem PySem.Spec PyProof.Rows
theorem dict_mapF (g : Array Value → Array Value) (o : Obj) : (Obj.mapFields g o).dict = o.dict := by
  obtain ⟨c, d, x, sl⟩ := o
  cases x <;> rfl
def TrD (h B : Heap) (e : Addr) (k a0 : Value) (od : Option Addr) (fl : Value) : Prop :=
  ∃ oe vs T oT ts, (h.get? e = some oe ∧ oe.cls = k ∧ oe.dict = od ∧ oe.data = .fields vs) ∧ (vs[0]? = some a0 ∧ vs[1]? = some (.ref T)) ∧ (B.get? T = none ∧ T ≠ e) ∧ h.get? T = some oT ∧ oT.data = .fields ts ∧ ts[3]? = some fl
def FlyD (B : Heap) (l : List Env) (e : Addr) (k a0 : Value) (od : Option Addr) (h : Heap) : Prop := (B.StaysIn h ∧ B.get? e = none) ∧ h.FunFrames B l ∧ TrD h B e k a0 od .none
def HeldD (B : Heap) (l : List Env) (e : Addr) (k a0 : Value) (od : Option Addr) (L : Addr) (h : Heap) : Prop := (B.StaysIn h ∧ B.get? e = none) ∧ h.FunFrames B l ∧ TrD h B e k a0 od (rawInt L)
theorem FlyD.obj {B h : Heap} {l : List Env} {e : Addr} {k a0 : Value} {od : Option Addr} (x : FlyD B l e k a0 od h) : ∃ oe vs, h.get? e = some oe ∧ oe.cls = k ∧ oe.dict = od ∧ oe.data = .fields vs := by
  obtain ⟨_, _, oe, vs, _, _, _, ⟨q1, q2, q3, q4⟩, _⟩ := x
  exact ⟨oe, vs, q1, q2, q3, q4⟩
theorem FlyD.tail {B h : Heap} {env : Env} {l : List Env} {e : Addr} {k a0 : Value} {od : Option Addr} (x : FlyD B (env :: l) e k a0 od h) : FlyD B l e k a0 od h :=
  let ⟨a, ⟨_, _, b⟩, c⟩ := x; ⟨a, b, c⟩
section
variable {M : Model} {A : Around} {E : Value → Shared → Prop} {s : Shared} {B : Heap} {env : Env} {outer l : List Env} {L e : Addr} {k a0 : Value} {od : Option Addr}
theorem entryD {oe : Obj} {vs : Array Value} {hd0 : Value} {nxt : Bool} {Q : Unit → Shared → Prop} (fr : A.frames = some (env :: outer)) (ff : s.heap.FunFrames B (env :: outer)) (fL : env.frame = some L) (st : B.StaysIn s.heap ∧ B.get? e = none)
    (at_ : s.heap.get? e = some oe) (dat : oe.data = .fields vs) (sz : 1 < vs.size) (arg : vs[0]? = some a0)
    (next : ∀ h', HeldD B (env :: outer) e oe.cls a0 oe.dict L h' → s.heap.UpToSlots h' → Q () { s with heap := h' }) :
    wpAny M A (do let a ← frameOf env; let pl ← entryPlaceOf L nxt; let b ← EntryCells.newEntry hd0 a .none (rawInt L) .none pl; setField (.ref e) 1 b) Q E s := by
  have eF : e ∉ frs (env :: outer) := fun z => by
    obtain ⟨_, o, q, n⟩ := ff.mem z
    cases at_.symm.trans q
    exact n vs dat
  refine wpAny_bind (wpAny_frameOf_fun fr ff fL fun h1 so => wpAny_bind (wpAny_entryPlaceOf fun pl isp => ?_))
  unfold EntryCells.newEntry newFields
  refine wpAny_bind (wpAny_newObj_type ?_ (isp.sizeOk5 _ _ _ _ _))
  generalize htb : ([hd0, Value.ref L, Value.none, rawInt L, Value.none] ++ (if pl.isEmpty then List.replicate 6 Value.none else pl)).toArray = tb
  have tb3 : tb[3]? = some (rawInt L) := by
    subst htb
    rcases isp with rfl | ⟨_, _, _, _, _, _, _, rfl⟩ <;> simp
  clear htb isp
  have e1 : h1.get? e = some oe := (so.2.1 e eF).trans at_
  have B1 : B.StaysIn h1 := fun b o q => (so.2.1 b fun z => by have := (ff.mem z).1; rw [q] at this; cases this).trans (st.1 b o q)
  have tE : h1.objs.size ≠ e := Nat.ne_of_gt (Heap.lt_size e1)
  have e2 := Heap.get?_push_of_some (h := h1) { cls := .type "traceback", dict := none, data := .fields tb } e1
  refine wpAny_setField e2 dat sz (next _ ?_ ?_)
  all_goals
    have keep : ∀ b o, b ≠ e → h1.get? b = some o → ((h1.push { cls := .type "traceback", dict := none, data := .fields tb }).update e (Obj.mapFields (·.setIfInBounds 1 (Value.ref h1.objs.size)))).get? b = some o := fun b o n q => by
      rw [Heap.get?_update_other _ _ (Ne.symm n)]
      exact Heap.get?_push_of_some _ q
    have apart : ∀ b o, s.heap.get? b = some o → (∀ ws, o.data ≠ .fields ws) → b ≠ e := fun b o q n z => by
      subst z
      cases at_.symm.trans q
      exact n vs dat
  · have d3 := Obj.data_mapFields dat (·.setIfInBounds 1 (Value.ref h1.objs.size))
    have e3 := Heap.get?_update_self (Obj.mapFields (·.setIfInBounds 1 (Value.ref h1.objs.size))) e2 (Obj.isFreed_of_fields d3)
    have t3 := (Heap.get?_update_other (h1.push { cls := .type "traceback", dict := none, data := .fields tb }) (Obj.mapFields (·.setIfInBounds 1 (Value.ref h1.objs.size))) (Ne.symm tE)).trans (Heap.get?_push_size h1 rfl)
    refine ⟨⟨fun b o q => keep b o (fun z => by rw [z, st.2] at q; cases q) (B1 b o q), st.2⟩, ff.of_keeps fun b o q n => ?_, _, _, h1.objs.size, _, _, ⟨e3, Obj.cls_mapFields _ _, dict_mapF _ _, d3⟩, ⟨?_, by simp [sz]⟩, ⟨B1.fresh, tE⟩, t3, rfl, tb3⟩
    · obtain ⟨sl, q1⟩ := so.2.2 b o q
      exact ⟨_, keep b _ (apart b o q n) q1, rfl⟩
    · rw [Array.getElem?_setIfInBounds_ne (by decide)]
      exact arg
  · intro b o q n
    obtain ⟨sl, q1⟩ := so.2.2 b o q
    exact ⟨sl, keep b _ (apart b o q n) q1⟩
theorem landAnyD {fl : Value} {Q : Unit → Shared → Prop} (st : B.StaysIn s.heap ∧ B.get? e = none) (ff : s.heap.FunFrames B l) (tr : TrD s.heap B e k a0 od fl)
    (next : ∀ h', FlyD B l e k a0 od h' → s.heap.UpToSlots h' → Q () { s with heap := h' }) : wpAny M A (setFlight (.ref e) none) Q E s := by
  obtain ⟨oe, vs, T, oT, ts, ⟨q1, q2, q3, q4⟩, ⟨q5, q6⟩, ⟨q7, q8⟩, q9, q10, q11⟩ := tr
  have sz : 3 < ts.size := (Array.getElem?_eq_some_iff.mp q11).1
  have off : ∀ b, b ≠ T → (s.heap.update T (Obj.mapFields (·.setIfInBounds 3 ((none : Option Addr).elim Value.none fun f => rawInt f)))).get? b = s.heap.get? b := fun b n => Heap.get?_update_other _ _ (Ne.symm n)
  have apart : ∀ b o, s.heap.get? b = some o → (∀ ws, o.data ≠ .fields ws) → b ≠ T := fun b o q n z => by
    subst z
    cases q9.symm.trans q
    exact n ts q10
  unfold setFlight
  refine wpAny_bind (wpAny_field q1 q4 q6 ?_)
  rw [if_pos (show (Value.ref T != Value.none) = true by simp)]
  refine wpAny_setField q9 q10 sz (next _ ⟨⟨fun b o q => (off b fun z => by rw [z, q7] at q; cases q).trans (st.1 b o q), st.2⟩, ff.of_keeps fun b o q n => ⟨o, (off b (apart b o q n)).trans q, rfl⟩, ?_⟩ fun b o q n => ⟨o.slots, (off b (apart b o q n)).trans q⟩)
  exact ⟨oe, vs, T, _, _, ⟨(off e (Ne.symm q8)).trans q1, q2, q3, q4⟩, ⟨q5, q6⟩, ⟨q7, q8⟩, Heap.get?_update_self _ q9 (Obj.isFreed_of_fields (Obj.data_mapFields q10 _)), Obj.data_mapFields q10 _, by simp [sz]⟩
theorem landD {Q : Unit → Shared → Prop} (x : HeldD B l e k a0 od L s.heap) (next : ∀ h', FlyD B l e k a0 od h' → s.heap.UpToSlots h' → Q () { s with heap := h' }) : wpAny M A (setFlight (.ref e) none) Q E s :=
  landAnyD x.1 x.2.1 x.2.2 next
theorem landAgainD {Q : Unit → Shared → Prop} (x : FlyD B l e k a0 od s.heap) (next : ∀ h', FlyD B l e k a0 od h' → s.heap.UpToSlots h' → Q () { s with heap := h' }) : wpAny M A (setFlight (.ref e) none) Q E s :=
  landAnyD x.1 x.2.1 x.2.2 next
theorem lookOnD {Q : Unit → Shared → Prop} (fr : A.frames = some (env :: outer)) (fL : env.frame = some L) (x : FlyD B (env :: outer) e k a0 od s.heap)
    (next : ∀ h', HeldD B (env :: outer) e k a0 od L h' → s.heap.UpToSlots h' → Q () { s with heap := h' }) : wpAny M A (noteFrame (.ref e) env) Q E s := by
  obtain ⟨st, ff, oe, vs, T, oT, ts, ⟨q1, q2, q3, q4⟩, ⟨q5, q6⟩, ⟨q7, q8⟩, q9, q10, q11⟩ := x
  subst q2 q3
  have off : ∀ b, b ≠ T → (s.heap.update T (Obj.mapFields (·.setIfInBounds 3 Value.none))).get? b = s.heap.get? b := fun b n => Heap.get?_update_other _ _ (Ne.symm n)
  have apart : ∀ b o, s.heap.get? b = some o → (∀ ws, o.data ≠ .fields ws) → b ≠ T := fun b o q n z => by
    subst z
    cases q9.symm.trans q
    exact n ts q10
  unfold noteFrame
  simp only [fL]
  refine wpAny_bind (wpAny_field q1 q4 q6 ?_)
  rw [if_pos (show (Value.ref T != Value.none) = true by simp)]
  refine wpAny_bind (wpAny_field q9 q10 q11 ?_)
  rw [if_neg (show ¬ ((Value.none == rawInt L) = true) by simp [rawInt])]
  refine wpAny_bind (wpAny_setField q9 q10 (Array.getElem?_eq_some_iff.mp q11).1 ?_)
  refine entryD (B := B) fr (ff.of_keeps fun b o q n => ⟨o, (off b (apart b o q n)).trans q, rfl⟩) fL ⟨fun b o q => (off b fun z => by rw [z, q7] at q; cases q).trans (st.1 b o q), st.2⟩ ((off e (Ne.symm q8)).trans q1) q4 (Array.getElem?_eq_some_iff.mp q6).1 q5 fun h' x1 x2 => ?_
  exact next h' x1 fun b o q n => x2 b o ((off b (apart b o q n)).trans q) n
theorem leaveFirstD {oe : Obj} {vs : Array Value} {Q : Unit → Shared → Prop} (fr : A.frames = some (env :: outer)) (fL : env.frame = some L) (st : B.StaysIn s.heap ∧ B.get? e = none) (ff : s.heap.FunFrames B (env :: outer))
    (at_ : s.heap.get? e = some oe) (dat : oe.data = .fields vs) (arg : vs[0]? = some a0) (bare : vs[1]? = some .none) (next : ∀ h', FlyD B outer e oe.cls a0 oe.dict h' → s.heap.UpToSlots h' → Q () { s with heap := h' }) :
    wpAny M A (leaving env (.ref e)) Q E s := by
  unfold leaving noteFrame
  simp only [fL]
  refine wpAny_bind (wpAny_bind (wpAny_field at_ dat bare ?_))
  rw [if_neg (by decide)]
  refine entryD (B := B) fr ff fL st at_ dat (Array.getElem?_eq_some_iff.mp bare).1 arg fun h1 x1 x2 => ?_
  exact landD x1 fun h2 x3 x4 => next h2 x3.tail (x2.trans x4)
theorem leaveOnD {Q : Unit → Shared → Prop} (fr : A.frames = some (env :: outer)) (fL : env.frame = some L) (x : FlyD B (env :: outer) e k a0 od s.heap)
    (next : ∀ h', FlyD B outer e k a0 od h' → s.heap.UpToSlots h' → Q () { s with heap := h' }) : wpAny M A (leaving env (.ref e)) Q E s := by
  unfold leaving
  exact wpAny_bind (lookOnD fr fL x fun h1 x1 x2 => landD x1 fun h2 x3 x4 => next h2 x3.tail (x2.trans x4))
end
end L2
namespace L2
open PySem PySem.Spec PyProof.Rows
theorem excObj {K : PySem.W.Frag} {h : Heap} {C : Addr} {bmB : List Value} {newId : String} (kin : K.In h) (hq : PySem.W.excIn K C bmB newId = true) :
    ∃ bm N nm qn bs hdct sn sub ab col dd k0 k1 k2 k3 k5 mN, h.get? C = some (excClassObj nm qn C N bs bm hdct sn sub ab col dd k0 k1 k2 k3 k5 newId) ∧ h.Ns N mN ∧ mN "__init__" = none ∧ OwnTail h bmB bm := by
  unfold PySem.W.excIn at hq
  split at hq
  · rename_i dd cdt slots look
    split at hq
    · rename_i C1 bm j0 j1 j2 j3 nid j5 em es
      simp only [Bool.and_eq_true, beq_iff_eq, Bool.not_eq_true'] at hq
      obtain ⟨⟨⟨⟨⟨e1, e2⟩, e3⟩, e4⟩, e5⟩, e6⟩ := hq
      subst e1 e2
      obtain ⟨c1, c2, c3, c4, c5, c6, c7, c8, c9, c10, c11⟩ := cdt
      dsimp only at em e3 e5 e6
      subst em e3
      have esl : slots = #[j0, j1, j2, j3, some (.builtin nid), j5] := by
        cases slots with
        | mk l =>
          have : l = _ := es
          rw [this]
      subst esl
      exact ⟨bm, c4, c1, c5, c2, c6, c7, c8, c9, c10, dd, j0, j1, j2, j3, j5, _, kin _ _ look, .of_isNs (PySem.W.isNs_of_in kin e5), PySem.W.nsMap_none_of_in kin e5 e6, PySem.W.tail_of_in kin e4⟩
    · cases hq
  · cases hq
theorem ObjOk.there {P : Program} {w : World} {H : Hp} {h : Heap} {a : Addr} {o : HO} (x : ObjOk P w H h a o) : ∃ ob, h.get? a = some ob := by
  cases o with
  | lst xs => obtain ⟨_, _, _, _, e⟩ := x; exact ⟨_, e⟩
  | tup xs => obtain ⟨_, _, _, ob, e, _⟩ := x; exact ⟨_, e⟩
  | dK kvs => obtain ⟨_, _, _, _, o, _, _, e, _⟩ := x; exact ⟨_, e⟩
  | dT kvs => obtain ⟨_, _, _, _, o, _, _, e, _⟩ := x; exact ⟨_, e⟩
  | set S n => obtain ⟨o, _, _, _, e, _⟩ := x; exact ⟨_, e⟩
  | ins C dx fs => obtain ⟨_, _, _, e, _⟩ := x; exact ⟨_, e⟩
  | own y => exact x
  | xd fs => obtain ⟨_, ⟨_, _, _, e, _⟩, _⟩ := x; exact ⟨_, e⟩
  | rng lo hi => obtain ⟨_, _, _, e⟩ := x; exact ⟨_, e⟩
  | frz ob u => obtain ⟨e, _⟩ := x; exact ⟨_, e⟩
  | tbl ps => exact ⟨_, (show h.get? a = some _ from x)⟩
  | met f y => exact ⟨_, (show h.get? a = some _ from x)⟩
  | ext φ => obtain ⟨_, e, _⟩ := x; exact e
structure Fly (P : Program) (w : World) (outer : List Env) (H H' : Hp) (s s' : Shared) (a t : Addr) (cls : Value) (od : Option Addr) (B : Heap) : Prop where
  os : s'.os = s.os
  bare : AllBare s'.gens
  un : Un (frs outer) [] H H' s.heap s'.heap
  hok : HOk P w H' s'.heap
  new : H' a = none
  fly : FlyD B outer a cls (.ref t) od s'.heap
  old : ∀ b o, s.heap.get? b = some o → H b = none → b ∉ frs outer → B.get? b = some o
  trk : ∀ b u, H' b = some u → ∃ o, s'.heap.get? b = some o ∧ B.get? b = some o
  all : ∀ b o, s.heap.get? b = some o → b ∉ frs outer → ∃ o', B.get? b = some o'
def CXR (P : Program) (w : World) : CXT := fun outer H s E e s' => ∃ (a t : Addr) (cls : Value) (od : Option Addr) (H' : Hp) (B : Heap), e = .ref a ∧ Fly P w outer H H' s s' a t cls od B ∧ E cls od H'
theorem passR0 {P : Program} {w : World} {X : Cx} : Passes (CXR P w) X E0 := fun _ _ _ _ _ _ _ h => by
  obtain ⟨_, _, _, _, _, _, _, _, q⟩ := h
  exact q.elim
theorem HOk.fromB {P : Program} {w : World} {H : Hp} {h h' B : Heap} (ok : HOk P w H h) (trk : ∀ b u, H b = some u → ∃ o, h.get? b = some o ∧ B.get? b = some o) (st : B.StaysIn h') : HOk P w H h' := fun a u q =>
  (ok a u q).stay (fun b o hb e => by
    have : ∃ v, H b = some v := by
      rcases hb with rfl | hb
      · exact ⟨u, q⟩
      · exact ⟨_, hb⟩
    obtain ⟨v, hv⟩ := this
    obtain ⟨o', e1, e2⟩ := trk b v hv
    rw [e] at e1; cases e1
    exact st b o e2) (fun _ z => z) fun _ _ z => z
section
variable {P : Program} {w : World} {K : PySem.W.Frag} {mg : Str → Option Value} {base : Heap} {N : List Str} {qual : Str} {scope : Scope} {f : Addr} {cd : Value} {A : Around} {outer : List Env} {s : Shared} {H : Hp} {E : XK}
theorem notFrame {pins : List (Addr × Obj)} {σ : St} {H1 : Hp} {s1 : Shared} {CX : CXT} (I : Inv (cxOf CX P w K mg base N qual scope f cd A outer s H E) pins σ H1 s1) {b : Addr} {o : Obj} (e : s.heap.get? b = some o) (n : b ∉ frs outer) :
    b ∉ frs (cxOf CX P w K mg base N qual scope f cd A outer s H E).stack := fun hb => by
  have hb' := I.stkSub b hb
  rcases List.mem_cons.mp hb' with z | z
  · have lt := Heap.lt_size e
    have z' : b = s.heap.objs.size := z
    rw [z'] at lt
    exact Nat.lt_irrefl _ lt
  · exact n z
theorem raise_leavesD {pins : List (Addr × Obj)} {σ : St} {H1 : Hp} {s1 : Shared} {e t : Addr} {oe : Obj} {vs : Array Value} (I : Inv (cxOf (CXR P w) P w K mg base N qual scope f cd A outer s H E) pins σ H1 s1)
    (he : s1.heap.get? e = some oe) (hd : oe.data = .fields vs) (h0 : vs[0]? = some (.ref t)) (h1 : vs[1]? = some .none) (new : s.heap.get? e = none) (free : H1 e = none) (hE : E oe.cls oe.dict H1) :
    (cxOf (CXR P w) P w K mg base N qual scope f cd A outer s H E).xe (.ref e) s1 := by
  have fr := I.ok.frames
  have ff := I.stack
  generalize hst : (cxOf (CXR P w) P w K mg base N qual scope f cd A outer s H E).stack = stk at fr ff
  have hst' : stk = (cxOf (CXR P w) P w K mg base N qual scope f cd A outer s H E).env :: outer := hst.symm
  have nfr : e ∉ frs stk := fun z => by
    obtain ⟨_, o, q, n⟩ := Heap.FunFrames.mem ff z
    cases he.symm.trans q
    exact n vs hd
  have hin : ∀ env ∈ stk, ∀ a, env.frame = some a → a ∈ e :: frs stk := fun env h a ha => List.mem_cons_of_mem _ (List.mem_filterMap.mpr ⟨env, h, ha⟩)
  have mk : ∀ b o, s1.heap.get? b = some o → b ∉ frs stk → b ≠ e → (PySem.W.hideAll s1.heap (e :: frs stk)).get? b = some o := fun b o q n z => PySem.W.hideAll_get _ q fun m => by
    rcases List.mem_cons.mp m with m | m
    · exact z m
    · exact n m
  have nf0 : ∀ b o, s.heap.get? b = some o → b ∉ frs outer → b ∉ frs stk := fun b o q n => by rw [← hst]; exact notFrame I q n
  have ne0 : ∀ b o, s.heap.get? b = some o → b ≠ e := fun b o q z => by rw [z, new] at q; cases q
  refine leaveFirstD (B := PySem.W.hideAll s1.heap (e :: frs stk)) (show _ = some ((cxOf (CXR P w) P w K mg base N qual scope f cd A outer s H E).stack) from hst ▸ fr) rfl ⟨fun b o q => PySem.W.of_hideAll _ q, PySem.W.hideAll_none _ (List.mem_cons_self ..)⟩ (show Heap.FunFrames _ _ (cxOf (CXR P w) P w K mg base N qual scope f cd A outer s H E).stack from by rw [hst]; exact PySem.W.funFrames_hide ff hin) he hd h0 h1 fun h2 x1 x4 => ?_
  have old : ∀ b o, s.heap.get? b = some o → H b = none → b ∉ frs outer → (PySem.W.hideAll s1.heap (e :: frs stk)).get? b = some o := fun b o q n nf =>
    mk b o (I.base.keep b o q n nf (fun z => by cases z)) (nf0 b o q nf) (ne0 b o q)
  have trk0 : ∀ b u, H1 b = some u → ∃ o, s1.heap.get? b = some o ∧ (PySem.W.hideAll s1.heap (e :: frs stk)).get? b = some o := fun b u q => by
    obtain ⟨o, eo⟩ := (I.hok b u q).there
    refine ⟨o, eo, mk b o eo (fun z => ?_) fun z => by rw [z, free] at q; cases q⟩
    rw [I.stkFree b (by rw [hst]; exact z)] at q
    cases q
  have slots : ∀ b o, s1.heap.get? b = some o → b ∈ frs outer → ∃ sl, h2.get? b = some { o with slots := sl } := fun b o q hb => by
    have hm : b ∈ frs stk := by
      obtain ⟨env, h, hf⟩ := List.mem_filterMap.mp hb
      rw [hst']
      exact List.mem_filterMap.mpr ⟨env, List.mem_cons_of_mem _ h, hf⟩
    obtain ⟨_, o', ho', nf⟩ := Heap.FunFrames.mem ff hm
    rw [q] at ho'; cases ho'
    exact x4 b o q nf
  refine ⟨e, t, oe.cls, oe.dict, H1, _, rfl, ⟨I.os, I.bare, ⟨?_, ?_, ?_, ?_, ?_, ?_, ?_⟩, HOk.fromB I.hok trk0 x1.1.1, free, x1, old, ?_, ?_⟩, hE⟩
  · exact fun b o q n nf _ => x1.1.1 b o (old b o q n nf)
  · intro b o q n hb nx
    obtain ⟨sl, q1⟩ := I.base.slot b o q n hb nx
    obtain ⟨sl', q2⟩ := slots b _ q1 hb
    exact ⟨sl', q2⟩
  · exact fun b o q n nx => I.base.free b o q n nx
  · intro b o q nx
    obtain ⟨o', q1⟩ := I.base.there b o q nx
    by_cases hb : b ∈ frs outer
    · obtain ⟨sl', q2⟩ := slots b _ q1 hb
      exact ⟨_, q2⟩
    · exact ⟨o', x1.1.1 b o' (mk b o' q1 (nf0 b o q hb) (ne0 b o q))⟩
  · exact I.base.tups
  · exact I.base.frzs
  · exact I.base.tbls
  · intro b u q
    obtain ⟨o, _, e2⟩ := trk0 b u q
    exact ⟨o, x1.1.1 b o e2, e2⟩
  · intro b o q nf
    obtain ⟨o', q1⟩ := I.base.there b o q (fun z => by cases z)
    exact ⟨o', mk b o' q1 (nf0 b o q nf) (ne0 b o q)⟩
theorem raise_leaves {pins : List (Addr × Obj)} {σ : St} {H1 : Hp} {s1 : Shared} {h' : Heap} {e : Addr} {cls : Value} {vs : List Value} (I : Inv (cxOf (CXR P w) P w K mg base N qual scope f cd A outer s H E) pins σ H1 s1)
    (hx : Heap.MadeExcOf s1.heap h' e cls vs) (hE : E cls none H1) : (cxOf (CXR P w) P w K mg base N qual scope f cd A outer s H E).xe (.ref e) { s1 with heap := h' } := by
  obtain ⟨t, he, _, _⟩ := hx.there
  have J : Inv (cxOf (CXR P w) P w K mg base N qual scope f cd A outer s H E) pins σ H1 { s1 with heap := h' } := I.kept hx.keeps
  refine raise_leavesD J (t := t) he rfl rfl rfl ?_ ?_ hE
  · cases q : s.heap.get? e with
    | none => rfl
    | some o =>
      obtain ⟨o', q1⟩ := I.base.there e o q (fun z => by cases z)
      rw [hx.new] at q1; cases q1
  · cases q : H1 e with
    | none => rfl
    | some u =>
      obtain ⟨o, eo⟩ := (I.hok e u q).there
      rw [hx.new] at eo; cases eo
theorem passR {E1 : XK} (hE : ∀ cls od H', E1 cls od H' → E cls od H') : Passes (CXR P w) (cxOf (CXR P w) P w K mg base N qual scope f cd A outer s H E) E1 := by
  intro pins σ H1 s1 ev s2 I h
  obtain ⟨a, t, cls, od, H', B, rfl, F, q⟩ := h
  have fr := I.ok.frames
  refine leaveOnD fr rfl F.fly fun h2 x1 x2 => ?_
  have old : ∀ b o, s.heap.get? b = some o → H b = none → b ∉ frs outer → B.get? b = some o := fun b o e n nf =>
    F.old b o (I.base.keep b o e n nf (fun z => by cases z)) (I.base.free b o e n (fun z => by cases z)) (notFrame I e nf)
  have slots : ∀ b o, s2.heap.get? b = some o → b ∈ frs outer → ∃ sl, h2.get? b = some { o with slots := sl } := fun b o e hb => by
    have hm : b ∈ frs (cxOf (CXR P w) P w K mg base N qual scope f cd A outer s H E).stack := List.mem_filterMap.mpr (by
      obtain ⟨env, he, hf⟩ := List.mem_filterMap.mp hb
      exact ⟨env, List.mem_cons_of_mem _ he, hf⟩)
    obtain ⟨_, o', ho', nf⟩ := Heap.FunFrames.mem F.fly.2.1 hm
    rw [e] at ho'; cases ho'
    exact x2 b o e nf
  have hst : ∀ b, b ∈ frs outer → b ∈ frs (cxOf (CXR P w) P w K mg base N qual scope f cd A outer s H E).stack := fun b hb => List.mem_filterMap.mpr (by
      obtain ⟨env, he, hf⟩ := List.mem_filterMap.mp hb
      exact ⟨env, List.mem_cons_of_mem _ he, hf⟩)
  refine ⟨a, t, cls, od, H', B, rfl, ⟨F.os.trans I.os, F.bare, ⟨?_, ?_, ?_, ?_, ?_, ?_, ?_⟩, HOk.fromB F.hok F.trk x1.1.1, F.new, x1, old, ?_, ?_⟩, hE _ _ _ q⟩
  · exact fun b o e n nf _ => x1.1.1 b o (old b o e n nf)
  · intro b o e n hb nx
    obtain ⟨sl, q1⟩ := I.base.slot b o e n hb nx
    obtain ⟨sl1, q2⟩ := F.un.slot b _ q1 (I.base.free b o e n nx) (hst b hb) (fun z => by cases z)
    obtain ⟨sl2, q3⟩ := slots b _ q2 hb
    exact ⟨sl2, q3⟩
  · exact fun b o e n nx => by
      obtain ⟨o1, q1⟩ := I.base.there b o e nx
      exact F.un.free b o1 q1 (I.base.free b o e n nx) (fun z => by cases z)
  · intro b o e nx
    obtain ⟨o1, q1⟩ := I.base.there b o e nx
    obtain ⟨o2, q2⟩ := F.un.there b o1 q1 (fun z => by cases z)
    by_cases hb : b ∈ frs outer
    · obtain ⟨sl', q3⟩ := slots b _ q2 hb
      exact ⟨_, q3⟩
    · obtain ⟨o3, q3⟩ := F.all b o1 q1 (notFrame I e hb)
      exact ⟨o3, x1.1.1 b o3 q3⟩
  · exact fun b xs z => F.un.tups b xs (I.base.tups b xs z)
  · exact fun b o u z => F.un.frzs b o u (I.base.frzs b o u z)
  · intro b ps z
    obtain ⟨m1, z1⟩ := I.base.tbls b ps z
    obtain ⟨m2, z2⟩ := F.un.tbls b _ z1
    exact ⟨m1 ++ m2, by rw [← Array.append_assoc]; exact z2⟩
  · intro b u z
    obtain ⟨o, _, e2⟩ := F.trk b u z
    exact ⟨o, x1.1.1 b o e2, e2⟩
  · intro b o e nf
    obtain ⟨o1, q1⟩ := I.base.there b o e (fun z => by cases z)
    exact F.all b o1 q1 (notFrame I e nf)
end
end L2
namespace L2
open PySem PySem.Spec PyProof.Rows
section
variable {P : Program} {w : World} {K : PySem.W.Frag} {mg : Str → Option Value} {base : Heap} {N : List Str} {qual : Str} {scope : Scope} {f : Addr} {cd : Value} {A : Around} {outer : List Env} {s : Shared} {H : Hp} {E : XK}
def tRaise (C : Addr) (E : XK) (t : TA) : TS := fun _ σ H => t σ H fun vs H1 => vs.length ≤ sizeLine ∧ E (.ref C) none H1
theorem ps_raise {x : Str} {C : Addr} {np cpos pos : Pos} {e₀ : Expr} {rest : List Expr} {t : TA} {B newId initId : String} {bmB : List Value} (FB : ExcBaseFacts B newId initId bmB) (hm : mg x = some (.ref C))
    (hq : PySem.W.excIn K C bmB newId = true) (ha : PA (cxOf (CXR P w) P w K mg base N qual scope f cd A outer s H E) (e₀ :: rest) t)
    (hx : Gl (cxOf (CXR P w) P w K mg base N qual scope f cd A outer s H E) x := by rfl) (hd : (x == ("__debug__" : Str)) = false := by decide)
    (he : starEach (e₀ :: rest) (cxOf (CXR P w) P w K mg base N qual scope f cd A outer s H E).env = (false, eval e₀ (cxOf (CXR P w) P w K mg base N qual scope f cd A outer s H E).env) :: starEach rest (cxOf (CXR P w) P w K mg base N qual scope f cd A outer s H E).env := by rfl)
    (hpl : (backTo cpos (starEach rest (cxOf (CXR P w) P w K mg base N qual scope f cd A outer s H E).env)).any (·.1) = false := by rfl) :
    PS (cxOf (CXR P w) P w K mg base N qual scope f cd A outer s H E) (.Raise (some (.Call (.Name x np) (e₀ :: rest) [] cpos)) none pos) (tRaise C E t) := by
  intro pins s1 σ H1 D I hw
  obtain ⟨bm, N', nm, qn, bs, hdct, sn, sub, ab, col, dd, k0, k1, k2, k3, k5, mN, hC, hN, hni, T⟩ := excObj I.ok.mod.kin hq
  refine wpAny_Raise_call_subT (C := C) (nm := nm) (q := qn) (N := N') (bs := bs) (bm := bm) (hdct := hdct) (sn := sn) (sub := sub) (ab := ab) (col := col) (dd := dd) (k0 := k0) (k1 := k1) (k2 := k2) (k3 := k3) (k5 := k5) FB (mN := mN)
    (T.hasType FB.hasBase) (I.ok.hd rfl) (by rw [he]; exact hpl) hni (ld_glob I hx hm ⟨rfl, ?_⟩ hd)
  have h := ha cpos pins s1 σ H1 _ I hw
  rw [he] at h ⊢
  exact Calls.evalArgs_plain (wpAny_mono h (fun us s2 ⟨vs, H2, I2, rv, z, q⟩ => ⟨rfl, by rw [← rv.length]; exact z, I2.bk _ _ hC, hN.keeps I2.bk, T.keeps I2.bk, fun h' e hx => raise_leaves I2 hx q⟩) fun _ _ y => y)
theorem Fun.okR {x qual : Str} {st : Stmt} {f : Addr} {fd : FuncData} {N ps : List Str} {k : Nat} {sp : Sp} (F : Fun K x qual st f fd) (S : FnScope N ps (defScope st)) (len : ∀ vs H Q E, sp vs H Q E → vs.length = ps.length)
    (hbody : ∀ (cdv : Value) (A : Around) (outer : List Env) (s : Shared) (H : Hp) (vs : List V) (Q : VK) (E : XK), Room k (A.deeper (envOfC qual (defScope st) s.heap.objs.size f cdv)) → sp vs H Q E →
      ∃ t, PSs (cxOf (CXR P w) P w K mg base N qual (defScope st) f cdv A outer s H E) (defBody st) t ∧ t { nx := fun _ H' => Q .non H', rt := Q } (start N vs) H) : FnOk P w K mg base (CXR P w) (k + 1) f fd ps sp := by
  obtain ⟨oc, od, kV, doc, pm, an, cdv, ct, osl, rfl, lk, hcd⟩ := F.ex
  exact fn_of lk hcd S len fun A outer s H vs Q E hr hsp => hbody cdv A outer s H vs Q E hr hsp
end
section
variable {X : Cx}
def PEX (X : Cx) (e : Expr) (t : St → Hp → VK → XK → Prop) : Prop := ∀ (pins : List (Addr × Obj)) (s : Shared) (σ : St) (H : Hp) (Q : VK) (EX : XK), Inv X pins σ H s → t σ H Q EX →
  wpAny (model X.prog X.w) X.A (eval e X.env) (EP X pins σ Q) (fun ev s' => ∃ H1 s1, Inv X pins σ H1 s1 ∧ CXR X.prog X.w X.stack H1 s1 EX ev s') s
def excO (cls : Value) (a : Addr) (od : Option Addr) : HO := .ext fun h => ∃ o vs, h.get? a = some o ∧ (o.cls = cls ∧ o.dict = od) ∧ o.data = .fields vs
theorem land {pins : List (Addr × Obj)} {σ : St} {H1 H' : Hp} {s1 s' : Shared} {a t : Addr} {cls : Value} {od : Option Addr} {B h6 : Heap} (I : Inv X pins σ H1 s1) (F : Fly X.prog X.w X.stack H1 H' s1 s' a t cls od B)
    (fl : FlyD B X.stack a cls (.ref t) od h6) (sm : s'.heap.UpToSlots h6) : Inv X pins σ (upd H' a (excO cls a od)) { s' with heap := h6 } := by
  obtain ⟨oe, vs, ee, ec, eo, ed⟩ := fl.obj
  have neB : ∀ b o, B.get? b = some o → b ≠ a := fun b o e z => by rw [z, fl.1.2] at e; cases e
  have neF : ∀ b, b ∈ frs X.stack → b ≠ a := fun b hb z => by
    obtain ⟨_, o, ho, nf⟩ := Heap.FunFrames.mem fl.2.1 hb
    rw [z, ee] at ho; cases ho
    exact nf _ ed
  have slots : ∀ b o, s'.heap.get? b = some o → b ∈ frs X.stack → ∃ sl, h6.get? b = some { o with slots := sl } := fun b o e hb => by
    obtain ⟨_, o', ho', nf⟩ := Heap.FunFrames.mem F.fly.2.1 hb
    rw [e] at ho'; cases ho'
    exact sm b o e nf
  have neT : ∀ b u, H' b = some u → b ≠ a := fun b u e z => by rw [z, F.new] at e; cases e
  have up : ∀ b u, H' b = some u → upd H' a (excO cls a od) b = some u := fun b u e => by rw [upd_ne (neT b u e)]; exact e
  refine I.call' (ch := []) F.os ⟨?_, ?_, ?_, ?_, ?_, ?_, ?_⟩ ?_ F.bare (fun _ z => nomatch z)
  · exact fun b o e n nf _ => fl.1.1 b o (F.old b o e n nf)
  · intro b o e n hb nx
    obtain ⟨sl, q1⟩ := F.un.slot b o e n hb nx
    obtain ⟨sl2, q2⟩ := slots b _ q1 hb
    exact ⟨sl2, q2⟩
  · intro b o e n nx
    have z : b ≠ a := by
      by_cases hb : b ∈ frs X.stack
      · exact neF b hb
      · exact neB b o (F.old b o e n hb)
    rw [upd_ne z]
    exact F.un.free b o e n nx
  · intro b o e nx
    by_cases hb : b ∈ frs X.stack
    · obtain ⟨o1, q1⟩ := F.un.there b o e nx
      obtain ⟨sl2, q2⟩ := slots b _ q1 hb
      exact ⟨_, q2⟩
    · obtain ⟨o3, q3⟩ := F.all b o e hb
      exact ⟨o3, fl.1.1 b o3 q3⟩
  · exact fun b xs z => up b _ (F.un.tups b xs z)
  · exact fun b o u z => up b _ (F.un.frzs b o u z)
  · intro b ps z
    obtain ⟨m, z1⟩ := F.un.tbls b ps z
    exact ⟨m, up b _ z1⟩
  · intro b u e
    by_cases hb : b = a
    · subst hb
      rw [upd_same] at e
      cases e
      exact ⟨⟨oe, vs, ee, ⟨ec, eo⟩, ed⟩, ⟨oe, ee⟩, fun h1 h2 ⟨o, v, q1, q2, q3⟩ k => ⟨o, v, k o q1, q2, q3⟩⟩
    · rw [upd_ne hb] at e
      refine (HOk.fromB F.hok F.trk fl.1.1 b u e).stay (fun c v _ q => q) (fun c q => up c _ q) fun c xs q => up c _ q
abbrev Cx.marked (X : Cx) (e : Value) : Cx := { X with A := X.A.mark (some e), calm := false, xe := fun _ _ => False }
theorem Inv.marked {pins : List (Addr × Obj)} {σ : St} {H : Hp} {s : Shared} (I : Inv X pins σ H s) (e : Value) : Inv (X.marked e) pins σ H s :=
  ⟨⟨I.ok.mod, I.ok.kind, I.ok.glob, I.ok.blt, I.ok.above, I.ok.inj, I.ok.has, I.ok.cab, (fun z => nomatch z), I.ok.frames, I.ok.stk, I.ok.exf, I.ok.bs, I.ok.bsz, I.ok.noex, I.ok.exfs, I.ok.funs, I.ok.frf⟩, I.os, I.bare, I.base, I.loc, I.cell, I.free, I.freeC, I.pin, I.hok, I.len⟩
theorem Inv.unmarked {pins : List (Addr × Obj)} {σ : St} {H : Hp} {s : Shared} {e : Value} (ok : X.Ok) (I : Inv (X.marked e) pins σ H s) : Inv X pins σ H s :=
  ⟨ok, I.os, I.bare, I.base, I.loc, I.cell, I.free, I.freeC, I.pin, I.hok, I.len⟩
theorem unbound {M : Model} {A : Around} {E : Value → Shared → Prop} {pins : List (Addr × Obj)} {σ : St} {H : Hp} {s : Shared} {i : Nat} {n : Str} {pos : Pos} {Q : Unit → Shared → Prop} (I : Inv X pins σ H s) (hN : X.N.Nodup) (hi : X.N[i]? = some n) (hk : X.env.scope.names.lookup n = some .local)
    (h : ∀ s', Inv X pins (σ.set i none) H s' → Q () s') : wpAny M A (do bindName X.env n .none; unbindBehindTheSuite X.env n pos) Q E s := by
  obtain ⟨m, hn, hl⟩ := id I.loc
  have hcls : (X.env.scope.kind == .class || (X.env.scope.kind == .module && X.env.locals != X.env.globals)) = false := by rw [I.ok.kind]; rfl
  have hiσ : i < σ.length := by rw [I.len]; exact (List.getElem?_eq_some_iff.mp hi).1
  refine wpAny_nameGoes_keeps hk hn hcls fun h' v hn' hs => h _ ?_
  have low : ∀ b o, X.s₀.heap.get? b = some o → h'.get? b = s.heap.get? b := fun b o e => hs.2 b (Nat.ne_of_lt (Nat.lt_of_lt_of_le (Heap.lt_size e) I.ok.above))
  have other : ∀ b, b ≠ X.env.locals → h'.get? b = s.heap.get? b := fun b hb => hs.2 b hb
  refine ⟨I.ok, I.os, I.bare, ⟨fun b o e n hb hx => (low b o e).trans (I.base.keep b o e n hb hx), fun b o e n hb hx => ?_, I.base.free, fun b o e hx => ?_, I.base.tups, I.base.frzs, I.base.tbls⟩, ⟨_, hn', fun j y v' e1 e2 e3 => ?_⟩, fun y c e => ?_, I.free, I.freeC, fun p hp => ?_, fun b ob e => ?_, by simpa using I.len⟩
  · obtain ⟨sl, e1⟩ := I.base.slot b o e n hb hx
    exact ⟨sl, (low b o e).trans e1⟩
  · obtain ⟨o', e1⟩ := I.base.there b o e hx
    exact ⟨o', (low b o e).trans e1⟩
  · by_cases hj : j = i
    · subst hj
      rw [List.getElem?_set_self hiσ] at e2
      cases e2
    · rw [List.getElem?_set_ne (Ne.symm hj)] at e2
      obtain ⟨u', r', q⟩ := hl j y v' e1 e2 e3
      refine ⟨u', r', ?_⟩
      rcases q with ⟨k, e⟩ | ⟨k, c, e, z⟩
      · have hy : y ≠ n := fun e => hj (nodup_ix hN e1 (e ▸ hi))
        exact .inl ⟨k, (if_neg hy).trans e⟩
      · exact .inr ⟨k, c, e, z.sameBut hs (I.cne y c e)⟩
  · obtain ⟨w', z⟩ := I.cell y c e
    exact ⟨w', z.sameBut hs (I.cne y c e)⟩
  · obtain ⟨e, n, ne, nf, d⟩ := I.pin p hp
    exact ⟨(other p.1 ne).trans e, n, ne, nf, d⟩
  · refine (I.hok b ob e).stay (fun c w' hc q => (other c ?_).trans q) (fun _ q => q) fun _ _ q => q
    rintro rfl
    rcases hc with rfl | hc
    · rw [I.free] at e; cases e
    · rw [I.free] at hc; cases hc
def sufE (D : Ends) (i : Nat) : Ends := { nx := fun σ' H' => D.nx (σ'.set i none) H', rt := D.rt, bk := fun σ' H' => D.bk (σ'.set i none) H', ct := fun σ' H' => D.ct (σ'.set i none) H' }
def tTryAs (tx : St → Hp → VK → XK → Prop) (K : PySem.W.Frag) (C : Addr) (i : Nat) (ts : TS) : TS := fun D σ H =>
  tx σ H (fun _ H1 => D.nx σ H1) fun cls od H1 => PySem.W.exmOne K cls (.ref C) = some true ∧ ∀ a, H1 a = none → ts (sufE D i) (σ.set i (some (.ref a))) (upd H1 a (excO cls a od))
def tTry0 (tx : St → Hp → VK → XK → Prop) (K : PySem.W.Frag) (C : Addr) (ts : TS) : TS := fun D σ H =>
  tx σ H (fun _ H1 => D.nx σ H1) fun cls od H1 => PySem.W.exmOne K cls (.ref C) = some true ∧ ∀ a, H1 a = none → ts D σ (upd H1 a (excO cls a od))
variable {e : Expr} {tx : St → Hp → VK → XK → Prop} {p1 np hpos pos : Pos} {y n : Str} {C : Addr} {i : Nat} {b₀ : Stmt} {suite : List Stmt} {ts : TS}
end
end L2
namespace L2
open PySem PySem.Spec PyProof.Rows
structure RoomN (k : Nat) (A : Around) : Prop where
  dp : A.depth + 3 * k + 5 < recursionLimit
  un : A.units + 16 * k + 200 < cLine
theorem RoomN.mono {j k : Nat} {A : Around} (r : RoomN k A) (h : j ≤ k) : RoomN j A := ⟨by have := r.dp; omega, by have := r.un; omega⟩
theorem RoomN.deeper {k : Nat} {A : Around} (r : RoomN (k + 1) A) (env : Env) : RoomN k (A.deeper env) :=
  ⟨by have := r.dp; show A.depth + 1 + 3 * k + 5 < _; omega, by have := r.un; show A.units + 3 + 16 * k + 200 < _; omega⟩
theorem RoomN.depth {k : Nat} {A : Around} (r : RoomN k A) : A.depth < recursionLimit := by have := r.dp; omega
theorem Room.toN {k : Nat} {A : Around} (r : Room k A) : RoomN k A := ⟨r.dp, r.un⟩
theorem RoomN.marked {k : Nat} {A : Around} (r : RoomN k A) (e : Option Value) : RoomN k (A.mark e) := ⟨r.dp, r.un⟩
structure FnOkN (P : Program) (w : World) (K : PySem.W.Frag) (mg : Str → Option Value) (base : Heap) (CX : CXT) (k : Nat) (f : Addr) (fd : FuncData) (ps : List Str) (sp : Sp) : Prop where
  len : ∀ vs H Q E, sp vs H Q E → vs.length = ps.length
  run : ∀ (A : Around) (outer : List Env) (s : Shared) (H : Hp) (args : Args) (us : List Value) (vs : List V) (Q : VK) (E : XK), RoomN k A → Env0 P w K mg base A outer s H → BindsTo s fd args (ps.zip us) → Vals vs us → sp vs H Q E →
    codeAny (model P w) A (.call (.ref f) args) (CR CX outer P w H s Q E) s
section
variable {X : Cx} {CX : CXT} {k : Nat} {f C : Addr} {fd : FuncData} {ps : List Str} {sp : Sp} {dvs : List V} {ds : List Value} {E : XK} {x m : Str} {p pos apos : Pos} {e o : Expr} {es : List Expr} {ta : TE} {t : TA}
theorem run_fnN {pins : List (Addr × Obj)} {σ : St} {H : Hp} {s : Shared} {Q : VK} {us : List Value} {vs : List V} (F : FnOkN X.prog X.w X.K X.mg X.base CX k f fd ps sp) (hr : RoomN k X.A) (hb : Binds X.K fd ps ds) (hd : Vals dvs ds) (hx : Passes CX X E)
    (I : Inv X pins σ H s) (r : Vals vs us) (h : sp (vs ++ dvs) H Q E) : wpAny (model X.prog X.w) X.A (call (.ref f) us) (EP X pins σ Q) X.xe s := by
  have r2 : Vals (vs ++ dvs) (us ++ ds) := r.append hd
  have hl : (us ++ ds).length = ps.length := by rw [← r2.length]; exact F.len _ _ _ _ h
  refine wpAny_call (codeAny_mono (F.run X.A X.stack s H ⟨us, []⟩ (us ++ ds) (vs ++ dvs) Q E hr I.env0 (hb s us I.kIn hl) r2 h) fun r s' hq => ?_)
  cases r with
  | error e => exact hx pins σ H s e s' I hq
  | ok fl =>
    cases fl with
    | ret u => exact I.after hq
    | next => exact False.elim hq
    | brk => exact False.elim hq
    | cont => exact False.elim hq
theorem pe_callN (F : FnOkN X.prog X.w X.K X.mg X.base CX k f fd ps sp) (hr : RoomN k X.A) (hg : Gl X x) (hm : X.mg x = some (.ref f)) (hk : PySem.W.keepIn X.K (.ref f) = true) (hb : Binds X.K fd ps ds) (hd : Vals dvs ds) (hx : Passes CX X E)
    (ha : PA X (e :: es) t) (hdb : (x == ("__debug__" : Str)) = false := by decide) (he : starEach (e :: es) X.env = (false, eval e X.env) :: starEach es X.env := by rfl) (hpl : (backTo pos (starEach es X.env)).any (·.1) = false := by rfl) :
    PE X (.Call (.Name x p) (e :: es) [] pos) (tCall sp dvs E t) := by
  intro pins s σ H Q I h
  refine wpAny_Call_Name_kw (ld_glob I hg hm ?_ hdb)
  refine PySem.W.callWith_K (h₀ := X.base) I.ok.mod.kin hk (thn (ha pos pins s σ H _ I h) fun us s1 ⟨vs, H1, I1, r, q⟩ => ⟨I1.kIn, ?_⟩) he hpl
  exact run_fnN F hr hb hd hx I1 r q
end
def cxOfN (CX : CXT) (P : Program) (w : World) (K : PySem.W.Frag) (mg : Str → Option Value) (base : Heap) (N : List Str) (qual : Str) (scope : Scope) (f : Addr) (cd : Value) (A : Around) (outer : List Env) (s : Shared) (H : Hp) (E : XK) : Cx where
  prog := P
  w := w
  K := K
  mg := mg
  base := base
  A := A.deeper (envOfC qual scope s.heap.objs.size f cd)
  N := N
  s₀ := s
  H₀ := H
  env := envOfC qual scope s.heap.objs.size f cd
  outer := outer
  stack := envOfC qual scope s.heap.objs.size f cd :: outer
  ex := []
  calm := false
  fn := fun _ => true
  pn := []
  xe := fun e s' => wpAny (model P w) (A.deeper (envOfC qual scope s.heap.objs.size f cd)) (leaving (envOfC qual scope s.heap.objs.size f cd) e) (fun _ s'' => CX outer H s E e s'') (fun e' s'' => CX outer H s E e' s'') s'
theorem inv_startN {CX : CXT} {P : Program} {w : World} {K : PySem.W.Frag} {mg : Str → Option Value} {base : Heap} {N ps : List Str} {qual : Str} {scope : Scope} {f : Addr} {cd : Value} {A : Around} {outer : List Env} {s s1 : Shared} {H : Hp} {E : XK} {us : List Value} {vs : List V}
    (S : FnScope N ps scope) (e0 : Env0 P w K mg base A outer s H) (hl : vs.length = ps.length) (r : Vals vs us)
    (x : InCallC s s.heap.objs.size (bindL (envOfC qual scope s.heap.objs.size f cd).kindOf (ps.zip us) fun _ => none) (cellsFrom (s.heap.objs.size + 1) scope.names []) (bindC (envOfC qual scope s.heap.objs.size f cd).kindOf (ps.zip us) fun _ => none) s1) :
    Inv (cxOfN CX P w K mg base N qual scope f cd A outer s H E) [] (start N vs) H s1 := by
  have hpl : ps.length ≤ N.length := by have := congrArg List.length S.pre; rw [List.length_take] at this; omega
  obtain ⟨h1, tk, rfl, hk⟩ := x.done
  have noA : ∀ b : Addr, b ∉ (cxOfN CX P w K mg base N qual scope f cd A outer s H E).ex := fun b z => absurd (show b ∈ ([] : List Addr) from z) (by simp)
  refine ⟨⟨e0.mod, S.kind, rfl, rfl, Nat.le_refl _, fun y z c h1 h2 => ?_, fun y hy => ?_, fun y c _ h => ?_, (fun z => nomatch z), Around.frames_deeper e0.frames, .inr ⟨rfl, rfl⟩, fun b z => absurd z (noA b), e0.bs, e0.bsz, fun b _ _ => noA b, fun b z => absurd z (noA b), e0.funs, e0.frf⟩,
    rfl, e0.bare, Un.kept hk, ⟨_, x.toInCall.ns, fun i y v h1 h2 h3 => ?_⟩, fun y c h => ⟨_, x.cell y c h⟩, e0.hok.fresh (Nat.le_refl _), fun y c h => ?_, fun p hp => absurd (show p ∈ ([] : List (Addr × Obj)) from hp) (by simp), e0.hok.kept hk, ?_⟩
  · exact name_of_addr x.apart (PySem.mem_of_lookup h1) (PySem.mem_of_lookup h2)
  · have hy : scope.names.lookup y = some .cell ∨ scope.names.lookup y = some .free := hy
    rcases hy with hy | hy
    · exact cell_has hy
    · exact absurd rfl (S.nofree _ (PySem.mem_of_lookup hy))
  · exact Nat.le_of_lt (x.above y c (PySem.mem_of_lookup h))
  · have hi : i < vs.length := by
      unfold start at h2
      by_cases hi : i < vs.length
      · exact hi
      · rw [List.getElem?_append_right (by simpa using hi)] at h2
        rw [List.getElem?_replicate] at h2
        split at h2 <;> cases h2
    have ha : vs[i]? = some v := by
      unfold start at h2
      rw [List.getElem?_append_left (by simpa using hi), List.getElem?_map] at h2
      cases e : vs[i]? with
      | none => rw [e] at h2; cases h2
      | some a => rw [e] at h2; cases h2; rfl
    obtain ⟨u, hu, rv⟩ := r.get ha
    have hp : ps[i]? = some y := by
      rw [← S.pre, List.getElem?_take_of_lt (by omega)]; exact h1
    have ndP : ps.Nodup := by rw [← S.pre]; exact S.nd.sublist (List.take_sublist _ _)
    refine ⟨u, rv, ?_⟩
    rcases S.par y (List.mem_of_getElem? hp) with k | k
    · exact .inl ⟨k, bindL_get ndP hp hu k⟩
    · obtain ⟨c, e⟩ := cell_has (n := s.heap.objs.size + 1) k
      refine .inr ⟨.inl k, c, e, ?_⟩
      have q := x.cell y c e
      rw [bindC_get ndP hp hu (by show scope.names.lookup y ≠ _; rw [k]; decide)] at q
      exact q
  · exact e0.hok.fresh (Nat.le_of_lt (x.above y c (PySem.mem_of_lookup h)))
  · unfold start
    show _ = N.length
    rw [List.length_append, List.length_map, List.length_replicate]
    omega
theorem fn_ofN {CX : CXT} {P : Program} {w : World} {K : PySem.W.Frag} {mg : Str → Option Value} {base : Heap} {k : Nat} {f : Addr} {name qual : Str} {params : Arguments} {body : List Stmt} {scope : Scope} {dV kV doc pm cdv ct oc : Value} {an od : Option Addr}
    {osl : Array (Option Value)} {N ps : List Str} {sp : Sp} (lk : K.lookup f = some ⟨oc, od, .func (PySem.W.fnOf name qual params body scope dV kV doc pm an cdv ct), osl⟩) (hcd : PySem.W.codeIn K cdv qual = true) (S : FnScope N ps scope)
    (len : ∀ vs H Q E, sp vs H Q E → vs.length = ps.length)
    (hbody : ∀ (A : Around) (outer : List Env) (s : Shared) (H : Hp) (vs : List V) (Q : VK) (E : XK), RoomN k (A.deeper (envOfC qual scope s.heap.objs.size f cdv)) → sp vs H Q E →
      ∃ t, PSs (cxOfN CX P w K mg base N qual scope f cdv A outer s H E) body t ∧ t { nx := fun _ H' => Q .non H', rt := Q } (start N vs) H) :
    FnOkN P w K mg base CX (k + 1) f (PySem.W.fnOf name qual params body scope dV kV doc pm an cdv ct) ps sp := by
  refine ⟨len, fun A outer s H args us vs Q E hr e0 hb r hsp => ?_⟩
  have hl := len _ _ _ _ hsp
  have KX : K.In s.heap := e0.mod.kin.keeps fun b o e => (e0.bs b o e).1
  have lim : s.heap.NoLimit := e0.mod.nolimit.keeps fun b o e => (e0.bs b o e).1
  have hkind : ∀ y ∈ ps.zip us, scope.names.lookup y.1 = some .local ∨ (scope.names.lookup y.1 = some .cell ∧ ((cellsFrom (s.heap.objs.size + 1) scope.names []).lookup y.1).isSome = true) := fun ⟨n, v⟩ hy => by
    rcases S.par n (List.of_mem_zip hy).1 with q | q
    · exact .inl q
    · exact .inr ⟨q, PySem.W.cellsFrom_some _ _ _ (.inl q)⟩
  refine codeAny_call_function hr.depth (KX _ _ lk) rfl S.co S.gen rfl (PySem.W.codeRec_of KX hcd) (hb _ _ _ _ ?_)
  refine wpAny_newFunctionEnv_cells S.kind hkind fun env he s1 x => ?_
  subst he
  refine ⟨lim.keeps x.toInCall.keep, codeAny_func ?_⟩
  obtain ⟨t, ht, hq⟩ := hbody A outer s H vs Q E (hr.deeper _) hsp
  have I : Inv (cxOfN CX P w K mg base N qual scope f cdv A outer s H E) [] (start N vs) H s1 := inv_startN S e0 hl r x
  refine wpAny_mono (ht [] s1 (start N vs) H _ I hq) (fun fl s' hs => ?_) fun e s' hs => hs
  have fin : ∀ {σ' : St} {H' : Hp} {v : V} {u : Value}, Inv (cxOfN CX P w K mg base N qual scope f cdv A outer s H E) [] σ' H' s' → RelV v u → Q v H' → CE outer P w H s Q u s' :=
    fun {σ' H' v u} J rv q => ⟨v, H', J.os, J.bare, J.base, J.hok, rv, q⟩
  cases fl with
  | ret u =>
    obtain ⟨v, σ', H', J, rv, q⟩ := hs
    exact fin J rv q
  | next =>
    obtain ⟨σ', H', J, q⟩ := hs
    exact fin (v := V.non) (u := Value.none) J rfl q
  | brk =>
    obtain ⟨_, _, _, q⟩ := hs
    exact False.elim q
  | cont =>
    obtain ⟨_, _, _, q⟩ := hs
    exact False.elim q
section
variable {P : Program} {w : World} {K : PySem.W.Frag} {mg : Str → Option Value} {base : Heap}
theorem Fun.okN {x qual : Str} {st : Stmt} {f : Addr} {fd : FuncData} {N ps : List Str} {k : Nat} {sp : Sp} (F : Fun K x qual st f fd) (S : FnScope N ps (defScope st)) (len : ∀ vs H Q E, sp vs H Q E → vs.length = ps.length)
    (hbody : ∀ (cdv : Value) (A : Around) (outer : List Env) (s : Shared) (H : Hp) (vs : List V) (Q : VK) (E : XK), RoomN k (A.deeper (envOfC qual (defScope st) s.heap.objs.size f cdv)) → sp vs H Q E →
      ∃ t, PSs (cxOfN CX0 P w K mg base N qual (defScope st) f cdv A outer s H E).nox (defBody st) t ∧ t { nx := fun _ H' => Q .non H', rt := Q } (start N vs) H) : FnOkN P w K mg base CX0 (k + 1) f fd ps sp := by
  obtain ⟨oc, od, kV, doc, pm, an, cdv, ct, osl, rfl, lk, hcd⟩ := F.ex
  refine fn_ofN lk hcd S len fun A outer s H vs Q E hr hsp => ?_
  obtain ⟨t, h, q⟩ := hbody cdv A outer s H vs Q E hr hsp
  exact ⟨t, h.nox, q⟩
end
end L2
namespace L2
open PySem PySem.Spec PyProof.Rows
theorem PE.imp {X : Cx} {e : Expr} {t t' : TE} (h : PE X e t) (i : ∀ σ H Q, t' σ H Q → t σ H Q) : PE X e t' := fun pins s σ H Q I q => h pins s σ H Q I (i σ H Q q)
theorem PS.imp {X : Cx} {e : Stmt} {t t' : TS} (h : PS X e t) (i : ∀ D σ H, t' D σ H → t D σ H) : PS X e t' := fun pins s σ H D I q => h pins s σ H D I (i D σ H q)
theorem OpR.imp {X : Cx} {f : Value → Value → Sem Value} {r r' : R2} (h : OpR X f r) (i : ∀ x y H Q, r' x y H Q → r x y H Q) : OpR X f r' := fun pins s σ H x y v u Q I rx ry q => h pins s σ H x y v u Q I rx ry (i x y H Q q)
theorem UnR.imp {X : Cx} {f : Value → Sem Value} {r r' : V → Hp → VK → Prop} (h : UnR X f r) (i : ∀ x H Q, r' x H Q → r x H Q) : UnR X f r' := fun pins s σ H x v Q I rx q => h pins s σ H x v Q I rx (i x H Q q)
theorem CallR.imp {X : Cx} {f : Value} {r r' : List V → Hp → VK → Prop} (h : CallR X f r) (i : ∀ xs H Q, r' xs H Q → r xs H Q) : CallR X f r' := fun pins s σ H xs us Q I rv q => h pins s σ H xs us Q I rv (i xs H Q q)
theorem IxR.imp {X : Cx} {r r' : R2} (h : IxR X r) (i : ∀ x y H Q, r' x y H Q → r x y H Q) : IxR X r' := fun va sl pins s σ H x y v u Q I rx ry q hs => h va sl pins s σ H x y v u Q I rx ry (i x y H Q q) hs
def oV (o : Option (Option V)) (k : V → Prop) : Prop := @Option.rec (Option V) (fun _ => Prop) False (fun o => @Option.rec V (fun _ => Prop) False k o) o
def vI (x : V) (k : Int → Prop) : Prop := @V.rec (fun _ => Prop) False (fun _ => False) k (fun _ => False) (fun _ => False) (fun _ => False) (fun _ => False) (fun _ => False) x
def vB (x : V) (k : Bool → Prop) : Prop := @V.rec (fun _ => Prop) False k (fun _ => False) (fun _ => False) (fun _ => False) (fun _ => False) (fun _ => False) (fun _ => False) x
def vS (x : V) (k : Str → Prop) : Prop := @V.rec (fun _ => Prop) False (fun _ => False) (fun _ => False) k (fun _ => False) (fun _ => False) (fun _ => False) (fun _ => False) x
def vR (x : V) (k : Addr → Prop) : Prop := @V.rec (fun _ => Prop) False (fun _ => False) (fun _ => False) (fun _ => False) (fun _ => False) (fun _ => False) k (fun _ => False) x
def l1 (vs : List V) (k : V → Prop) : Prop := @List.rec V (fun _ => Prop) False (fun x r _ => @List.rec V (fun _ => Prop) (k x) (fun _ _ _ => False) r) vs
def l2 (vs : List V) (k : V → V → Prop) : Prop := @List.rec V (fun _ => Prop) False (fun x r _ => l1 r fun y => k x y) vs
theorem oV.ex {o : Option (Option V)} {k : V → Prop} (h : oV o k) : ∃ v, o = some (some v) ∧ k v := by
  cases o with
  | none => exact h.elim
  | some o => cases o with
    | none => exact h.elim
    | some v => exact ⟨v, rfl, h⟩
theorem vI.ex {x : V} {k : Int → Prop} (h : vI x k) : ∃ i, x = .int i ∧ k i := by
  cases x with
  | int i => exact ⟨i, rfl, h⟩
  | _ => exact h.elim
theorem vB.ex {x : V} {k : Bool → Prop} (h : vB x k) : ∃ i, x = .bl i ∧ k i := by
  cases x with
  | bl i => exact ⟨i, rfl, h⟩
  | _ => exact h.elim
theorem vR.ex {x : V} {k : Addr → Prop} (h : vR x k) : ∃ i, x = .ref i ∧ k i := by
  cases x with
  | ref i => exact ⟨i, rfl, h⟩
  | _ => exact h.elim
theorem l1.ex {vs : List V} {k : V → Prop} (h : l1 vs k) : ∃ x, vs = [x] ∧ k x := by
  match vs, h with
  | [x], h => exact ⟨x, rfl, h⟩
theorem l2.ex {vs : List V} {k : V → V → Prop} (h : l2 vs k) : ∃ x y, vs = [x, y] ∧ k x y := by
  match vs, h with
  | [x, y], h => exact ⟨x, y, rfl, h⟩
def dVar (i : Nat) : TE := fun σ H Q => oV σ[i]? fun v => Q v H
section
variable {X : Cx}
theorem dv (i : Nat) {x : Str} {pos : Pos} (hN : X.N[i]? = some x := by rfl) (hv : Vis X.env.scope x := by first | exact Or.inl rfl | exact Or.inr (Or.inl rfl) | exact Or.inr (Or.inr rfl)) (hd : (x == ("__debug__" : Str)) = false := by decide)
    (hcd : (x == ("__classdict__" : Str)) = false := by decide) : PE X (.Name x pos) (dVar i) := (pe_var hN hv hd hcd).imp fun σ H Q h => h.ex
def mI (C : Int → Int → Prop) (g : Int → Int → V) : R2 := fun x y H Q => vI x fun i => vI y fun j => C i j ∧ Q (g i j) H
def mI0 (g : Int → Int → V) : R2 := fun x y H Q => vI x fun i => vI y fun j => Q (g i j) H
theorem mI.to {C : Int → Int → Prop} {g : Int → Int → V} : ∀ x y H Q, mI C g x y H Q → rI C g x y H Q := fun x y H Q h => by
  obtain ⟨i, rfl, h1⟩ := vI.ex h
  clear h
  obtain ⟨j, rfl, h⟩ := vI.ex h1
  exact ⟨_, _, rfl, rfl, h.1, h.2⟩
theorem mI0.to {g : Int → Int → V} : ∀ x y H Q, mI0 g x y H Q → rI0 g x y H Q := fun x y H Q h => by
  obtain ⟨i, rfl, h1⟩ := vI.ex h
  clear h
  obtain ⟨j, rfl, h⟩ := vI.ex h1
  exact ⟨_, _, rfl, rfl, h⟩
def mU (g : Int → V) : V → Hp → VK → Prop := fun x H Q => vI x fun i => Q (g i) H
theorem mU.to {g : Int → V} : ∀ x H Q, mU g x H Q → rU g x H Q := fun x H Q h => vI.ex h
theorem z_add : OpR X (binaryOp .Add) (mI0 fun i j => .int (i + j)) := op_add.imp mI0.to
theorem z_sub : OpR X (binaryOp .Sub) (mI0 fun i j => .int (i - j)) := op_sub.imp mI0.to
theorem z_mul : OpR X (binaryOp .Mult) (mI CMulB fun i j => .int (i * j)) := op_mulB.imp mI.to
theorem z_mod : OpR X (binaryOp .Mod) (mI (fun _ j => 0 < j) fun i j => .int (i % j)) := op_mod.imp mI.to
theorem z_pow : OpR X (binaryOp .Pow) (mI CPow fun i j => .int (i ^ j.toNat)) := op_pow.imp mI.to
theorem z_neg : UnR X (unaryOp .USub) (mU fun i => .int (-i)) := un_neg.imp mU.to
theorem z_lt : OpR X (compareOp .Lt) (mI0 fun i j => .bl (decide (i < j))) := op_lt.imp mI0.to
theorem z_le : OpR X (compareOp .LtE) (mI0 fun i j => .bl (decide (i ≤ j))) := op_le.imp mI0.to
theorem z_gt : OpR X (compareOp .Gt) (mI0 fun i j => .bl (decide (j < i))) := op_gt.imp mI0.to
theorem z_ge : OpR X (compareOp .GtE) (mI0 fun i j => .bl (decide (j ≤ i))) := op_ge.imp mI0.to
theorem dI {i j : Int} : decide (V.int i = V.int j) = decide (i = j) := by
  by_cases h : i = j
  · rw [decide_eq_true h, decide_eq_true (congrArg V.int h)]
  · rw [decide_eq_false h, decide_eq_false fun z => h (V.int.inj z)]
theorem dS {i j : Str} : decide (V.str i = V.str j) = decide (i = j) := by
  by_cases h : i = j
  · rw [decide_eq_true h, decide_eq_true (congrArg V.str h)]
  · rw [decide_eq_false h, decide_eq_false fun z => h (V.str.inj z)]
theorem dB {i j : Bool} : decide (V.bl i = V.bl j) = decide (i = j) := by
  by_cases h : i = j
  · rw [decide_eq_true h, decide_eq_true (congrArg V.bl h)]
  · rw [decide_eq_false h, decide_eq_false fun z => h (V.bl.inj z)]
def eqW (f : Bool → Prop) (x y : V) : Prop := @V.rec (fun _ => Prop)
  (@V.rec (fun _ => Prop) (f true) (fun _ => False) (fun _ => f false) (fun _ => f false) (fun _ => False) (fun _ => False) (fun _ => False) (fun _ => False) y)
  (fun i => @V.rec (fun _ => Prop) False (fun j => f (decide (i = j))) (fun _ => False) (fun _ => False) (fun _ => False) (fun _ => False) (fun _ => False) (fun _ => False) y)
  (fun i => @V.rec (fun _ => Prop) (f false) (fun _ => False) (fun j => f (decide (i = j))) (fun _ => f false) (fun _ => False) (fun _ => False) (fun _ => False) (fun _ => False) y)
  (fun i => @V.rec (fun _ => Prop) (f false) (fun _ => False) (fun _ => f false) (fun j => f (decide (i = j))) (fun _ => False) (fun _ => False) (fun _ => False) (fun _ => False) y)
  (fun _ => False) (fun _ => False) (fun _ => False) (fun _ => False) x
theorem eqW.ex {f : Bool → Prop} {x y : V} (h : eqW f x y) : scal x y = true ∧ f (decide (x = y)) := by
  cases x with
  | non => cases y <;> first | exact h.elim | exact ⟨rfl, h⟩
  | bl i => cases y <;> first | exact h.elim | (exact ⟨rfl, by rw [dB]; exact h⟩)
  | int i => cases y <;> first | exact h.elim | exact ⟨rfl, h⟩ | (exact ⟨rfl, by rw [dI]; exact h⟩)
  | str i => cases y <;> first | exact h.elim | exact ⟨rfl, h⟩ | (exact ⟨rfl, by rw [dS]; exact h⟩)
  | _ => exact h.elim
def mEq : R2 := fun x y H Q => eqW (fun b => Q (.bl b) H) x y
def mNe : R2 := fun x y H Q => eqW (fun b => Q (.bl (!b)) H) x y
theorem z_eq : OpR X (compareOp .Eq) mEq := op_eq.imp fun x y H Q h => eqW.ex (f := fun b => Q (.bl b) H) h
theorem z_ne : OpR X (compareOp .NotEq) mNe := op_ne.imp fun x y H Q h => eqW.ex (f := fun b => Q (.bl (!b)) H) h
def vN (x : V) (k : Prop) : Prop := @V.rec (fun _ => Prop) k (fun _ => False) (fun _ => False) (fun _ => False) (fun _ => False) (fun _ => False) (fun _ => False) (fun _ => False) x
def mIsN : R2 := fun x y H Q => vN y (Q (.bl (decide (x = .non))) H)
def mNotN : R2 := fun x y H Q => vN y (Q (.bl (!decide (x = .non))) H)
section
variable {a b c : Expr} {ta tb tc : TE} {pos : Pos} {rest : List Expr}
theorem vB_iff {x : V} {k : Bool → Prop} : vB x k = ∃ i, x = .bl i ∧ k i := propext ⟨vB.ex, fun ⟨i, e, h⟩ => by subst e; exact h⟩
def dTest (t : TE) : TT := fun σ H Q => t σ H fun x H' => vB x fun k => Q k H'
theorem dTest_eq (t : TE) : dTest t = tTest t := by
  funext σ H Q
  unfold dTest tTest
  simp only [vB_iff]
theorem dTest_eqB (t : TE) : dTest t = tB t := by
  funext σ H Q
  unfold dTest tB
  simp only [vB_iff]
theorem md_cmp {op : CmpOp} {r : R2} (ho : OpR X (compareOp op) r) (ha : PE X a ta) (hb : PE X b tb) (hm : behindInMarks op b = false) : PT X (.Compare a [op] [b] pos) (dTest (tOp r ta tb)) := by
  rw [dTest_eq]; exact pt_cmpR ho ha hb hm
theorem md_val {e : Expr} {t : TE} (h : PE X e t) (he : ∀ whole, isTrue e X.env whole = (do let v ← whole; standAt e.pos; holding [v] (truthy v)) := by intro _; rfl) : PT X e (dTest t) := by
  rw [dTest_eqB]; exact pt_val h he
def dAnd (ta tb : TE) : TE := fun σ H Q => ta σ H fun x H1 => vB x fun c => if c = true then tb σ H1 Q else Q (.bl false) H1
def dOr (ta tb : TE) : TE := fun σ H Q => ta σ H fun x H1 => vB x fun c => if c = true then Q (.bl true) H1 else tb σ H1 Q
def dNot (ta : TE) : TE := fun σ H Q => ta σ H fun x H1 => vB x fun c => Q (.bl (!c)) H1
theorem dAnd_eq : dAnd ta tb = tAndV ta tb := by
  funext σ H Q
  unfold dAnd tAndV
  simp only [vB_iff]
theorem dNot_eq : dNot ta = tNotV ta := by
  funext σ H Q
  unfold dNot tNotV
  simp only [vB_iff]
theorem md_and (ha : PE X a ta) (hb : PE X (.BoolOp .And (b :: rest) pos) tb) : PE X (.BoolOp .And (a :: b :: rest) pos) (dAnd ta tb) := by
  rw [dAnd_eq]; exact pe_and ha hb
theorem md_not (ha : PE X a ta) : PE X (.UnaryOp .Not a pos) (dNot ta) := by
  rw [dNot_eq]; exact pe_not ha
end
def SqA (K : PySem.W.Frag) (H : Hp) (a : Addr) (xs : List V) : Prop := SqL K H a xs ∨ SqT K H a xs
def mIxL (K : PySem.W.Frag) : R2 := fun x y H Q => vR x fun p => vI y fun i => ∃ xs v, SqL K H p xs ∧ atI xs i = some v ∧ Q v H
def mIxT (K : PySem.W.Frag) : R2 := fun x y H Q => vR x fun p => vI y fun i => ∃ xs v, SqT K H p xs ∧ atI xs i = some v ∧ Q v H
def mIxS : R2 := fun x y H Q => vS x fun z => vI y fun i => ∃ c, z.length ≤ sizeLine ∧ atI z.cps.toList i = some c ∧ Q (.str ⟨#[c]⟩) H
theorem z_ixL : IxR X (mIxL X.K) := ix_list.imp fun x y H Q h => by
  obtain ⟨p, rfl, h⟩ := vR.ex h
  obtain ⟨i, rfl, xs, v, h1, h2, h3⟩ := vI.ex h
  exact ⟨_, xs, _, v, rfl, rfl, h1, h2, h3⟩
theorem z_ixT : IxR X (mIxT X.K) := ix_tup.imp fun x y H Q h => by
  obtain ⟨p, rfl, h⟩ := vR.ex h
  obtain ⟨i, rfl, xs, v, h1, h2, h3⟩ := vI.ex h
  exact ⟨_, xs, _, v, rfl, rfl, h1, h2, h3⟩
def mLen (K : PySem.W.Frag) : List V → Hp → VK → Prop := fun xs H Q => l1 xs fun x => vR x fun p => ∃ ys, SqA K H p ys ∧ Q (.int ys.length) H
theorem z_len : CallR X (.builtin "len") (mLen X.K) := call_len_seq.imp fun xs H Q h => by
  obtain ⟨x, rfl, h⟩ := l1.ex h
  obtain ⟨p, rfl, ys, h1, h2⟩ := vR.ex h
  exact ⟨_, ys, rfl, h1, h2⟩
def mLenS : List V → Hp → VK → Prop := fun xs H Q => l1 xs fun x => vS x fun z => z.length ≤ sizeLine ∧ Q (.int z.length) H
def mListOf (K : PySem.W.Frag) : List V → Hp → VK → Prop := fun xs H Q => l1 xs fun x => vR x fun p => ∃ ys, SqA K H p ys ∧ ∀ l, H l = none → Q (.ref l) (upd H l (.lst ys))
theorem z_listOf : CallR X (.type "list") (mListOf X.K) := call_list_of.imp fun xs H Q h => by
  obtain ⟨x, rfl, h⟩ := l1.ex h
  obtain ⟨p, rfl, ys, h1, h2⟩ := vR.ex h
  exact ⟨_, ys, rfl, h1, h2⟩
def mMin2 : List V → Hp → VK → Prop := fun xs H Q => l2 xs fun x y => vI x fun i => vI y fun j => Q (.int (min i j)) H
def mMax2 : List V → Hp → VK → Prop := fun xs H Q => l2 xs fun x y => vI x fun i => vI y fun j => Q (.int (max i j)) H
def isiR (T : String) (f : V → Hp → VK → Prop) : List V → Hp → VK → Prop := fun xs H Q => l2 xs fun x c => c = .ty T ∧ f x H Q
def mIsiInt : V → Hp → VK → Prop := fun x H Q => @V.rec (fun _ => Prop) False (fun _ => Q (.bl true) H) (fun _ => Q (.bl true) H) (fun _ => Q (.bl false) H) (fun _ => False) (fun _ => False) (fun _ => False) (fun _ => False) x
def mIsiBool : V → Hp → VK → Prop := fun x H Q => @V.rec (fun _ => Prop) False (fun _ => Q (.bl true) H) (fun _ => Q (.bl false) H) (fun _ => False) (fun _ => False) (fun _ => False) (fun _ => False) (fun _ => False) x
def mIsiStr : V → Hp → VK → Prop := fun x H Q => @V.rec (fun _ => Prop) False (fun _ => False) (fun _ => Q (.bl false) H) (fun _ => Q (.bl true) H) (fun _ => False) (fun _ => False) (fun _ => False) (fun _ => False) x
def mIsiList : V → Hp → VK → Prop := fun x H Q => @V.rec (fun _ => Prop) False (fun _ => False) (fun _ => Q (.bl false) H) (fun _ => Q (.bl false) H) (fun _ => False) (fun _ => False) (fun p => (∃ xs, H p = some (.lst xs)) ∧ Q (.bl true) H) (fun _ => False) x
def mIsiTuple : V → Hp → VK → Prop := fun x H Q => @V.rec (fun _ => Prop) False (fun _ => False) (fun _ => Q (.bl false) H) (fun _ => False) (fun _ => False) (fun _ => False) (fun p => (∃ xs, H p = some (.tup xs)) ∧ Q (.bl true) H) (fun _ => False) x
end
section
variable {K : PySem.W.Frag}
theorem isi_int_list : PySem.W.kitOne K (.type "int") (.type "list") = some false := by first | rfl | decide +kernel
theorem isi_int_tuple : PySem.W.kitOne K (.type "int") (.type "tuple") = some false := by first | rfl | decide +kernel
theorem isi_str_list : PySem.W.kitOne K (.type "str") (.type "list") = some false := by first | rfl | decide +kernel
theorem isi_str_int : PySem.W.kitOne K (.type "str") (.type "int") = some false := by first | rfl | decide +kernel
end
section
variable {X : Cx}
theorem isi_of {T : String} {f : V → Hp → VK → Prop} (h : ∀ x H Q, f x H Q → ∃ t b, TyOf X.K H x t ∧ PySem.W.kitOne X.K t (.type T) = some b ∧ Q (.bl b) H) : CallR X (.builtin "isinstance") (isiR T f) := call_isi.imp fun xs H Q q => by
  obtain ⟨x, c, rfl, q⟩ := l2.ex q
  obtain ⟨ec, q2⟩ := q
  subst ec
  obtain ⟨t, b, h1, h2, h3⟩ := h x H Q q2
  exact ⟨_, _, _, t, b, rfl, rfl, h1, h2, h3⟩
theorem z_isi_int : CallR X (.builtin "isinstance") (isiR "int" mIsiInt) := isi_of fun x H Q q => by
  cases x with
  | int i => exact ⟨_, _, .int _, isi_int_int, q⟩
  | bl i => exact ⟨_, _, .bl _, isi_bool_int, q⟩
  | str i => exact ⟨_, _, .str _, isi_str_int, q⟩
  | _ => exact q.elim
theorem z_isi_bool : CallR X (.builtin "isinstance") (isiR "bool" mIsiBool) := isi_of fun x H Q q => by
  cases x with
  | int i => exact ⟨_, _, .int _, isi_int_bool, q⟩
  | bl i => exact ⟨_, _, .bl _, isi_bool_bool, q⟩
  | _ => exact q.elim
theorem z_isi_list : CallR X (.builtin "isinstance") (isiR "list" mIsiList) := isi_of fun x H Q q => by
  cases x with
  | int i => exact ⟨_, _, .int _, isi_int_list, q⟩
  | str i => exact ⟨_, _, .str _, isi_str_list, q⟩
  | ref p =>
    obtain ⟨⟨xs, hp⟩, q⟩ := q
    exact ⟨_, _, .lst hp, isi_list_list, q⟩
  | _ => exact q.elim
theorem z_isi_tuple : CallR X (.builtin "isinstance") (isiR "tuple" mIsiTuple) := isi_of fun x H Q q => by
  cases x with
  | int i => exact ⟨_, _, .int _, isi_int_tuple, q⟩
  | ref p =>
    obtain ⟨⟨xs, hp⟩, q⟩ := q
    exact ⟨_, _, .tup hp, isi_tuple_tuple, q⟩
  | _ => exact q.elim
def tCutA (t : TA) : TA := fun σ H Q => ∃ P : List V → Hp → Prop, t σ H P ∧ ∀ x H', P x H' → Q x H'
theorem pa_cut {es : List Expr} {t : TA} (h : PA X es t) : PA X es (tCutA t) := by
  intro pos pins s σ H Q I hw
  obtain ⟨P, h1, h2⟩ := hw
  exact thn (h pos pins s σ H P I h1) fun v s1 ⟨x, H1, I1, r, q⟩ => ⟨x, H1, I1, r, h2 x H1 q⟩
section
variable {o e : Expr} {es : List Expr} {to : TE} {t : TA} {apos cpos : Pos}
def dBl (to : TE) : TE := fun σ H Q => to σ H fun x H1 => vI x fun i => Q (.int ((Builtin.Int.intBits i : Nat) : Int)) H1
def dAppend (K : PySem.W.Frag) (to : TE) (t : TA) : TE := fun σ H Q => to σ H fun x H1 => vR x fun l => (∃ xs, SqL K H1 l xs) ∧ t σ H1 fun vs H2 => l1 vs fun y => ∃ xs, H2 l = some (.lst xs) ∧ xs.length < sizeLine ∧ Q .non (upd H2 l (.lst (xs ++ [y])))
theorem md_append (ho : PE X o to) (ha : PA X [e] t) (hbase : attributeBase o "append" X.env (eval o X.env) = eval o X.env := by rfl)
    (hfew : ((backTo cpos (starEach [e] X.env)).all (fun x => !x.1) && (backToKw cpos (keywordEach [] X.env)).all (fun x => x.1.isSome)
      && decide (([e] : List Expr).length + ([] : List Keyword).length + (if ([] : List Keyword).isEmpty then 0 else 1) < 30)) = true := by rfl)
    (hline : (apos.endLine == cpos.line) = true := by rfl) (hs : starEach [e] X.env = (false, eval e X.env) :: starEach [] X.env := by rfl) (hplain : (backTo cpos (starEach [] X.env)).any (·.1) = false := by rfl) :
    PE X (.Call (.Attribute o "append" apos) [e] [] cpos) (dAppend X.K to t) :=
  (pe_bm PySem.F.plainAttrs_list PySem.F.slot_list_append PySem.F.type_list_append mt_append (pe_cut ho) (pa_cut ha) hbase hfew hline hs hplain).imp fun σ H Q h => ⟨_, h, fun x H1 q => by
    obtain ⟨l, rfl, q1, q2⟩ := vR.ex q
    refine ⟨.inl ⟨rfl, q1⟩, _, q2, fun vs H2 q3 => ?_⟩
    obtain ⟨y, rfl, xs, h1, h2, h3⟩ := l1.ex q3
    exact ⟨l, xs, y, rfl, rfl, h1, h2, h3⟩⟩
def dPop (K : PySem.W.Frag) (to : TE) : TE := fun σ H Q => to σ H fun x H1 => vR x fun l => ∃ xs y, H1 l = some (.lst xs) ∧ xs[xs.length - 1]? = some y ∧ Q y (upd H1 l (.lst xs.dropLast))
def dPart (t : TE) : TO := fun σ H Q => t σ H fun x H1 => vI x fun i => Q (some i) H1
theorem PO.imp {e : Option Expr} {t t' : TO} (h : PO X e t) (i : ∀ σ H Q, t' σ H Q → t σ H Q) : PO X e t' := fun pins s σ H Q I q => h pins s σ H Q I (i σ H Q q)
theorem md_part (h : PE X e to) : PO X (some e) (dPart to) := (po_some (pe_cut h)).imp fun σ H Q q => ⟨_, q, fun x H1 z => vI.ex z⟩
def mSlL (K : PySem.W.Frag) : V → Option Int → Option Int → Hp → VK → Prop := fun x lo hi H Q => vR x fun a => ∃ xs, SqL K H a xs ∧ ∀ p, H p = none → Q (.ref p) (upd H p (.lst (cutV xs lo hi)))
theorem SlR.imp {r r' : V → Option Int → Option Int → Hp → VK → Prop} (h : SlR X r) (i : ∀ x lo hi H Q, r' x lo hi H Q → r x lo hi H Q) : SlR X r' := by
  intro pins s σ H x v vl vu lo hi sl Q I rx hs pl pu q
  exact h pins s σ H x v vl vu lo hi sl Q I rx hs pl pu (i _ _ _ _ _ q)
theorem z_slL : SlR X (mSlL X.K) := sl_list.imp fun x lo hi H Q h => by
  obtain ⟨a, rfl, xs, h1, h2⟩ := vR.ex h
  exact ⟨_, xs, rfl, h1, h2⟩
variable {tg : Expr}
theorem PI.imp {iter : Expr} {w w' : TI} (h : PI X tg iter w) (i : ∀ σ H R, w' σ H R → w σ H R) : PI X tg iter w' := fun pins s σ H R I q => h pins s σ H R I (i σ H R q)
def dList (K : PySem.W.Frag) (tl : TE) : TI := fun σ H R => tl σ H fun x H1 => vR x fun a => (∃ xs, SqL K H1 a xs) ∧ R (Itl K a) H1
def dTupI (K : PySem.W.Frag) (tl : TE) : TI := fun σ H R => tl σ H fun x H1 => vR x fun a => (∃ xs, SqT K H1 a xs) ∧ R (Itt K a) H1
theorem mi_list {l : Expr} {tl : TE} (hl : PE X l tl) : PI X tg l (dList X.K tl) := (pi_list (pe_cut hl)).imp fun σ H R h => ⟨_, h, fun x H1 q => vR.ex q⟩
def dRng1 (ta : TA) : TI := fun σ H R => ta σ H fun vs H1 => l1 vs fun x => vI x fun j => (-(2 ^ 62) ≤ j ∧ j < 2 ^ 62) ∧ R (Itr 0 j.toNat) H1
def dRng2 (ta : TA) : TI := fun σ H R => ta σ H fun vs H1 => l2 vs fun x y => vI x fun i => vI y fun j => (-(2 ^ 62) ≤ i ∧ i < 2 ^ 62 ∧ -(2 ^ 62) ≤ j ∧ j < 2 ^ 62) ∧ R (Itr i (j - i).toNat) H1
theorem mi_range1 {a : Expr} {ta : TA} {p pos : Pos} (hg : Gl X "range") (hm : X.mg "range" = none) (ha : PA X [a] ta) (hs : starEach [a] X.env = [(false, eval a X.env)] := by rfl) : PI X tg (.Call (.Name "range" p) [a] [] pos) (dRng1 ta) :=
  (pi_range1 hg hm (pa_cut ha) hs).imp fun σ H R h => ⟨_, h, fun vs H1 q => by
    obtain ⟨x, rfl, q⟩ := l1.ex q
    obtain ⟨j, rfl, q⟩ := vI.ex q
    exact ⟨j, rfl, q.1.1, q.1.2, q.2⟩⟩
def mSetL : V → V → V → Hp → (Hp → Prop) → Prop := fun o i v H Q => vR o fun p => vI i fun k => ∃ xs j, H p = some (.lst xs) ∧ ixN xs.length k = some j ∧ Q (upd H p (.lst (xs.set j v)))
end
end
end L2
namespace L2
open PySem PySem.Spec PyProof.Rows
section
variable {M : Model} {A : Around} {E : Value → Shared → Prop} {s : Shared} {B : Heap} {env : Env} {outer l : List Env} {L e : Addr} {k a0 fl : Value} {od : Option Addr}
end
end L2
namespace L2
open PySem PySem.Spec PyProof.Rows
def subN (N : List Str) (ix : List Nat) : List Str := ix.map fun i => N.getD i ""
def subS (σ : St) (ix : List Nat) : St := ix.map fun i => σ.getD i none
def compXe (X : Cx) (scope : Scope) (cl : List (Str × Addr)) (C : Addr) : Value → Shared → Prop := notedBy (model X.prog X.w) X.A (compEnvC scope cl C X.env) fun e s' =>
  ∃ m, s'.heap.Ns C m ∧ ∀ h', Heap.SameBut C s'.heap h' → ∀ cenv : Env, cenv.locals = C → wpAny (model X.prog X.w) X.A (PySem.passOn "comprehension.variables-let-go" e cenv : Sem Value) (fun _ _ => False) X.xe { s' with heap := h' }
def cxComp (X : Cx) (scope : Scope) (cl : List (Str × Addr)) (x : Str) (ix : List Nat) (C : Addr) (fp : List Addr) (s₀ : Shared) (H₀ : Hp) : Cx :=
  { X with N := x :: subN X.N ix, s₀ := s₀, H₀ := H₀, env := compEnvC scope cl C X.env, outer := X.stack, ex := fp, fn := fun _ => false, pn := [], xe := compXe X scope cl C }
structure CompScope (X : Cx) (scope : Scope) (cl : List (Str × Addr)) (x : Str) (ix : List Nat) : Prop where
  clos : closureFor scope X.env = pure cl
  kind : scope.kind = .function
  loc : scope.names.lookup x = some .local
  one : ∀ y ∈ scope.names, y.2 = .local → y.1 = x ∨ y.1 = ".0"
  locs : ∀ y ∈ scope.names, y.2 = .local → scope.names.lookup y.1 = some .local
  nocell : ∀ y ∈ scope.names, y.2 ≠ .cell
  free : ∀ y ∈ scope.names, y.2 = .free → (X.env.kindOf y.1 = some .cell ∨ X.env.kindOf y.1 = some .free)
  cells : ∀ y ∈ scope.names, y.2 = .free → ∃ c, cl.lookup y.1 = some c
  same : ∀ y ∈ cl, X.env.cells.lookup y.1 = some y.2
  nd : ((".0" : Str) :: x :: subN X.N ix).Nodup
theorem lookup_mem {α β : Type} [BEq α] [LawfulBEq α] {a : α} {b : β} : ∀ {l : List (α × β)}, l.lookup a = some b → (a, b) ∈ l
  | [], h => by simp at h
  | (c, d) :: r, h => by
    rw [List.lookup_cons] at h
    cases e : a == c with
    | true =>
      rw [e] at h
      cases h
      rw [eq_of_beq e]; exact List.mem_cons_self
    | false =>
      rw [e] at h
      exact List.mem_cons_of_mem _ (lookup_mem h)
theorem kind_relabel {scope : Scope} {env : Env} {y : Str} {k : NameKind} (h : (relabel scope env).names.lookup y = some k) : ∃ k0, scope.names.lookup y = some k0 ∧ (k = k0 ∨ (k0 = .free ∧ k = .cell)) := by
  have gen : ∀ (names : List (Str × NameKind)), (names.map fun (n, k) => if (k == NameKind.free && env.scope.kind == .function && env.kindOf n == some .cell) then (n, NameKind.cell) else (n, k)).lookup y = some k →
      ∃ k0, names.lookup y = some k0 ∧ (k = k0 ∨ (k0 = .free ∧ k = .cell)) := by
    intro names
    induction names with
    | nil => intro h; simp at h
    | cons p r ih =>
      obtain ⟨n, k1⟩ := p
      intro h
      rw [List.map_cons] at h
      dsimp only at h
      cases hc : (k1 == NameKind.free && env.scope.kind == .function && env.kindOf n == some .cell) with
      | true =>
        rw [hc, if_pos rfl, List.lookup_cons] at h
        rw [List.lookup_cons]
        cases e : y == n with
        | true =>
          rw [e] at h
          cases h
          simp only [Bool.and_eq_true] at hc
          exact ⟨k1, rfl, .inr ⟨eq_of_beq hc.1.1, rfl⟩⟩
        | false =>
          rw [e] at h
          exact ih h
      | false =>
        rw [hc, if_neg Bool.false_ne_true, List.lookup_cons] at h
        rw [List.lookup_cons]
        cases e : y == n with
        | true =>
          rw [e] at h
          cases h
          exact ⟨k, rfl, .inl rfl⟩
        | false =>
          rw [e] at h
          exact ih h
  exact gen scope.names h
section
variable {X : Cx} {scope : Scope} {cl : List (Str × Addr)} {x : Str} {ix : List Nat} {C : Addr} {fp : List Addr}
theorem CompScope.look (S : CompScope X scope cl x ix) {y : Str} {c : Addr} (h : cl.lookup y = some c) : X.env.cells.lookup y = some c := S.same _ (lookup_mem h)
theorem CompScope.ok (S : CompScope X scope cl x ix) {pins : List (Addr × Obj)} {σ : St} {H : Hp} {s : Shared} (I : Inv X pins σ H s) (hf : ∀ b ∈ fp, FpOk X pins H b) (hfl : ∀ b ∈ fp, b < s.heap.objs.size) (hC : s.heap.objs.size ≤ C) :
    (cxComp X scope cl x ix C fp s H).Ok where
  mod := I.ok.mod
  kind := S.kind
  glob := I.ok.glob
  blt := I.ok.blt
  above := hC
  inj := fun y z c h1 h2 => I.ok.inj y z c (S.look h1) (S.look h2)
  has := fun y h => by
    have h' : (relabel scope X.env).names.lookup y = some .cell ∨ (relabel scope X.env).names.lookup y = some .free := h
    have fr : scope.names.lookup y = some .free := by
      rcases h' with h' | h'
      · obtain ⟨k0, e, q | q⟩ := kind_relabel h'
        · exact absurd rfl (q ▸ S.nocell _ (lookup_mem e))
        · rw [e, q.1]
      · obtain ⟨k0, e, q | q⟩ := kind_relabel h'
        · rw [e, ← q]
        · cases q.2
    exact S.cells _ (lookup_mem fr) rfl
  cab := fun y c h => absurd h Bool.false_ne_true
  hd := I.ok.hd
  frames := I.ok.frames
  stk := .inl rfl
  exf := fun b hb => ⟨Nat.ne_of_lt (Nat.lt_of_lt_of_le (hfl b hb) hC), fun y c e => (hf b hb).2.2.2.2.1 y c (S.look e)⟩
  bs := I.bs
  bsz := Nat.le_trans I.ok.bsz I.sz
  noex := fun b o e hb => by
    rcases (hf b hb).2.2.2.1 with z | z
    · exact I.ok.noex b o e z
    · exact absurd (Nat.lt_of_lt_of_le (Heap.lt_size e) (Nat.le_trans I.ok.bsz z)) (Nat.lt_irrefl _)
  exfs := fun b hb z => by
    rcases List.mem_cons.mp (I.stkSub b z) with e | e
    · exact (hf b hb).2.1 e
    · exact (hf b hb).2.2.1 e
  funs := I.stack
  frf := I.stkFree
theorem subN_get {N : List Str} {ix : List Nat} {j : Nat} {y : Str} (h : (subN N ix)[j]? = some y) : ∃ i, ix[j]? = some i ∧ y = N.getD i "" := by
  unfold subN at h
  rw [List.getElem?_map] at h
  cases e : ix[j]? with
  | none => rw [e] at h; cases h
  | some i => rw [e] at h; cases h; exact ⟨i, rfl, rfl⟩
theorem subS_get {σ : St} {ix : List Nat} {j : Nat} {v : V} (h : (subS σ ix)[j]? = some (some v)) : ∃ i, ix[j]? = some i ∧ σ[i]? = some (some v) := by
  unfold subS at h
  rw [List.getElem?_map] at h
  cases e : ix[j]? with
  | none => rw [e] at h; cases h
  | some i =>
    rw [e] at h
    have h' : σ.getD i none = some v := by simpa using h
    refine ⟨i, rfl, ?_⟩
    rw [List.getD_eq_getElem?_getD] at h'
    cases e2 : σ[i]? with
    | none => rw [e2] at h'; cases h'
    | some u => rw [e2] at h'; exact congrArg some h'
theorem CompScope.inv (S : CompScope X scope cl x ix) {pins : List (Addr × Obj)} {σ : St} {H : Hp} {s s1 : Shared} {m : Str → Option Value} (I : Inv X pins σ H s) (hf : ∀ b ∈ fp, FpOk X pins H b) (hfl : ∀ b ∈ fp, b < s.heap.objs.size)
    (hC : s.heap.objs.size ≤ C) (os : s1.os = s.os) (bare : AllBare s1.gens) (k : ∀ b o, s.heap.get? b = some o → s1.heap.get? b = some o) (hn : s1.heap.Ns C m) :
    Inv (cxComp X scope cl x ix C fp s H) [] (none :: subS σ ix) H s1 where
  ok := S.ok I hf hfl hC
  os := os
  bare := bare
  base := Un.kept k
  loc := ⟨m, hn, fun i y v h1 h2 h3 => by
    cases i with
    | zero => cases (show none = some v from Option.some.inj h2)
    | succ j =>
      obtain ⟨i, e1, e2⟩ := subN_get (N := X.N) (show (subN X.N ix)[j]? = some y from h1)
      obtain ⟨i', e1', e3⟩ := subS_get (σ := σ) (show (subS σ ix)[j]? = some (some v) from h2)
      rw [e1] at e1'; cases e1'
      have hi : i < X.N.length := by rw [← I.len]; exact (List.getElem?_eq_some_iff.mp e3).1
      have hy : X.N[i]? = some y := by rw [e2, List.getD_eq_getElem?_getD, List.getElem?_eq_getElem hi]; rfl
      have ne : y ≠ x := by
        rintro rfl
        have nd := (List.nodup_cons.mp S.nd).2
        exact (List.nodup_cons.mp nd).1 (List.mem_of_getElem? (show (subN X.N ix)[j]? = some y from h1))
      have h3' : (relabel scope X.env).names.lookup y = some .local ∨ (relabel scope X.env).names.lookup y = some .cell ∨ (relabel scope X.env).names.lookup y = some .free := h3
      have fr : scope.names.lookup y = some .free ∧ ((relabel scope X.env).names.lookup y = some .cell ∨ (relabel scope X.env).names.lookup y = some .free) := by
        rcases h3' with z | z | z
        · obtain ⟨k0, e, q | q⟩ := kind_relabel z
          · rcases S.one _ (lookup_mem e) q.symm with z | z
            · exact absurd z ne
            · have z' : y = ".0" := z
              exact absurd (List.mem_cons_of_mem _ (List.mem_of_getElem? (show (subN X.N ix)[j]? = some y from h1))) (z' ▸ (List.nodup_cons.mp S.nd).1)
          · cases q.2
        · obtain ⟨k0, e, q | q⟩ := kind_relabel z
          · exact absurd rfl (q ▸ S.nocell _ (lookup_mem e))
          · exact ⟨by rw [e, q.1], .inl z⟩
        · obtain ⟨k0, e, q | q⟩ := kind_relabel z
          · exact ⟨by rw [e, ← q], .inr z⟩
          · cases q.2
      have vis := S.free _ (lookup_mem fr.1) rfl
      obtain ⟨m0, _, l0⟩ := I.loc
      obtain ⟨u, r, l⟩ := l0 i y v hy e3 (vis.elim (fun z => .inr (.inl z)) fun z => .inr (.inr z))
      refine ⟨u, r, .inr ⟨fr.2, ?_⟩⟩
      rcases l with ⟨k1, _⟩ | ⟨_, c, ec, oc, hoc, hd⟩
      · rcases vis with z | z
        · have := k1.symm.trans z; cases this
        · have := k1.symm.trans z; cases this
      · obtain ⟨c', e'⟩ := S.cells _ (lookup_mem fr.1) rfl
        have : some c' = some c := (S.look e').symm.trans ec
        cases this
        exact ⟨c, e', oc, k _ _ hoc, hd⟩⟩
  cell := fun y c e => by
    obtain ⟨v, oc, hoc, hd⟩ := I.cell y c (S.look e)
    exact ⟨v, oc, k _ _ hoc, hd⟩
  free := I.hok.fresh hC
  freeC := fun y c e => I.freeC y c (S.look e)
  pin := fun p hp => absurd (show p ∈ ([] : List (Addr × Obj)) from hp) (by simp)
  hok := I.hok.kept k
  len := by show (none :: subS σ ix).length = (x :: subN X.N ix).length; simp [subS, subN]
end
def PTs (X : Cx) (ifs : List Expr) (t : TT) : Prop :=
  ∀ (pins : List (Addr × Obj)) (s : Shared) (σ : St) (H : Hp) (Q : Bool → Hp → Prop), Inv X pins σ H s → t σ H Q →
    wpAny (model X.prog X.w) X.A (forIn ifs true fun c r => if r = true then do let ok ← isTrue c X.env (eval c X.env); pure (ForInStep.yield ok) else pure (ForInStep.yield r)) (TP X pins σ Q) X.xe s
def tYes : TT := fun _ H Q => Q true H
theorem pts_nil {X : Cx} : PTs X [] tYes := fun _ _ _ H _ I h => wpAny_tests_nil ⟨H, I, h⟩
section
variable {prog : Program} {w : World} {A : Around} {R : Result → Shared → Prop} {s : Shared}
theorem compLoop_any {elt target iter : Expr} {ifs : List Expr} {scope : Scope} {pos : Pos} {it acc : Value} {env : Env} (I : Nat → Shared → Prop)
    (turn : ∀ n s, I n s → wpAny (model prog w) A (pyNext it) (fun r s₁ => match r with
      | none => R (.ok .next) s₁
      | some v => wpAny (model prog w) A (letOwnedTupleGo target it v) (fun _ s₀ => wpAny (model prog w) A (assign target env v) (fun _ s₂ =>
          wpAny (model prog w) A (forIn ifs true fun c r => if r = true then do let ok ← isTrue c env (eval c env); pure (ForInStep.yield ok) else pure (ForInStep.yield r)) (fun ok s₃ =>
            if ok = true then wpAny (model prog w) A (eval elt env) (fun x s₄ =>
              wpAny (model prog w) A (call (.builtin "list.append") [acc, x]) (fun _ s₅ => ∃ m, m < n ∧ I m s₅) (notedBy (model prog w) A env fun e s' => R (.error e) s') s₄) (notedBy (model prog w) A env fun e s' => R (.error e) s') s₃
            else ∃ m, m < n ∧ I m s₃) (notedBy (model prog w) A env fun e s' => R (.error e) s') s₂) (notedBy (model prog w) A env fun e s' => R (.error e) s') s₀) (notedBy (model prog w) A env fun e s' => R (.error e) s') s₁) (notedBy (model prog w) A env fun e s' => R (.error e) s') s)
    (n : Nat) (h : I n s) :
    codeAny (model prog w) A (.compLoop (.ListComp elt [⟨target, iter, ifs, 0⟩] scope pos) 0 it acc env) R s := by
  refine codeAny_loop rfl I (fun n s hI => ?_) n h
  show wpAny _ A ((compTurn (.ListComp elt [⟨target, iter, ifs, 0⟩] scope pos) 0 it acc env).onRaise (fun x => do noteFrame x env; theTreesLotGoes x)) _ _ s
  refine wpAny_noted ?_
  rw [compTurn_list]
  refine wpAny_bind (wpAny_standAt (wpAny_bind (wpAny_mono (turn n s hI) (fun r s₁ h₁ => ?_) fun _ _ h' => h')))
  cases r with
  | none => exact wpAny_pure h₁
  | some v =>
    refine wpAny_bind (wpAny_mono h₁ (fun _ s₀ h₀ => ?_) fun _ _ h' => h')
    refine wpAny_bind (wpAny_mono h₀ (fun _ s₂ h₂ => wpAny_bind (wpAny_mono h₂ (fun ok s₃ h₃ => ?_) fun _ _ h' => h')) fun _ _ h' => h')
    cases ok with
    | false => exact wpAny_pure ⟨rfl, h₃⟩
    | true =>
      exact wpAny_bind (wpAny_bind (wpAny_mono h₃ (fun x s₄ h₄ => wpAny_bind (wpAny_mono h₄ (fun _ s₅ h₅ => wpAny_pure (wpAny_pure ⟨rfl, h₅⟩)) fun _ _ h' => h')) fun _ _ h' => h'))
end
def cWord (J : It) (tt : TT) (te : TE) (σc : V → St) (H1 : Hp) (Q : VK) : Prop := ∃ W : Nat → Nat → List V → Hp → Prop, (∃ m, W 0 m [] H1) ∧ ∀ i m ys H, W i m ys H → ys.length < sizeLine ∧
  ((J.stop i H ∧ ∀ p, H p = none → Q (.ref p) (upd H p (.lst ys))) ∨
   (J.go i H ∧ ∃ N : List V → Hp → Prop, (∀ ys' H', N ys' H' → ∃ m', m' < m ∧ W (i + 1) m' ys' H') ∧ ∀ x H', J.yld i H x H' → tt (σc x) H' fun b H3 => if b = true then te (σc x) H3 fun y H4 => N (ys ++ [y]) H4 else N ys H3))
structure CompAt (X : Cx) (C : Addr) (fp : List Addr) (s : Shared) (H : Hp) : Prop where
  inv : ∃ pins σ, Inv X pins σ H s ∧ ∀ b ∈ fp, FpOk X pins H b
  low : ∀ b ∈ fp, b < s.heap.objs.size
  up : s.heap.objs.size ≤ C
def tComp (ix : List Nat) (wi : TI) (tt : TT) (te : TE) : TE := fun σ H Q => wi σ H fun J H1 => cWord J tt te (fun x => some x :: subS σ ix) H1 Q
section
variable {X : Cx} {scope : Scope} {cl : List (Str × Addr)} {x : Str} {ix : List Nat} {elt iter : Expr} {ifs : List Expr} {pos px : Pos} {wi : TI} {tt : TT} {te : TE}
theorem comp_block (S : CompScope X scope cl x ix) (hc : X.calm = true)
    (ht : ∀ C fp s H, CompAt X C fp s H → PTs (cxComp X scope cl x ix C fp s H) ifs tt) (he : ∀ C fp s H, CompAt X C fp s H → PE (cxComp X scope cl x ix C fp s H) elt te)
    {pins : List (Addr × Obj)} {σ : St} {Q : VK} {itv : Value} {s2 : Shared} {E : Value → Shared → Prop} {RR : Value → Addr → Result → Shared → Prop} (h2 : PIE X pins σ (.Name x px) (fun J H1 => cWord J tt te (fun x => some x :: subS σ ix) H1 Q) itv s2)
    (fin : ∀ (D C : Addr) (H : Hp) (s' : Shared) (m : Str → Option Value), Inv X pins σ H s' → s'.heap.Ns C m → H C = none → s2.heap.objs.size ≤ C → (∀ p ∈ X.pn ++ pins, p.1 ≠ C) → X.env.locals ≠ C → (∀ y c, X.env.cells.lookup y = some c → c ≠ C) → X.s₀.heap.objs.size ≤ C → Q (.ref D) H → RR (.ref D) C (.ok .next) s')
    (fex : ∀ (D C : Addr) (e : Value) (s' : Shared), compXe X scope cl C e s' → notedBy (model X.prog X.w) X.A (compEnvC scope cl C X.env) (fun e s' => RR (.ref D) C (.error e) s') e s') :
    wpAny (model X.prog X.w) X.A (newList []) (fun acc s₃ => wpAny (model X.prog X.w) X.A (newFunctionEnv scope X.env.globals cl [] X.env.qual none .none (some X.env)) (fun cenv s₄ =>
      codeAny (model X.prog X.w) X.A (.compStart (.ListComp elt [⟨.Name x px, iter, ifs, 0⟩] scope pos) 0 itv acc { cenv with scope := relabel scope X.env }) (RR acc cenv.locals) s₄) E s₃) E s2 := by
  obtain ⟨it, fp, tn, J, H2, rfl, I2, T, st2, f2, W, ⟨m0, w0⟩, turn⟩ := h2
  have hfl : ∀ b ∈ fp, b < s2.heap.objs.size := fun b hb => by
    obtain ⟨o, e, _⟩ := T.obj _ _ st2 b hb
    exact Heap.lt_size e
  refine wpAny_newObj_type (wpAny_newFunctionEnv S.nocell (by intro y hy; simp at hy) (fun h₁ hns₁ hsb₁ => ?_) S.kind)
  dsimp only at hns₁ hsb₁ ⊢
  generalize hH2 : s2.heap.push { cls := .type "list", dict := none, data := .seq ([] : List Value).toArray } = G2 at hns₁ hsb₁ ⊢
  have hC : G2.objs.size = s2.heap.objs.size + 1 := by rw [← hH2, Heap.size_push]
  have hDC : s2.heap.objs.size ≠ G2.objs.size := by rw [hC]; exact Nat.ne_of_lt (Nat.lt_succ_self _)
  have hCle : s2.heap.objs.size ≤ G2.objs.size := by rw [hC]; exact Nat.le_succ _
  have below : ∀ b, b < s2.heap.objs.size → b ≠ G2.objs.size ∧ b ≠ s2.heap.objs.size := fun b hb => ⟨by rw [hC]; exact Nat.ne_of_lt (Nat.lt_succ_of_lt hb), Nat.ne_of_lt hb⟩
  have at0 : CompAt X G2.objs.size fp s2 H2 := ⟨⟨pins, σ, I2, f2⟩, hfl, hCle⟩
  have old : ∀ b o, s2.heap.get? b = some o → h₁.get? b = some o := fun b o e => hsb₁.extBut b o (below b (Heap.lt_size e)).1 (Heap.get?_push_of_some _ (hH2 ▸ Heap.get?_push_of_some _ e))
  have hacc : h₁.get? s2.heap.objs.size = some { cls := .type "list", data := .seq ([] : List Value).toArray 0 } := hsb₁.extBut _ _ hDC (Heap.get?_push_of_some _ (hH2 ▸ Heap.get?_push_size _ rfl))
  have st1 : tn 0 h₁ := T.keep _ _ _ st2 fun b _ o e => old b o e
  have stat : ∀ {H' : Hp}, (∀ b ∈ fp, H' b = none) → ∀ b ∈ fp, FpOk (cxComp X scope cl x ix G2.objs.size fp s2 H2) [] H' b := fun hn b hb =>
    ⟨hn b hb, (below b (hfl b hb)).1, fun z => by
      rcases List.mem_cons.mp (I2.stkSub b z) with e | e
      · exact (f2 b hb).2.1 e
      · exact (f2 b hb).2.2.1 e, .inl hb, fun y c e => (f2 b hb).2.2.2.2.1 y c (S.look e), fun p hp => absurd (show p ∈ ([] : List (Addr × Obj)) from hp) (by simp)⟩
  have I3 : ∀ s₃ : Shared, s₃ = { s2 with heap := h₁, toks := s2.toks + ([] : List (Str × Value)).length } → Inv (cxComp X scope cl x ix G2.objs.size fp s2 H2) [] (none :: subS σ ix) H2 s₃ := fun s₃ e => by
    subst e
    exact S.inv I2 f2 hfl hCle rfl I2.bare old hns₁
  let Acc : List V → Heap → Prop := fun ys h => ∃ its n, Vals ys its ∧ h.get? s2.heap.objs.size = some { cls := .type "list", data := .seq its.toArray n }
  have loop : ∀ s₃ : Shared, s₃ = { s2 with heap := h₁, toks := s2.toks + ([] : List (Str × Value)).length } →
      codeAny (model X.prog X.w) X.A (.compLoop (.ListComp elt [⟨.Name x px, iter, ifs, 0⟩] scope pos) 0 (.ref it) (.ref s2.heap.objs.size) (compEnvC scope cl G2.objs.size X.env)) (RR (.ref s2.heap.objs.size) G2.objs.size) s₃ := by
    intro s₃ e₃
    refine compLoop_any (fun n s' => ∃ i ys H', Inv (cxComp X scope cl x ix G2.objs.size fp s2 H2) [] (none :: subS σ ix) H' s' ∧ H' s2.heap.objs.size = none ∧ Acc ys s'.heap ∧ tn i s'.heap ∧ (∀ b ∈ fp, H' b = none) ∧ W i n ys H') ?_ m0
      ⟨0, [], H2, I3 s₃ e₃, I2.hok.fresh (Nat.le_refl _), ⟨[], 0, .nil, by rw [e₃]; exact hacc⟩, by rw [e₃]; exact st1, fun b hb => (f2 b hb).1, w0⟩
    rintro n s4 ⟨i, ys, H4, I4, hD4, ⟨its, kk, rv, eD⟩, st4, fr4, w4⟩
    obtain ⟨hsz, q4⟩ := turn i n ys H4 w4
    have hlen := rv.length
    rcases q4 with ⟨stop, qn⟩ | ⟨go, N, hN, step⟩
    · refine wpAny_mono (T.done (cxComp X scope cl x ix G2.objs.size fp s2 H2) rfl rfl rfl hc i [(s2.heap.objs.size, { cls := .type "list", data := .seq its.toArray kk })] s4 (none :: subS σ ix) H4 (fun _ _ => False) ?_ ?_ st4 stop) (fun r s5 ⟨hr, I5⟩ => ?_) fun _ _ z => z.elim
      · refine I4.pins_of fun p hp => ?_
        rw [List.mem_singleton.mp hp]
        exact ⟨eD, hD4, hDC, fun z => by
          have := Heap.FunFrames.mem I2.stack z
          obtain ⟨_, o, ho, _⟩ := this
          exact Nat.lt_irrefl _ (Heap.lt_size ho), fun v z => by cases z⟩
      · intro b hb
        obtain ⟨a1, a2, a3, a4, a5, _⟩ := stat fr4 b hb
        exact ⟨a1, a2, a3, a4, a5, fun p hp => by
          rw [List.mem_singleton.mp hp]
          exact fun z => (below b (hfl b hb)).2 z.symm⟩
      subst hr
      have eD5 := (I5.pin _ (by simp : (s2.heap.objs.size, ({ cls := .type "list", data := .seq its.toArray kk } : Obj)) ∈ (cxComp X scope cl x ix G2.objs.size fp s2 H2).pn ++ [(s2.heap.objs.size, { cls := .type "list", data := .seq its.toArray kk })])).1
      have neD : ∀ b u, H4 b = some u → b ≠ s2.heap.objs.size := fun b u e z => by rw [z, hD4] at e; cases e
      have new : HOk X.prog X.w (upd H4 s2.heap.objs.size (.lst ys)) s5.heap := by
        intro b u e
        by_cases hb : b = s2.heap.objs.size
        · subst hb
          rw [upd_same] at e
          cases e
          exact ⟨Nat.le_of_lt hsz, its, kk, rv, eD5⟩
        · rw [upd_ne hb] at e
          exact (I5.hok b u e).stay (fun c v _ q => q) (fun c q => by rw [upd_ne (neD c _ q)]; exact q) fun c xs q => by rw [upd_ne (neD c _ q)]; exact q
      have un : Un (frs X.stack) fp H2 (upd H4 s2.heap.objs.size (.lst ys)) s2.heap s5.heap := by
        have B := I5.base
        exact ⟨B.keep, B.slot, fun b o e n hx => by rw [upd_ne (below b (Heap.lt_size e)).2]; exact B.free b o e n hx, B.there,
          fun b xs e => by rw [upd_ne (neD b _ (B.tups b xs e))]; exact B.tups b xs e, fun b o u e => by rw [upd_ne (neD b _ (B.frzs b o u e))]; exact B.frzs b o u e,
          fun b ps e => by
            obtain ⟨mm, z⟩ := B.tbls b ps e
            exact ⟨mm, by rw [upd_ne (neD b _ z)]; exact z⟩⟩
      have J5 : Inv X pins σ (upd H4 s2.heap.objs.size (.lst ys)) s5 := I2.call' (ch := fp) I5.os un new I5.bare fun b hb => ⟨(f2 b hb).2.2.2.1, (f2 b hb).2.1, (f2 b hb).2.2.2.2.1, (f2 b hb).2.2.2.2.2⟩
      obtain ⟨mC, hnC, _⟩ := I5.loc
      refine fin _ _ _ _ mC J5 hnC (by rw [upd_ne (Ne.symm hDC)]; exact I5.free) hCle (fun p hp z => ?_) (Nat.ne_of_lt (Nat.lt_of_lt_of_le I2.lt hCle)) (fun y c e z => ?_) (Nat.le_trans I2.sz hCle) (qn _ hD4)
      · exact absurd (Nat.lt_of_lt_of_le (Heap.lt_size (I2.pin p hp).1) hCle) (by rw [z]; exact Nat.lt_irrefl _)
      · obtain ⟨v, oc, hoc, _⟩ := I2.cell y c e
        exact absurd (Nat.lt_of_lt_of_le (Heap.lt_size hoc) hCle) (by rw [z]; exact Nat.lt_irrefl _)
    · have pinD : ∀ {pl : List (Addr × Obj)} {σ' : St} {H' : Hp} {s' : Shared} {its' : List Value} {k' : Nat}, Inv (cxComp X scope cl x ix G2.objs.size fp s2 H2) pl σ' H' s' → s'.heap.get? s2.heap.objs.size = some { cls := .type "list", data := .seq its'.toArray k' } → H' s2.heap.objs.size = none →
          Inv (cxComp X scope cl x ix G2.objs.size fp s2 H2) [(s2.heap.objs.size, { cls := .type "list", data := .seq its'.toArray k' })] σ' H' s' := fun I' e' n' => I'.pins_of fun p hp => by
        rw [List.mem_singleton.mp hp]
        exact ⟨e', n', hDC, fun z => by
          obtain ⟨_, o, ho, _⟩ := Heap.FunFrames.mem I2.stack z
          exact Nat.lt_irrefl _ (Heap.lt_size ho), fun v z => by cases z⟩
      have stat2 : ∀ {H' : Hp}, (∀ b ∈ fp, H' b = none) → ∀ b ∈ fp, FpOk (cxComp X scope cl x ix G2.objs.size fp s2 H2) [(s2.heap.objs.size, { cls := .type "list", data := .seq its.toArray kk })] H' b := fun hn b hb => by
        obtain ⟨a1, a2, a3, a4, a5, _⟩ := stat hn b hb
        exact ⟨a1, a2, a3, a4, a5, fun p hp => by
          rw [List.mem_singleton.mp hp]
          exact fun z => (below b (hfl b hb)).2 z.symm⟩
      refine wpAny_mono (T.item (cxComp X scope cl x ix G2.objs.size fp s2 H2) rfl rfl rfl hc i _ s4 _ H4 (fun _ _ => False) (pinD I4 eD hD4) (stat2 fr4) st4 go) (fun r s5 ⟨u, hr, h5⟩ => ?_) fun _ _ z => z.elim
      subst hr
      refine wpAny_mono h5 (fun _ s6 ⟨y, H6, I6, r6, y6, st6, fr6⟩ => ?_) fun _ _ z => z.elim
      have I6' := I6.pinned (stat2 fr6) (T.obj _ _ st6)
      have hxl : (relabel scope X.env).names.lookup x = some .local := lookup_relabel_local S.loc
      refine wpAny_assign_Name (store_ok (X := cxComp X scope cl x ix G2.objs.size fp s2 H2) (i := 0) I6' (List.nodup_cons.mp S.nd).2 rfl (.inl hxl) r6 (fun s7 I7 => ?_) (.inr hxl))
      have q7 := step y H6 y6
      refine wpAny_mono (ht _ _ _ _ at0 _ s7 (some y :: subS σ ix) H6 _ I7 q7) (fun ok s8 ⟨H8, I8, q8⟩ => ?_) fun _ _ z => fex _ _ _ _ z
      have kept : ∀ {σ9 : St} {H9 : Hp} {s9 : Shared}, Inv (cxComp X scope cl x ix G2.objs.size fp s2 H2) ([(s2.heap.objs.size, { cls := .type "list", data := .seq its.toArray kk })] ++ pinsAt fp s6.heap) σ9 H9 s9 →
          s9.heap.get? s2.heap.objs.size = some { cls := .type "list", data := .seq its.toArray kk } ∧ H9 s2.heap.objs.size = none ∧ tn (i + 1) s9.heap ∧ ∀ b ∈ fp, H9 b = none := fun {σ9 H9 s9} I9 => by
        have p0 := I9.pin (s2.heap.objs.size, { cls := .type "list", data := .seq its.toArray kk }) (List.mem_append_right _ (List.mem_append_left _ (List.mem_singleton.mpr rfl)))
        refine ⟨p0.1, p0.2.1, T.keep _ _ _ st6 fun b hb o e => (I9.pin (b, o) (List.mem_append_right _ (List.mem_append_right _ (mem_pinsAt hb e)))).1, fun b hb => ?_⟩
        obtain ⟨o, e, d⟩ := T.obj _ _ st6 b hb
        exact (I9.pin (b, o) (List.mem_append_right _ (List.mem_append_right _ (mem_pinsAt hb e)))).2.1
      have back : ∀ {pl : List (Addr × Obj)} {H9 : Hp} {s9 : Shared}, Inv (cxComp X scope cl x ix G2.objs.size fp s2 H2) pl (some y :: subS σ ix) H9 s9 → Inv (cxComp X scope cl x ix G2.objs.size fp s2 H2) [] (none :: subS σ ix) H9 s9 := fun {pl H9 s9} I9 =>
        (I9.weak (σ' := none :: subS σ ix) rfl fun j v e => by
          cases j with
          | zero => cases (show none = some v from Option.some.inj e)
          | succ j => exact e).pins_of fun p hp => nomatch hp
      cases ok with
      | true =>
        rw [if_pos rfl] at q8 ⊢
        refine wpAny_mono (he _ _ _ _ at0 _ s8 (some y :: subS σ ix) H8 _ I8 q8) (fun yv s9 ⟨yy, H9, I9, r9, n9⟩ => ?_) fun _ _ z => fex _ _ _ _ z
        obtain ⟨m', hm', w9⟩ := hN _ _ n9
        obtain ⟨kD, kn, kt, kf⟩ := kept I9
        refine append_at (hsz := by rw [List.size_toArray]; omega) kD fun h10 hs10 hD10 => ?_
        have neD : ∀ b u, H9 b = some u → b ≠ s2.heap.objs.size := fun b u e z => by rw [z, kn] at e; cases e
        have I9' := back I9
        have cellne : ∀ y c, cl.lookup y = some c → c ≠ s2.heap.objs.size := fun y c e z => by
          obtain ⟨v, oc, hoc, _⟩ := I2.cell y c (S.look e)
          exact absurd (Heap.lt_size hoc) (by rw [z]; exact Nat.lt_irrefl _)
        have I10 : Inv (cxComp X scope cl x ix G2.objs.size fp s2 H2) [] (none :: subS σ ix) H9 { s9 with heap := h10 } := I9'.turned (t' := s9.toks) (it := s2.heap.objs.size) (fun b o hb e => hs10.extBut b o hb e) kn hDC (.inr (Nat.le_refl _)) cellne fun p hp => absurd (show p ∈ ([] : List (Addr × Obj)) from hp) (by simp)
        refine ⟨m', hm', i + 1, ys ++ [yy], H9, I10, kn, ⟨its ++ [yv], kk + 1, rv.append (.cons r9 .nil), ?_⟩, T.keep _ _ _ kt fun b hb o e => hs10.extBut b o (below b (hfl b hb)).2 e, kf, w9⟩
        refine hD10.trans (congrArg some ?_)
        simp
      | false =>
        rw [if_neg Bool.false_ne_true] at q8 ⊢
        obtain ⟨m', hm', w9⟩ := hN _ _ q8
        obtain ⟨kD, kn, kt, kf⟩ := kept I8
        exact ⟨m', hm', i + 1, ys, H8, back I8, kn, ⟨its, kk, rv, kD⟩, kt, kf, w9⟩
  exact codeAny_compStart_list (loop _ rfl) (T.self _ 0 _ _ _ st1 (loop _ rfl))
def closFrom (env : Env) : List (Str × NameKind) → List (Str × Addr) → List (Str × Addr)
  | [], cs => cs
  | (n, k) :: r, cs => closFrom env r (if k == .free then (n, (env.cells.lookup n).getD 0) :: cs else cs)
theorem clos_eq {env : Env} : ∀ (names : List (Str × NameKind)) (cs : List (Str × Addr)), (∀ y ∈ names, y.2 = .free → ∃ c, env.cells.lookup y.1 = some c) →
    (forIn names cs fun (p : Str × NameKind) (r : List (Str × Addr)) => match p with | (name, kind) => if (kind == .free) = true then do let c ← cellOf env name; pure (ForInStep.yield ((name, c) :: r)) else pure (ForInStep.yield r) : Sem (List (Str × Addr))) = pure (closFrom env names cs)
  | [], cs, _ => rfl
  | (n, k) :: r, cs, h => by
    rw [List.forIn_cons]
    cases hk : k == NameKind.free with
    | true =>
      obtain ⟨c, hc⟩ := h (n, k) List.mem_cons_self (eq_of_beq hk)
      have e1 : cellOf env n = pure c := by unfold cellOf; rw [hc]
      have e2 : closFrom env ((n, k) :: r) cs = closFrom env r ((n, c) :: cs) := by
        show closFrom env r (if (k == .free) = true then (n, (env.cells.lookup n).getD 0) :: cs else cs) = _
        rw [hk, if_pos rfl, hc]; rfl
      rw [e2, ← clos_eq r ((n, c) :: cs) fun y hy => h y (List.mem_cons_of_mem _ hy)]
      dsimp only
      rw [if_pos hk, e1]
      rfl
    | false =>
      have e2 : closFrom env ((n, k) :: r) cs = closFrom env r cs := by
        show closFrom env r (if (k == .free) = true then (n, (env.cells.lookup n).getD 0) :: cs else cs) = _
        rw [hk, if_neg Bool.false_ne_true]
      rw [e2, ← clos_eq r cs fun y hy => h y (List.mem_cons_of_mem _ hy)]
      dsimp only
      rw [if_neg (by rw [hk]; exact Bool.false_ne_true)]
      rfl
theorem closFrom_mem {env : Env} {y : Str × Addr} : ∀ (names : List (Str × NameKind)) (cs : List (Str × Addr)), y ∈ closFrom env names cs → y ∈ cs ∨ ∃ k ∈ names, k.2 = .free ∧ k.1 = y.1 ∧ y.2 = (env.cells.lookup y.1).getD 0
  | [], cs, h => .inl h
  | (n, k) :: r, cs, h => by
    rcases closFrom_mem r _ h with z | ⟨p, hp, e⟩
    · cases hk : k == NameKind.free with
      | true =>
        rw [hk, if_pos rfl] at z
        rcases List.mem_cons.mp z with z | z
        · exact .inr ⟨(n, k), List.mem_cons_self, eq_of_beq hk, by rw [z], by rw [z]⟩
        · exact .inl z
      | false =>
        rw [hk, if_neg Bool.false_ne_true] at z
        exact .inl z
    · exact .inr ⟨p, List.mem_cons_of_mem _ hp, e⟩
theorem lookup_some_of_mem {y : Str} {c : Addr} : ∀ {l : List (Str × Addr)}, (y, c) ∈ l → ∃ d, l.lookup y = some d
  | [], h => by simp at h
  | (n, d) :: r, h => by
    rw [List.lookup_cons]
    cases e : y == n with
    | true => exact ⟨d, rfl⟩
    | false =>
      rcases List.mem_cons.mp h with z | z
      · have : y = n := (Prod.mk.inj z).1
        rw [this, beq_self_eq_true] at e; cases e
      · exact lookup_some_of_mem z
theorem mem_closFrom {env : Env} {y : Str} : ∀ (names : List (Str × NameKind)) (cs : List (Str × Addr)), ((y, NameKind.free) ∈ names ∨ ∃ c, (y, c) ∈ cs) → ∃ c, (y, c) ∈ closFrom env names cs
  | [], cs, h => by
    rcases h with h | h
    · simp at h
    · exact h
  | (n, k) :: r, cs, h => by
    refine mem_closFrom r _ ?_
    rcases h with h | ⟨c, h⟩
    · rcases List.mem_cons.mp h with z | z
      · obtain ⟨e1, e2⟩ := Prod.mk.inj z
        subst e1 e2
        exact .inr ⟨(env.cells.lookup y).getD 0, by rw [if_pos (beq_self_eq_true _)]; exact List.mem_cons_self⟩
      · exact .inl z
    · refine .inr ⟨c, ?_⟩
      split
      · exact List.mem_cons_of_mem _ h
      · exact h
def compOk (scope : Scope) (env : Env) (x : Str) : Bool := scope.names.all fun y => (y.2 != .local || ((y.1 == x || y.1 == ".0") && scope.names.lookup y.1 == some .local)) && y.2 != .cell && (y.2 != .free || env.kindOf y.1 == some .cell || env.kindOf y.1 == some .free)
theorem compScope_of (ok : X.Ok) (hk : scope.kind = .function) (hx : scope.names.lookup x = some .local) (hall : compOk scope X.env x = true) (nd : ((".0" : Str) :: x :: subN X.N ix).Nodup) : CompScope X scope (closFrom X.env scope.names []) x ix := by
  have all : ∀ y ∈ scope.names, (y.2 = .local → (y.1 = x ∨ y.1 = ".0") ∧ scope.names.lookup y.1 = some .local) ∧ y.2 ≠ .cell ∧ (y.2 = .free → (X.env.kindOf y.1 = some .cell ∨ X.env.kindOf y.1 = some .free)) := fun y hy => by
    have z := List.all_eq_true.mp hall y hy
    simp only [Bool.and_eq_true, Bool.or_eq_true, bne_iff_ne, beq_iff_eq, ne_eq] at z
    refine ⟨fun e => z.1.1.resolve_left fun q => q e, z.1.2, fun e => ?_⟩
    rcases z.2 with (q | q) | q
    · exact absurd e q
    · exact .inl q
    · exact .inr q
  have cells : ∀ y ∈ scope.names, y.2 = .free → ∃ c, X.env.cells.lookup y.1 = some c := fun y hy e => ok.has y.1 ((all y hy).2.2 e)
  refine ⟨?_, hk, hx, fun y hy e => ((all y hy).1 e).1, fun y hy e => ((all y hy).1 e).2, fun y hy => (all y hy).2.1, fun y hy => (all y hy).2.2, fun y hy e => ?_, fun y hy => ?_, nd⟩
  · have q := clos_eq scope.names [] cells
    unfold closureFor
    have q2 : (forIn scope.names [] fun (p : Str × NameKind) (r : List (Str × Addr)) => match p with | (name, kind) => if (kind == .free) = true then do let c ← cellOf X.env name; pure (ForInStep.yield ((name, c) :: r)) else pure (ForInStep.yield r) : Sem (List (Str × Addr))) >>= (fun cs => pure cs) = pure (closFrom X.env scope.names []) := by
      rw [q]; rfl
    exact q2
  · obtain ⟨n, k⟩ := y
    have e' : k = .free := e
    subst e'
    obtain ⟨c, hc⟩ := mem_closFrom (env := X.env) scope.names [] (.inl hy)
    exact lookup_some_of_mem hc
  · rcases closFrom_mem scope.names [] hy with z | ⟨p, hp, e1, e2, e3⟩
    · simp at z
    · obtain ⟨c, hc⟩ := cells p hp e1
      rw [e2] at hc
      rw [e3, hc]; rfl
theorem pe_comp (hc : X.calm = true) (hi : PI X (.Name x px) iter wi) (ht : ∀ C fp s H, CompAt X C fp s H → PTs (cxComp X scope (closFrom X.env scope.names []) x ix C fp s H) ifs tt) (he : ∀ C fp s H, CompAt X C fp s H → PE (cxComp X scope (closFrom X.env scope.names []) x ix C fp s H) elt te)
    (hk : scope.kind = .function) (hx : scope.names.lookup x = some .local) (hall : compOk scope X.env x = true) (nd : ((".0" : Str) :: x :: subN X.N ix).Nodup)
    (hs : ∀ x, foldedSetIterable iter X.env x = pure x := by intro _; rfl) : PE X (.ListComp elt [⟨.Name x px, iter, ifs, 0⟩] scope pos) (tComp ix wi tt te) := by
  intro pins s σ H Q I h
  have S : CompScope X scope (closFrom X.env scope.names []) x ix := compScope_of I.ok hk hx hall nd
  rw [eval_ListComp]
  refine wpAny_comprehension_free (use := none) rfl hs S.clos S.kind S.locs (thn (hi pins s σ H _ I h) fun v s1 h1 => thn h1 fun itv s2 h2 => ?_)
  refine comp_block S hc ht he h2 (fun D C H' s' m J hn hCn hCle hp hL hcl hs0 q => ?_) fun D C e s' z => z
  exact ⟨m, hn, fun h' sb => ⟨.ref D, H', J.turned (t' := s'.toks) (fun b o hb e => sb.extBut b o hb e) hCn (Ne.symm hL) (.inr hs0) hcl hp, rfl, q⟩⟩
end
theorem comp_range {lo : Int} {n : Nat} {tt : TT} {te : TE} {σc : V → St} {H : Hp} {Q : VK} (Pv : Nat → List V → Hp → Prop) (hn : ∀ i ys H, i ≤ n → Pv i ys H → ys.length < sizeLine) (h0 : Pv 0 [] H)
    (hs : ∀ i ys H, i < n → Pv i ys H → tt (σc (.int (lo + i))) H fun b H3 => if b = true then te (σc (.int (lo + i))) H3 fun y H4 => Pv (i + 1) (ys ++ [y]) H4 else Pv (i + 1) ys H3)
    (hd : ∀ ys H, Pv n ys H → ∀ p, H p = none → Q (.ref p) (upd H p (.lst ys))) : cWord (Itr lo n) tt te σc H Q := by
  refine ⟨fun i m ys H => m = n - i ∧ i ≤ n ∧ Pv i ys H, ⟨n, by simp, Nat.zero_le _, h0⟩, ?_⟩
  rintro i m ys H ⟨rfl, hi, p⟩
  refine ⟨hn i ys H hi p, ?_⟩
  by_cases hlt : i < n
  · refine .inr ⟨hlt, Pv (i + 1), fun ys' H' q => ⟨n - (i + 1), by omega, rfl, hlt, q⟩, fun x H' y => ?_⟩
    obtain ⟨e, y⟩ := y
    subst e y
    exact hs i ys _ hlt p
  · have e : i = n := by omega
    subst e
    exact .inl ⟨Nat.le_refl _, hd ys H p⟩
theorem comp_list {K : PySem.W.Frag} {a : Addr} {xs : List V} {tt : TT} {te : TE} {σc : V → St} {H : Hp} {Q : VK} (Pv : Nat → List V → Hp → Prop) (hn : ∀ i ys H, i ≤ xs.length → Pv i ys H → ys.length < sizeLine) (h0 : Pv 0 [] H)
    (hl : ∀ i ys H, i ≤ xs.length → Pv i ys H → SqL K H a xs)
    (hs : ∀ i x ys H, xs[i]? = some x → Pv i ys H → tt (σc x) H fun b H3 => if b = true then te (σc x) H3 fun y H4 => Pv (i + 1) (ys ++ [y]) H4 else Pv (i + 1) ys H3)
    (hd : ∀ ys H, Pv xs.length ys H → ∀ p, H p = none → Q (.ref p) (upd H p (.lst ys))) : cWord (Itl K a) tt te σc H Q := by
  refine ⟨fun i m ys H => m = xs.length - i ∧ i ≤ xs.length ∧ Pv i ys H, ⟨xs.length, by simp, Nat.zero_le _, h0⟩, ?_⟩
  rintro i m ys H ⟨rfl, hi, p⟩
  have q := hl i ys H hi p
  refine ⟨hn i ys H hi p, ?_⟩
  by_cases hlt : i < xs.length
  · refine .inr ⟨⟨xs, xs[i], q, by simp [hlt]⟩, Pv (i + 1), fun ys' H' q => ⟨xs.length - (i + 1), by omega, rfl, hlt, q⟩, fun x H' y => ?_⟩
    obtain ⟨e, y⟩ := y
    subst e
    exact hs i x ys _ (y xs q) p
  · have e : i = xs.length := by omega
    subst e
    exact .inl ⟨⟨xs, q, Nat.le_refl _⟩, hd ys H p⟩
end L2
namespace L2
open PySem PySem.Spec PyProof.Rows PySem.W PySem.Builtin PySem.Builtin.ObjectAttr PySem.Builtin.Getset_descriptor
section
variable {prog : Program} {w : World} {A : Around} {E : Value → Shared → Prop} {K : PySem.W.Frag} {a C : Addr}
structure ExcC (K : PySem.W.Frag) (C : Addr) : Prop where
  cd : (PySem.W.clsIn K C).isSome = true
  ga : PySem.W.findIn K (.ref C) "__getattribute__" = some (some (.builtin "BaseException.__getattribute__"))
  hk : PySem.W.findIn K (.ref C) "__getattr__" = some none
  cl : PySem.W.findIn K (.ref C) "__class__" = some (some (.builtin "object.__class__"))
  gt : PySem.W.specialIn K (.builtin "object.__class__") "__get__" = some (some (.builtin "getset_descriptor.__get__"))
  tk : PySem.W.takesIn K (.builtin "object.__class__") = some true
  ob : PySem.W.mroIn K C (.type "object") = some true
  ba : PySem.W.mroIn K C (.type "BaseException") = some true
theorem exc_ty {h : Heap} {o : Obj} (hx : h.get? a = some o) (hc : o.cls = .ref C) (M : Model) : PySem.W.Looks M h (typeOf (.ref a)) (.ref C) := hc ▸ (PySem.W.Looks.ld hx).andThen .now
theorem exc_getter {R : Result → Shared → Prop} {tp : Value} {s : Shared} {o : Obj} (X : K.In s.heap) (hx : s.heap.get? a = some o) (hc : o.cls = .ref C) (hm : PySem.W.mroIn K C (.type "object") = some true)
    (hR : R (.ok (.ret (.ref C))) s) : codeAny (model prog w) A (.call (.builtin "getset_descriptor.__get__") ⟨[.builtin "object.__class__", .ref a, tp], []⟩) R s := by
  obtain ⟨hh, gs, dr, tt, oo⟩ := s
  have L0 := exc_ty hx hc (model prog w)
  have L1 := PySem.W.looks_mroIn (M := model prog w) X hm
  refine codeAny_call_builtin PySem.W.KF.slot_gs.plain PySem.W.KF.entry_gs (PySem.W.KF.slot_gs.check _ _ _ _ _ _ _ _ PySem.W.KF.type_class (PySem.W.KF.args_gs _ _ _) ?_)
  unfold Builtin.«getset_descriptor.__get__» descrGet
  rw [PySem.W.dga_obj]
  apply wpAny_bind
  apply wpAny_pure
  unfold descrGetter descrCheckInstance descrNameAndClass isInstance
  simp only [PySem.W.KF.owner_class]
  repeat lk
  refine ⟨Code.quiet_builtin _ (by decide +kernel), codeAny_builtin PySem.W.KF.entry_class ?_⟩
  unfold Builtin.«object.__class__» shownTypeOf
  repeat lk
  exact hR
theorem exc_find {h : Heap} (T : ExcC K C) (X : K.In h) (M : Model) : PySem.W.Looks M h (find (.ref a) (.ref C) "__class__") (.bind (.builtin "getset_descriptor.__get__") (.builtin "object.__class__")) := by
  have L1 := PySem.W.looks_findIn (M := M) X T.cl
  have L2 : PySem.W.Looks M h (getOf (some (.builtin "object.__class__"))) (some (.builtin "getset_descriptor.__get__")) := PySem.W.looks_specialIn X T.gt
  have L3 := PySem.W.looks_takesIn (M := M) X T.tk
  have L4 : PySem.W.Looks M h (dataDescriptor? (some (.builtin "object.__class__")) (some (.builtin "getset_descriptor.__get__"))) (some (.builtin "getset_descriptor.__get__", .builtin "object.__class__")) := L3.andThen .now
  exact L1.andThen (L2.andThen (L4.andThen (PySem.W.Looks.tag .now)))
theorem exc_class {s : Shared} {o : Obj} {Q : Option Value → Shared → Prop} (T : ExcC K C) (X : K.In s.heap) (hx : s.heap.get? a = some o) (hc : o.cls = .ref C) (hq : Q (some (.ref C)) { s with toks := s.toks + 1 }) :
    wpAny (model prog w) A (getAttr? (.ref a) "__class__") Q E s := by
  obtain ⟨hh, gs, dr, tt, oo⟩ := s
  have L0 := exc_ty hx hc (model prog w)
  have L1 := PySem.W.looks_findIn (M := model prog w) X T.ga
  have L2 := PySem.W.looks_findIn (M := model prog w) X T.hk
  have L3 := exc_find (a := a) T X (model prog w)
  have LB := PySem.W.looks_mroIn (M := model prog w) X T.ba
  unfold getAttr? getAttrBy? getAttrBy
  refine wpAny_bind (wpAny_mkText (wpAny_bind (wpAny_attempt (wpAny_holding (wpAny_bind (L0.at (wpAny_bind (L1.at ?_))))))))
  have ne : (onTheHeap (Value.ref C) && (Value.builtin "BaseException.__getattribute__" == Value.builtin "object.__getattribute__")) = false := by
    have : (Value.builtin "BaseException.__getattribute__" == Value.builtin "object.__getattribute__") = false := by decide +kernel
    rw [this]; exact Bool.and_false _
  dsimp only
  rw [ne, if_neg Bool.false_ne_true]
  unfold getAttrByItsOwn hookBefore
  rw [if_pos (show onTheHeap (Value.ref C) = true from rfl)]
  refine wpAny_bind (L2.at ?_)
  refine wpAny_bind (wpAny_attempt (wpAny_holding ?_))
  show wpAny _ _ (boundAndCalled _ _ _) _ _ _
  unfold boundAndCalled
  refine wpAny_bind (wpAny_of_eq (F.attr_ValueError.ga.bind (.ref a)) ?_)
  refine wpAny_call ?_
  refine codeAny_call_builtin F.attr_ValueError.ga.plain F.entry_bexc_ga ?_
  have hk : builtinKind "BaseException.__getattribute__" = some .slot := by decide +kernel
  have hsplit : splitId "BaseException.__getattribute__" = some ("BaseException", "__getattribute__") := by decide +kernel
  have hargs := F.args_bexc_ga (.ref a) (.str (Str.ofString "__class__") tt)
  simp only [checkBuiltinCall, hk, hsplit]
  refine wpAny_bind ?_
  unfold isInstance
  repeat lk
  refine wpAny_run (exc_getter (K := K) (C := C) X hx hc T.ob ?_)
  repeat lk
  exact hq
theorem kitx_exc (T : ExcC K C) : PySem.W.KitX K (.ref a) (.ref C) (fun h => ∃ o vs, h.get? a = some o ∧ o.cls = .ref C ∧ o.data = .fields vs) where
  ty := fun M h _ p => by
    obtain ⟨o, _, e, c, _⟩ := p
    exact exc_ty e c M
  it := fun _ _ X _ => by
    have hcd := T.cd
    unfold PySem.W.clsIn at hcd
    split at hcd
    · rename_i look
      intro A' Q' E' s' k q
      unfold isType loadHead
      exact wpAny_bind (wpAny_loadPart (k _ _ (X _ _ look)) (wpAny_pure q))
    · cases hcd
  ne := fun h tp dd its n sl X htp => by
    have hcd := T.cd
    refine Bool.eq_false_iff.mpr fun q => ?_
    have e : C = tp := Value.ref.inj (beq_iff_eq.mp q)
    subst e
    unfold PySem.W.clsIn at hcd
    split at hcd
    · rename_i look
      have z := (X _ _ look).symm.trans htp
      cases z
    · cases hcd
  ca := fun X p k => by
    obtain ⟨o, _, e, c, _⟩ := p
    exact exc_class T X e c k
end
section
variable {X : Cx}
theorem call_isiX : CallR X (.builtin "isinstance") (fun xs H Q => ∃ a c cv C b, xs = [.ref a, c] ∧ clsV c = some cv ∧ (∃ od, H a = some (excO (.ref C) a od)) ∧ ExcC X.K C ∧ PySem.W.kitOne X.K (.ref C) cv = some b ∧ Q (.bl b) H) := by
  intro pins s σ H xs us Q I rv h
  obtain ⟨a, c, cv, C, b, rfl, ec, ha, T, e, q⟩ := h
  obtain ⟨u, v, rfl, rx, rc⟩ := rv.two
  cases clsV_is ec rc
  cases (show u = Value.ref a from rx)
  obtain ⟨od, ha⟩ := ha
  obtain ⟨oe, vs, q1, ⟨q2, _⟩, q3⟩ := (show ObjOk X.prog X.w H s.heap a (excO (.ref C) a od) from I.hok a _ ha).1
  have p : ∃ o vs, s.heap.get? a = some o ∧ o.cls = .ref C ∧ o.data = .fields vs := ⟨oe, vs, q1, q2, q3⟩
  exact PySem.W.kia_one (kitx_exc T) I.kIn p e (fun z => nomatch z) fun tk => ⟨.bl b, H, I.tok _, rfl, q⟩
theorem vals_cls : ∀ {cs : List V} {us cvs : List Value}, Vals cs us → cs.map clsV = cvs.map some → us = cvs
  | _, _, [], .nil, _ => rfl
  | _, _, _ :: _, .nil, e => by cases e
  | _, _, [], .cons _ _, e => by cases e
  | _, _, _ :: _, .cons r t, e => by
    rw [List.map_cons, List.map_cons] at e
    injection e with e1 e2
    rw [clsV_is e1 r, vals_cls t e2]
theorem call_isiXT : CallR X (.builtin "isinstance") (fun xs H Q => ∃ a p cs cvs C b, xs = [.ref a, .ref p] ∧ H p = some (.tup cs) ∧ cs.map clsV = cvs.map some ∧ (∃ od, H a = some (excO (.ref C) a od)) ∧ ExcC X.K C ∧ PySem.W.kitAny X.K (.ref C) cvs = some b ∧ Q (.bl b) H) := by
  intro pins s σ H xs us Q I rv h
  obtain ⟨a, p, cs, cvs, C, b, rfl, hp, ec, ha, T, e, q⟩ := h
  obtain ⟨u, v, rfl, rx, rc⟩ := rv.two
  cases (show u = Value.ref a from rx)
  cases (show v = Value.ref p from rc)
  obtain ⟨od, ha⟩ := ha
  obtain ⟨oe, vs, q1, ⟨q2, _⟩, q3⟩ := (show ObjOk X.prog X.w H s.heap a (excO (.ref C) a od) from I.hok a _ ha).1
  have pe : ∃ o vs, s.heap.get? a = some o ∧ o.cls = .ref C ∧ o.data = .fields vs := ⟨oe, vs, q1, q2, q3⟩
  obtain ⟨_, its, ri, ob, eo, oc, n, od⟩ := (show ObjOk X.prog X.w H s.heap p (.tup cs) from I.hok p _ hp)
  obtain ⟨c0, d0, dt, sl⟩ := ob
  cases oc
  cases od
  cases vals_cls ri ec
  exact PySem.W.kia_tup (kitx_exc T) I.kIn pe eo e (fun z => nomatch z) fun tk => ⟨.bl b, H, I.tok _, rfl, q⟩
theorem call_isiXK {K : PySem.W.Frag} (hK : X.K = K := by rfl) : CallR X (.builtin "isinstance") (fun xs H Q => ∃ a c cv C b, xs = [.ref a, c] ∧ clsV c = some cv ∧ (∃ od, H a = some (excO (.ref C) a od)) ∧ ExcC K C ∧ PySem.W.kitOne K (.ref C) cv = some b ∧ Q (.bl b) H) := by
  subst hK
  exact call_isiX
end
end L2
namespace L2
open PySem PySem.Spec PyProof.Rows
mutual
inductive DV (K : PySem.W.Frag) (H : Hp) : V → PyData → Prop
  | non : DV K H .non .none
  | bl (b : Bool) : DV K H (.bl b) (.bool b)
  | int (i : Int) : DV K H (.int i) (.int i)
  | str (x : Str) : DV K H (.str x) (.str x)
  | lst {a : Addr} {xs : List V} {ds : List PyData} : SqL K H a xs → DVs K H xs ds → DV K H (.ref a) (.list ds)
  | tup {a : Addr} {xs : List V} {ds : List PyData} : SqT K H a xs → DVs K H xs ds → DV K H (.ref a) (.tuple ds)
inductive DVs (K : PySem.W.Frag) (H : Hp) : List V → List PyData → Prop
  | nil : DVs K H [] []
  | cons {x : V} {xs : List V} {d : PyData} {ds : List PyData} : DV K H x d → DVs K H xs ds → DVs K H (x :: xs) (d :: ds)
end
section
variable {X : Cx} {pins : List (Addr × Obj)} {σ : St} {H : Hp} {s : Shared}
mutual
theorem Inv.reads (I : Inv X pins σ H s) : ∀ {x : V} {d : PyData} {u : Value}, DV X.K H x d → RelV x u → ∃ as, Reads s.heap u d as
  | _, _, _, .non, r => by cases r; exact ⟨_, Reads.none⟩
  | _, _, _, .bl b, r => by cases r; exact ⟨_, Reads.bool b⟩
  | _, _, _, .int i, r => by obtain ⟨t, rfl⟩ := r; exact ⟨_, Reads.int i t⟩
  | _, _, _, .str x, r => by obtain ⟨t, rfl⟩ := r; exact ⟨_, Reads.str x t⟩
  | _, _, _, .lst h r, rr => by
    cases rr
    obtain ⟨its, rv, ⟨o, n, e, c, _, dt⟩, _⟩ := I.list h
    obtain ⟨as, q⟩ := Inv.readsAll I r rv
    exact ⟨_, reads_list_at e c dt (by simpa using q)⟩
  | _, _, _, .tup h r, rr => by
    cases rr
    obtain ⟨its, rv, ⟨o, e, c, n, dt⟩, _⟩ := I.tuple h
    obtain ⟨as, q⟩ := Inv.readsAll I r rv
    exact ⟨_, reads_tuple_at e c dt (by simpa using q)⟩
theorem Inv.readsAll (I : Inv X pins σ H s) : ∀ {xs : List V} {ds : List PyData} {us : List Value}, DVs X.K H xs ds → Vals xs us → ∃ as, ReadsAll s.heap us ds as
  | _, _, _, .nil, .nil => ⟨_, ReadsAll.nil⟩
  | _, _, _, .cons h r, .cons q p => by
    obtain ⟨as, q1⟩ := Inv.reads I h q
    obtain ⟨bs, q2⟩ := Inv.readsAll I r p
    exact ⟨_, ReadsAll.cons q1 q2⟩
end
end
section
variable {X : Cx}
theorem z_neD (hu : X.A.units + 64 < cLine) : OpR X (compareOp .NotEq) (fun x y H Q => ∃ d e, DV X.K H x d ∧ DV X.K H y e ∧ SeqAt.shaped d = true ∧ SeqAt.shaped e = true ∧ Q (.bl (!PyData.eqv d e)) H) := by
  intro pins s σ H x y v u Q I rx ry h
  obtain ⟨d, e, hd, he, sd, se, q⟩ := h
  obtain ⟨as, ra⟩ := I.reads hd rx
  obtain ⟨bs, rb⟩ := I.reads he ry
  exact ne_dataH ra rb sd se hu ⟨.bl _, H, I, rfl, q⟩
theorem z_neS (hu : X.A.units + 64 < cLine) : OpR X (compareOp .NotEq) (fun x y H Q => ∃ d, DV X.K H x d ∧ DV X.K H y d ∧ SeqAt.shaped d = true ∧ Q (.bl false) H) := (z_neD hu).imp fun x y H Q ⟨d, h1, h2, h3, q⟩ => ⟨d, d, h1, h2, h3, h3, by rw [SeqAt.eqv_refl d (SeqAt.canLay_of_shaped h3)]; exact q⟩
def mEqL (K : PySem.W.Frag) : R2 := fun x y H Q => vR x fun a => vR y fun b => ∃ ns ms : List Int, SqL K H a (ns.map V.int) ∧ SqL K H b (ms.map V.int) ∧ Q (.bl (decide (ns = ms))) H
def mNeL (K : PySem.W.Frag) : R2 := fun x y H Q => vR x fun a => vR y fun b => ∃ ns ms : List Int, SqL K H a (ns.map V.int) ∧ SqL K H b (ms.map V.int) ∧ Q (.bl (!decide (ns = ms))) H
theorem z_eqL (hu : X.A.units + 64 < cLine) : OpR X (compareOp .Eq) (mEqL X.K) := by
  intro pins s σ H x y v u Q I rx ry h
  obtain ⟨a, rfl, hh⟩ := vR.ex h
  clear h
  obtain ⟨b, rfl, ns, ms, h1, h2, q⟩ := vR.ex hh
  cases rx; cases ry
  obtain ⟨its, rv, pl, _⟩ := I.list h1
  obtain ⟨jts, rw', pl', _⟩ := I.list h2
  exact PySem.W.eq_intsK pl.isList (intsAre_of rv) pl'.isList (intsAre_of rw') hu ⟨.bl _, H, I, rfl, q⟩
theorem z_neL (hu : X.A.units + 64 < cLine) : OpR X (compareOp .NotEq) (mNeL X.K) := by
  intro pins s σ H x y v u Q I rx ry h
  obtain ⟨a, rfl, hh⟩ := vR.ex h
  clear h
  obtain ⟨b, rfl, ns, ms, h1, h2, q⟩ := vR.ex hh
  cases rx; cases ry
  obtain ⟨its, rv, pl, _⟩ := I.list h1
  obtain ⟨jts, rw', pl', _⟩ := I.list h2
  exact PySem.W.ne_intsK pl.isList (intsAre_of rv) pl'.isList (intsAre_of rw') hu ⟨.bl _, H, I, rfl, q⟩
end
end L2
namespace L2
open PySem PySem.Spec PyProof.Rows
section
variable {X : Cx}
def mSum (K : PySem.W.Frag) : List V → Hp → VK → Prop := fun xs H Q => l1 xs fun x => vR x fun p => ∃ ns : List Int, SqL K H p (ns.map V.int) ∧ Q (.int ns.sum) H
def mBest (K : PySem.W.Frag) (lt : Int → Int → Prop) : List V → Hp → VK → Prop := fun xs H Q => l1 xs fun x => vR x fun p => ∃ ns : List Int, SqL K H p (ns.map V.int) ∧ ns ≠ [] ∧ ∀ m, m ∈ ns → (∀ z ∈ ns, lt m z) → Q (.int m) H
def mCat : R2 := fun x y H Q => vR x fun l => vR y fun b => ∃ xs zs, H l = some (.lst xs) ∧ H b = some (.lst zs) ∧ xs.length + zs.length ≤ sizeLine ∧ ∀ p, H p = none → Q (.ref p) (upd H p (.lst (xs ++ zs)))
theorem z_cat : OpR X (binaryOp .Add) mCat := op_cat.imp fun x y H Q h => by
  obtain ⟨l, rfl, hh⟩ := vR.ex h
  clear h
  obtain ⟨b, rfl, xs, zs, h1, h2, h3, h4⟩ := vR.ex hh
  exact ⟨l, b, xs, zs, rfl, rfl, h1, h2, h3, h4⟩
end
theorem cut_take (bs : List Int) (a : Nat) : cutV (bs.map V.int) none (some (a : Int)) = (bs.take a).map V.int := by
  unfold cutV
  rw [HT.sIx_nat, HT.sIx_none, List.drop_zero, Nat.sub_zero, List.map_take, List.length_map]
  by_cases h : a ≤ bs.length
  · rw [Nat.min_eq_left h]
  · rw [Nat.min_eq_right (by omega), List.take_of_length_le (by rw [List.length_map]; exact Nat.le_refl _), List.take_of_length_le (by rw [List.length_map]; omega)]
end L2
namespace L2
open PySem PySem.Spec PyProof.Rows
def l3 (vs : List V) (k : V → V → V → Prop) : Prop := @List.rec V (fun _ => Prop) False (fun x r _ => l2 r fun y z => k x y z) vs
def Itrc (lo c : Int) (n : Nat) : It := ⟨fun i _ => i < n, fun i H x H' => H' = H ∧ x = .int (lo + i * c), fun i _ => n ≤ i⟩
section
variable {X : Cx} {tg : Expr}
def dRng3 (ta : TA) : TI := fun σ H R => ta σ H fun vs H1 => l3 vs fun x y z => vI x fun i => vI y fun j => vI z fun c => c ≠ 0 ∧ Builtin.divisionGoesByPylong (j - i) c = false ∧ ∃ n : Nat, Builtin.Range.small i j c = true ∧ Builtin.Range.rangeSize i j c = (n : Int) ∧ R (Itrc i c n) H1
end
section
variable {X : Cx}
def kinds (ns : List Int) : Nat := (firstMet (fun i => ns.getD i 0) ns.length).length
def mSetOf (K : PySem.W.Frag) : List V → Hp → VK → Prop := fun xs H Q => l1 xs fun x => vR x fun p => ∃ ns : List Int, SqL K H p (ns.map V.int) ∧ ns.length ≤ 1000 ∧ ∀ l S, H l = none → Q (.ref l) (upd H l (.set S (kinds ns)))
def mLenSet : List V → Hp → VK → Prop := fun xs H Q => l1 xs fun x => vR x fun p => ∃ S n, H p = some (.set S n) ∧ Q (.int (n : Nat)) H
end
end L2
namespace L2
open PySem PySem.Spec PyProof.Rows
section
variable {X : Cx} {a b c : Expr} {ta tb tc : TE} {pos : Pos}
def dChain (r r' : R2) (ta tb tc : TE) : TE := fun σ H Q => ta σ H fun x H1 => tb σ H1 fun y H2 => r x y H2 fun z H3 => vB z fun k => if k = true then tc σ H3 fun u H4 => r' y u H4 Q else Q (.bl false) H3
theorem dChain_eq (r r' : R2) (ta tb tc : TE) : dChain r r' ta tb tc = tChain r r' ta tb tc := by
  funext σ H Q
  unfold dChain tChain
  simp only [vB_iff]
theorem md_chain {op op' : CmpOp} {r r' : R2} (ho : OpR X (compareOp op) r) (ho' : OpR X (compareOp op') r') (ha : PE X a ta) (hb : PE X b tb) (hc : PE X c tc)
    (hm : lastMarks [op, op'] [b, c] = false := by with_unfolding_all rfl) : PE X (.Compare a [op, op'] [b, c] pos) (dChain r r' ta tb tc) := by
  rw [dChain_eq]; exact pe_chain ho ho' ha hb hc hm
theorem inV_ints (z : Int) : ∀ ns : List Int, inV (.int z) (ns.map V.int) = decide (z ∈ ns) ∧ (ns.map V.int).all flatV = true
  | [] => ⟨rfl, rfl⟩
  | n :: r => by
    have ih := inV_ints z r
    refine ⟨?_, ?_⟩
    · unfold inV at ih ⊢
      rw [List.map_cons, List.any_cons, ih.1]
      show ((n == z) || decide (z ∈ r)) = decide (z ∈ n :: r)
      rw [Bool.eq_iff_iff]
      simp only [Bool.or_eq_true, beq_iff_eq, decide_eq_true_iff, List.mem_cons]
      exact ⟨fun h => h.imp Eq.symm id, fun h => h.imp Eq.symm id⟩
    · rw [List.map_cons, List.all_cons, ih.2]; rfl
def mInI (K : PySem.W.Frag) (f : Bool → Bool) : R2 := fun x y H Q => vI x fun z => vR y fun p => ∃ ns : List Int, SqA K H p (ns.map V.int) ∧ Q (.bl (f (decide (z ∈ ns)))) H
theorem z_notInI : OpR X (compareOp .NotIn) (mInI X.K not) := op_notIn_seq.imp fun x y H Q h => by
  obtain ⟨z, rfl, hh⟩ := vI.ex h
  clear h
  obtain ⟨p, rfl, ns, h1, q⟩ := vR.ex hh
  have e := inV_ints z ns
  exact ⟨p, _, rfl, h1, rfl, e.2, by show Q (.bl (!inV (.int z) (ns.map V.int))) H; rw [e.1]; exact q⟩
end
end L2
namespace L2
open PySem PySem.Spec PyProof.Rows
section
variable {X : Cx} {K : PySem.W.Frag}
theorem z_ixTK (hK : X.K = K := by rfl) : IxR X (mIxT K) := by subst hK; exact z_ixT
theorem z_listOfK (hK : X.K = K := by rfl) : CallR X (.type "list") (mListOf K) := by subst hK; exact z_listOf
end
end L2
namespace L2
open PySem PySem.Spec PyProof.Rows
theorem bt_all : bootBuiltins "all" = some (.builtin "all") := by decide +kernel
section
variable {X : Cx}
def mRep : R2 := fun x y H Q => vR x fun l => vI y fun k => ∃ xs, H l = some (.lst xs) ∧ (-(2 ^ 63) ≤ k ∧ k < 2 ^ 63) ∧ xs.length * k.toNat ≤ sizeLine ∧ ∀ p, H p = none → Q (.ref p) (upd H p (.lst (List.replicate k.toNat xs).flatten))
def mInt : List V → Hp → VK → Prop := fun xs H Q => l1 xs fun x => @V.rec (fun _ => Prop) False (fun b => Q (.int (if b then 1 else 0)) H) (fun i => Q (.int i) H) (fun _ => False) (fun _ => False) (fun _ => False) (fun _ => False) (fun _ => False) x
def mIsB : R2 := fun x y H Q => vB x fun b => vB y fun c => Q (.bl (b == c)) H
theorem z_isB : OpR X (compareOp .Is) mIsB := by
  intro pins s σ H x y v u Q I rx ry h
  obtain ⟨b, rfl, hh⟩ := vB.ex h
  clear h
  obtain ⟨c, rfl, q⟩ := vB.ex hh
  cases rx
  cases ry
  exact is_bool ⟨.bl (b == c), H, I, rfl, q⟩
section
variable {o e : Expr} {es : List Expr} {to : TE} {t : TA} {apos cpos : Pos}
def dExtend (to : TE) (t : TA) : TE := fun σ H Q => to σ H fun x H1 => vR x fun l => (∃ xs, H1 l = some (.lst xs)) ∧ t σ H1 fun vs H2 => l1 vs fun y => vR y fun b => ∃ xs zs, H2 l = some (.lst xs) ∧ H2 b = some (.lst zs) ∧ xs.length + zs.length ≤ sizeLine ∧ Q .non (upd H2 l (.lst (xs ++ zs)))
def dPopAt (to : TE) (t : TA) : TE := fun σ H Q => to σ H fun x H1 => vR x fun l => (∃ xs, H1 l = some (.lst xs)) ∧ t σ H1 fun vs H2 => l1 vs fun y => vI y fun i => ∃ xs k y, H2 l = some (.lst xs) ∧ (-(2 ^ 63) ≤ i ∧ i < 2 ^ 63) ∧ seqIndex? i xs.length = some k ∧ xs[k]? = some y ∧ Q y (upd H2 l (.lst (xs.eraseIdx k)))
theorem md_popAt (ho : PE X o to) (ha : PA X [e] t) (hbase : attributeBase o "pop" X.env (eval o X.env) = eval o X.env := by rfl)
    (hfew : ((backTo cpos (starEach [e] X.env)).all (fun x => !x.1) && (backToKw cpos (keywordEach [] X.env)).all (fun x => x.1.isSome)
      && decide (([e] : List Expr).length + ([] : List Keyword).length + (if ([] : List Keyword).isEmpty then 0 else 1) < 30)) = true := by rfl)
    (hline : (apos.endLine == cpos.line) = true := by rfl) (hs : starEach [e] X.env = (false, eval e X.env) :: starEach [] X.env := by rfl) (hplain : (backTo cpos (starEach [] X.env)).any (·.1) = false := by rfl) :
    PE X (.Call (.Attribute o "pop" apos) [e] [] cpos) (dPopAt to t) :=
  (pe_bm PySem.F.plainAttrs_list PySem.F.slot_list_pop PySem.F.type_list_pop mt_popAt (pe_cut ho) (pa_cut ha) hbase hfew hline hs hplain).imp fun σ H Q h => ⟨_, h, fun x H1 q => by
    obtain ⟨l, rfl, ⟨xs, q1⟩, q2⟩ := vR.ex q
    refine ⟨.inl ⟨rfl, xs, SqL.of q1⟩, _, q2, fun vs H2 q3 => ?_⟩
    obtain ⟨y, rfl, q3⟩ := l1.ex q3
    obtain ⟨i, rfl, xs, k, y, h1, h2, h3, h4, h5⟩ := vI.ex q3
    exact ⟨l, xs, i, k, y, rfl, rfl, h1, h2.1, h2.2, h3, h4, h5⟩⟩
end
theorem vals_bools : ∀ {bs : List Bool} {us : List Value}, Vals (bs.map V.bl) us → us = bs.map Value.bool
  | [], _, .nil => rfl
  | b :: r, _, .cons h t => by
    cases (show _ = Value.bool b from h)
    rw [vals_bools t]; rfl
def mAll (K : PySem.W.Frag) : List V → Hp → VK → Prop := fun xs H Q => l1 xs fun x => vR x fun p => ∃ bs : List Bool, SqL K H p (bs.map V.bl) ∧ Q (.bl (bs.all id)) H
theorem all_range (bs : List Bool) : (List.range bs.length).all (fun i => bs.getD i false) = bs.all id := by
  have e : (List.range bs.length).map (fun i => bs.getD i false) = bs := by
    apply List.ext_getElem
    · simp
    · intro i h1 h2
      simp [List.getD_eq_getElem?_getD, h2]
  conv => rhs; rw [← e, List.all_map]
  rfl
theorem z_all (hc : X.calm = true) : CallR X (.builtin "all") (mAll X.K) := by
  intro pins s σ H xs us Q I r h
  obtain ⟨x, rfl, h⟩ := l1.ex h
  obtain ⟨p, rfl, bs, hS, q⟩ := vR.ex h
  obtain ⟨u, rfl, ru⟩ := vals1 r
  cases ru
  obtain ⟨its, rv, pl, _⟩ := I.list hS
  have ei := vals_bools rv
  subst ei
  have hl := pl.isList
  have hlt : p < s.heap.objs.size := by obtain ⟨_, e, _⟩ := hl; exact Heap.lt_size e
  refine call_all_walk (wpAny_pyIter_list hl ?_)
  refine ⟨_, _, _, _, _, _, fun i => bs.getD i false, rfl, Walks.list (A := X.A.in1) (I.ok.hd hc) _ p (Nat.ne_of_lt hlt) _, ⟨⟨_, Heap.get?_push_size _ rfl, rfl, rfl⟩, hl.push _⟩, ?_, fun h' tk hk => ?_⟩
  · intro i v s' Q' E' hP hq
    have hv : (bs.map Value.bool)[i]? = some v := by simpa using hP
    rw [List.getElem?_map] at hv
    obtain ⟨b, hb, rfl⟩ := Option.map_eq_some_iff.mp hv
    have : bs.getD i false = b := by rw [List.getD_eq_getElem?_getD, hb]; rfl
    simp only [this] at hq
    exact wpAny_truthy_bool hq
  · have e : (bs.map Value.bool).toArray.size = bs.length := by simp
    rw [e, all_range]
    exact ⟨.bl _, H, I.kept (old_kept hk), rfl, q⟩
end
end L2
namespace L2
open PySem PySem.Spec PyProof.Rows
section
variable {X : Cx}
abbrev Cx.pinned (X : Cx) (pins0 : List (Addr × Obj)) : Cx := { X with pn := X.pn ++ pins0 }
abbrev Cx.tried (X : Cx) (pins0 : List (Addr × Obj)) (σ0 : St) (EX : XK) : Cx := (X.pinned pins0).wish fun ev s' => ∃ pins H1 s1, Inv (X.pinned pins0) pins σ0 H1 s1 ∧ CXR X.prog X.w X.stack H1 s1 EX ev s'
theorem Inv.pinUp {pins0 : List (Addr × Obj)} {σ : St} {H : Hp} {s : Shared} (I : Inv X pins0 σ H s) : Inv (X.pinned pins0) [] σ H s :=
  ⟨⟨I.ok.mod, I.ok.kind, I.ok.glob, I.ok.blt, I.ok.above, I.ok.inj, I.ok.has, I.ok.cab, I.ok.hd, I.ok.frames, I.ok.stk, I.ok.exf, I.ok.bs, I.ok.bsz, I.ok.noex, I.ok.exfs, I.ok.funs, I.ok.frf⟩, I.os, I.bare, I.base, I.loc, I.cell, I.free, I.freeC,
    fun p hp => I.pin p (by simpa using hp), I.hok, I.len⟩
theorem Inv.pinDown {pins0 pins : List (Addr × Obj)} {σ : St} {H : Hp} {s : Shared} (I : Inv (X.pinned pins0) pins σ H s) : Inv X pins0 σ H s :=
  ⟨⟨I.ok.mod, I.ok.kind, I.ok.glob, I.ok.blt, I.ok.above, I.ok.inj, I.ok.has, I.ok.cab, I.ok.hd, I.ok.frames, I.ok.stk, I.ok.exf, I.ok.bs, I.ok.bsz, I.ok.noex, I.ok.exfs, I.ok.funs, I.ok.frf⟩, I.os, I.bare, I.base, I.loc, I.cell, I.free, I.freeC,
    fun p hp => I.pin p (List.mem_append_left _ hp), I.hok, I.len⟩
abbrev TH := Ends → St → Value → Option Addr → Hp → Prop
def PH (X : Cx) (hs : List ExceptHandler) (th : TH) : Prop := ∀ (pins : List (Addr × Obj)) (σ : St) (H' : Hp) (s5 : Shared) (a t : Addr) (cls : Value) (od : Option Addr) (B : Heap) (D : Ends),
  (∀ h6, FlyD B X.stack a cls (.ref t) od h6 → s5.heap.UpToSlots h6 → Inv X pins σ (upd H' a (excO cls a od)) { s5 with heap := h6 }) → FlyD B X.stack a cls (.ref t) od s5.heap → H' a = none → th D σ cls od H' →
  wpAny (model X.prog X.w) X.A (handleBy (.ref a) X.env hs) (SP X pins D) X.xe s5
variable {np hpos pos : Pos} {y n : Str} {C : Addr} {i : Nat} {b₀ : Stmt} {suite : List Stmt} {ts : TS} {hs : List ExceptHandler} {th : TH}
def hAs (K : PySem.W.Frag) (C : Addr) (i : Nat) (ts : TS) (th : TH) : TH := fun D σ cls od H' => (PySem.W.exmOne K cls (.ref C) = some true ∧ ∀ a, H' a = none → ts (sufE D i) (σ.set i (some (.ref a))) (upd H' a (excO cls a od))) ∨ (PySem.W.exmOne K cls (.ref C) = some false ∧ th D σ cls od H')
def hNo (K : PySem.W.Frag) (C : Addr) (ts : TS) (th : TH) : TH := fun D σ cls od H' => (PySem.W.exmOne K cls (.ref C) = some true ∧ ∀ a, H' a = none → ts D σ (upd H' a (excO cls a od))) ∨ (PySem.W.exmOne K cls (.ref C) = some false ∧ th D σ cls od H')
def hNil : TH := fun _ _ _ _ _ => False
theorem ph_nil : PH X [] hNil := fun _ _ _ _ _ _ _ _ _ _ _ _ _ z => z.elim
theorem ph_as (hg : Gl X y) (hm : X.mg y = some (.ref C)) (nd : X.N.Nodup) (hi : X.N[i]? = some n) (hl : X.env.scope.names.lookup n = some .local) (hs' : ∀ ev, PSs (X.marked ev) (b₀ :: suite) ts) (hr : PH X hs th)
    (hd : (y == ("__debug__" : Str)) = false := by decide) : PH X (.ExceptHandler (some (.Name y np)) (some n) (b₀ :: suite) hpos :: hs) (hAs X.K C i ts th) := by
  intro pins σ H' s5 a t cls od B D land fl5 new q
  have J5 := land _ fl5 (Heap.UpToSlots.refl _)
  obtain ⟨oe, _, he, hc, _⟩ := fl5.obj
  have LT : ∀ M, PySem.W.Looks M s5.heap (typeOf (.ref a)) cls := fun M => hc ▸ (PySem.W.Looks.ld he).andThen .now
  refine wpAny_handleBy_cons (codeAny_handlers_test (ld_glob (X := X.marked (.ref a)) (J5.marked _) hg hm ?_ hd)) (by intro z; cases z)
  rcases q with ⟨hexm, q⟩ | ⟨hexm, q⟩
  · refine PySem.W.exm_one (K := X.K) J5.kIn (LT _) hexm _ _ _ _ (fun _ _ z => z) ?_
    refine codeAny_handlers_suite_as ?_
    refine landAgainD fl5 fun h6 fl6 sm6 => ?_
    have J6 := land _ fl6 sm6
    refine store_ok (X := X.marked (.ref a)) (J6.marked _) nd hi (.inl hl) (v := .ref a) rfl (fun s7 J7 => ?_) (.inr hl)
    refine wpAny_mono (hs' (.ref a) pins s7 _ _ (sufE D i) J7 (q a new)) (fun f s8 hf => ?_) (fun _ _ z => False.elim z)
    cases f with
    | next => obtain ⟨σ', H8, J8, q8⟩ := hf; exact unbound (J8.unmarked J5.ok) nd hi hl fun s9 J9 => ⟨_, H8, J9, q8⟩
    | brk => obtain ⟨σ', H8, J8, q8⟩ := hf; exact unbound (J8.unmarked J5.ok) nd hi hl fun s9 J9 => ⟨_, H8, J9, q8⟩
    | cont => obtain ⟨σ', H8, J8, q8⟩ := hf; exact unbound (J8.unmarked J5.ok) nd hi hl fun s9 J9 => ⟨_, H8, J9, q8⟩
    | ret u => obtain ⟨v, σ', H8, J8, r8, q8⟩ := hf; exact unbound (J8.unmarked J5.ok) nd hi hl fun s9 J9 => ⟨v, _, H8, J9, r8, q8⟩
  · refine PySem.W.exm_one (K := X.K) J5.kIn (LT _) hexm _ _ _ _ (fun _ _ z => z) ?_
    exact hr pins σ H' s5 a t cls od B D land fl5 new q
def tTryH (tb : St → XK → TS) (th : TH) : TS := fun D σ H => tb σ (fun cls od H1 => th D σ cls od H1) D σ H
theorem ps_tryH {body : List Stmt} {h₀ : ExceptHandler} {tb : St → XK → TS} (hb : ∀ pins0 σ0 EX, PSs (X.tried pins0 σ0 EX) body (tb σ0 EX)) (hh : PH X (h₀ :: hs) th) (hstk : X.stack = X.env :: X.outer) (hfr : X.env.frame = some X.env.locals) :
    PS X (.Try body (h₀ :: hs) [] [] pos) (tTryH tb th) := by
  intro pins s σ H D I hw
  refine wpAny_Try_except ?_
  refine wpAny_mono (hb pins σ _ [] s σ H D (I.pinUp.wish _) hw) (fun f s1 hf => ?_) (fun ev s2 hq => ?_)
  · cases f with
    | next => obtain ⟨σ', H8, J8, q8⟩ := hf; exact wpAny_execs_nil ⟨σ', H8, J8.unwish.pinDown, q8⟩
    | brk => obtain ⟨σ', H8, J8, q8⟩ := hf; exact ⟨σ', H8, J8.unwish.pinDown, q8⟩
    | cont => obtain ⟨σ', H8, J8, q8⟩ := hf; exact ⟨σ', H8, J8.unwish.pinDown, q8⟩
    | ret u => obtain ⟨v, σ', H8, J8, r8, q8⟩ := hf; exact ⟨v, σ', H8, J8.unwish.pinDown, r8, q8⟩
  · obtain ⟨pins1, H1, s1, I1, a, t, cls, od, H', B, rfl, F, q⟩ := hq
    have I1' := I1.pinDown
    have fr : X.A.frames = some (X.env :: X.outer) := by rw [I1'.ok.frames, hstk]
    refine lookOnD fr hfr (hstk ▸ F.fly) fun h4 held4 sm4 => ?_
    refine landD held4 fun h5 fl5 sm5 => ?_
    have fl5' : FlyD B X.stack a cls (.ref t) od h5 := hstk ▸ fl5
    exact hh pins σ H' _ a t cls od B D (fun h6 fl6 sm6 => land (s' := s2) I1' F fl6 ((sm4.trans sm5).trans sm6)) fl5' F.new q
end
end L2
namespace L2
open PySem PySem.Spec PyProof.Rows
section
variable {X : Cx} {o e value : Expr} {es : List Expr} {to ta tv : TE} {t : TA} {apos cpos pos pos' : Pos} {C : Addr} {f m : Str}
def dClear (to : TE) : TE := fun σ H Q => to σ H fun x H1 => vR x fun l => ∃ xs, H1 l = some (.lst xs) ∧ Q .non (upd H1 l (.lst []))
def dFld (C : Addr) (ta : TE) (f : Str) : TE := fun σ H Q => ta σ H fun x H1 => vR x fun a => ∃ dx fs v, H1 a = some (.ins C dx fs) ∧ fs.lookup f = some v ∧ Q v H1
theorem md_fld (c : Cls X.K C) (n : NoAttr X.K C f) (he : PE X e ta) (hb : attributeBase e f X.env (eval e X.env) = eval e X.env := by rfl) : PE X (.Attribute e f pos) (dFld C ta f) :=
  (pe_fld (pe_cut he) hb).imp fun σ H Q h => ⟨_, h, fun x H1 q => by
    obtain ⟨a, rfl, dx, fs, v, h1, h2, h3⟩ := vR.ex q
    exact ⟨a, C, dx, fs, v, rfl, h1, c, n, h2, h3⟩⟩
def dSet (C : Addr) (ta tv : TE) (f : Str) : TS := fun D σ H => tv σ H fun y H1 => ta σ H1 fun x H2 => vR x fun a => ∃ dx fs, H2 a = some (.ins C dx fs) ∧ fs.length < 1000 ∧ D.nx σ (upd H2 a (.ins C dx (putF f y fs)))
theorem md_set (c : Cls X.K C) (n : NoAttr X.K C f) (ha : PE X o ta) (hv : PE X value tv) (hs : swapsWith value (some (.Attribute o f pos')) pos.line X.env = pure false := by rfl) :
    PS X (.Assign [.Attribute o f pos'] value pos) (dSet C ta tv f) :=
  (ps_fld (pe_cut ha) (pe_cut hv) hs).imp fun D σ H h => ⟨_, h, fun y H1 q => ⟨_, q, fun x H2 q2 => by
    obtain ⟨a, rfl, dx, fs, h1, h2, h3⟩ := vR.ex q2
    exact ⟨a, C, dx, fs, rfl, h1, c, n, h2, h3⟩⟩⟩
variable {CX : CXT} {k : Nat} {fa : Addr} {fd : FuncData} {ps : List Str} {sp : Sp} {dvs : List V} {ds : List Value} {E : XK}
def dMeth (C : Addr) (m : Str) (sp : Sp) (dvs : List V) (E : XK) (ta : TE) (t : TA) : TE := fun σ H Q => ta σ H fun x H1 => vR x fun a => (∃ dx fs, H1 a = some (.ins C dx fs) ∧ fs.lookup m = none) ∧ t σ H1 fun vs H2 => sp (.ref a :: (vs ++ dvs)) H2 Q E
theorem md_meth {pl : Sem Bool} (c : Cls X.K C) (hm : Meth X.K C m fa) (F : FnOk X.prog X.w X.K X.mg X.base CX k fa fd ps sp) (hr : Room k X.A) (hb : Binds X.K fd ps ds) (hd : Vals dvs ds) (hx : Passes CX X E) (he : PE X o ta) (ha : PA X (e :: es) t)
    (hst : starEach (e :: es) X.env = (false, eval e X.env) :: starEach es X.env := by rfl) (hpl : (backTo pos (starEach es X.env)).any (·.1) = false := by rfl)
    (ht : eval (.Call (.Attribute o m apos) (e :: es) [] pos) X.env = (do
      let ov ← eval o X.env
      standAt apos.atName
      let (f, first) ← holding [ov] (getMethod ov m pl)
      callWith pos f first (backTo pos (starEach (e :: es) X.env)) (backToKw pos (keywordEach [] X.env))) := by rfl) :
    PE X (.Call (.Attribute o m apos) (e :: es) [] pos) (dMeth C m sp dvs E ta t) :=
  (pe_meth (pl := pl) (pe_cut he) c hm F hr hb hd hx (pa_cut ha) hst hpl ht).imp fun σ H Q h => ⟨_, h, fun x H1 q => by
    obtain ⟨a, rfl, ⟨dx, fs, h1, h2⟩, h3⟩ := vR.ex q
    exact ⟨a, dx, fs, rfl, h1, h2, _, h3, fun vs H2 z => z⟩⟩
theorem md_meth0 {pl : Sem Bool} (c : Cls X.K C) (hm : Meth X.K C m fa) (F : FnOk X.prog X.w X.K X.mg X.base CX k fa fd ps sp) (hr : Room k X.A) (hb : Binds X.K fd ps ds) (hd : Vals dvs ds) (hx : Passes CX X E) (he : PE X o ta)
    (ht : eval (.Call (.Attribute o m apos) [] [] pos) X.env = (do
      let ov ← eval o X.env
      standAt apos.atName
      let (f, first) ← holding [ov] (getMethod ov m pl)
      callWith pos f first (backTo pos (starEach [] X.env)) (backToKw pos (keywordEach [] X.env))) := by rfl) :
    PE X (.Call (.Attribute o m apos) [] [] pos) (dMeth C m sp dvs E ta tNil) :=
  (pe_meth0 (pl := pl) (pe_cut he) c hm F hr hb hd hx ht).imp fun σ H Q h => ⟨_, h, fun x H1 q => by
    obtain ⟨a, rfl, ⟨dx, fs, h1, h2⟩, h3⟩ := vR.ex q
    exact ⟨a, dx, fs, rfl, h1, h2, h3⟩⟩
end
end L2
namespace L2
open PySem PySem.Spec PyProof.Rows
section
variable {X : Cx}
noncomputable def eDat (h : Heap) (d : PyData) : Value → Bool := by
  classical
  exact fun y => if g : ∃ d' as, Reads h y d' as then PyData.eqv g.choose d else false
def mInD (K : PySem.W.Frag) (f : Bool → Bool) : R2 := fun x y H Q => vR y fun p => ∃ d ds xs, DV K H x d ∧ SqL K H p xs ∧ DVs K H xs ds ∧ SeqAt.shaped d = true ∧ (∀ e ∈ ds, SeqAt.shaped e = true) ∧ Q (.bl (f (ds.any fun e => PyData.eqv e d))) H
end
def prD (p : Int × Int) : PyData := .tuple [.int p.1, .int p.2]
inductive PrsQ (K : PySem.W.Frag) (H : Hp) : List Addr → List (Int × Int) → Prop
  | nil : PrsQ K H [] []
  | cons {q : Addr} {p : Int × Int} {qs : List Addr} {ps : List (Int × Int)} : SqT K H q [.int p.1, .int p.2] → PrsQ K H qs ps → PrsQ K H (q :: qs) (p :: ps)
section
variable {X : Cx}
def mInP (K : PySem.W.Frag) (f : Bool → Bool) : R2 := fun x y H Q => vR x fun t => vR y fun l => ∃ (p : Int × Int) (ps : List (Int × Int)) (qs : List Addr), SqT K H t [.int p.1, .int p.2] ∧ SqL K H l (qs.map V.ref) ∧ PrsQ K H qs ps ∧ Q (.bl (f (decide (p ∈ ps)))) H
end
end L2
namespace L2
open PySem
end L2
namespace L2
open PySem
def TupK (K : PySem.W.Frag) (a : Addr) (ns : List Int) : Prop := ∃ (o : Obj) (its : Array Value) (n : Nat), K.lookup a = some o ∧ o.cls = .type "tuple" ∧ o.data = .seq its n ∧ its.size ≤ sizeLine ∧ Vals (ns.map V.int) its.toList
theorem TupK.of {K : PySem.W.Frag} {a : Addr} {od : Option Addr} {sl : Array (Option Value)} {n : Nat} {its : Array Value} {ns : List Int} (h : K.lookup a = some ⟨.type "tuple", od, .seq its n, sl⟩) (hs : its.size ≤ sizeLine) (hv : Vals (ns.map V.int) its.toList) : TupK K a ns := ⟨_, its, n, h, rfl, rfl, hs, hv⟩
theorem TupK.sq {K : PySem.W.Frag} {a : Addr} {ns : List Int} (h : TupK K a ns) (H : Hp) : SqT K H a (ns.map V.int) := .inr h
end L2
namespace L2
open PySem PySem.Spec PyProof.Rows
structure CMeth (K : PySem.W.Frag) (C : Addr) (m : Str) (f : Addr) : Prop where
  ga : PySem.W.specialIn K (.ref C) "__getattribute__" = some (some (.builtin "type.__getattribute__"))
  rd : PySem.W.readsIn K C (.type "type") = true
  at_ : PySem.W.findCls K (.ref C) (.type "type") m = some (.val (.ref f))
  kp : PySem.W.keepIn K (.ref f) = true
section
variable {X : Cx} {o e value : Expr} {es : List Expr} {to ta tv : TE} {t : TA} {apos cpos pos pos' : Pos} {C : Addr} {f m : Str}
variable {CX : CXT} {k : Nat} {fa : Addr} {fd : FuncData} {ps : List Str} {sp : Sp} {dvs : List V} {ds : List Value} {E : XK}
def dMethC (C : Addr) (sp : Sp) (dvs : List V) (E : XK) (ta : TE) (t : TA) : TE := fun σ H Q => ta σ H fun x H1 => x = .ref C ∧ t σ H1 fun vs H2 => sp (vs ++ dvs) H2 Q E
def dFldP (K : PySem.W.Frag) (ta : TE) (f : Str) : TE := fun σ H Q => ta σ H fun x H1 => vR x fun a => ∃ C dx fs v, H1 a = some (.ins C dx fs) ∧ Cls K C ∧ NoAttr K C f ∧ fs.lookup f = some v ∧ Q v H1
def dSetP (K : PySem.W.Frag) (ta tv : TE) (f : Str) : TS := fun D σ H => tv σ H fun y H1 => ta σ H1 fun x H2 => vR x fun a => ∃ C dx fs, H2 a = some (.ins C dx fs) ∧ Cls K C ∧ NoAttr K C f ∧ fs.length < 1000 ∧ D.nx σ (upd H2 a (.ins C dx (putF f y fs)))
def dMethP (K : PySem.W.Frag) (m : Str) (fa : Addr) (sp : Sp) (dvs : List V) (E : XK) (ta : TE) (t : TA) : TE := fun σ H Q => ta σ H fun x H1 => vR x fun a => (∃ C dx fs, H1 a = some (.ins C dx fs) ∧ Cls K C ∧ Meth K C m fa ∧ fs.lookup m = none) ∧ t σ H1 fun vs H2 => sp (.ref a :: (vs ++ dvs)) H2 Q E
end
end L2
namespace L2
open PySem PySem.Spec PyProof.Rows
section
variable {X : Cx} {o e : Expr} {es : List Expr} {ta : TE} {t : TA} {apos pos : Pos} {C : Addr} {m : Str}
variable {k : Nat} {fa : Addr} {fd : FuncData} {ps : List Str} {sp : Sp} {dvs : List V} {ds : List Value}
def dMethT (C : Addr) (m : Str) (sp : Sp) (dvs : List V) (σ0 : St) (EX : XK) (ta : TE) (t : TA) : TE := fun σ H Q => ta σ H fun x H1 => vR x fun a => (∃ dx fs, H1 a = some (.ins C dx fs) ∧ fs.lookup m = none) ∧ t σ H1 fun vs H2 => σ = σ0 ∧ sp (.ref a :: (vs ++ dvs)) H2 Q EX
theorem md_methT {pins0 : List (Addr × Obj)} {σ0 : St} {EX : XK} {pl : Sem Bool} (c : Cls X.K C) (hm : Meth X.K C m fa) (F : FnOk X.prog X.w X.K X.mg X.base (CXR X.prog X.w) k fa fd ps sp) (hr : Room k X.A) (hb : Binds X.K fd ps ds) (hd : Vals dvs ds) (he : PE (X.tried pins0 σ0 EX) o ta) (ha : PA (X.tried pins0 σ0 EX) (e :: es) t)
    (hst : starEach (e :: es) X.env = (false, eval e X.env) :: starEach es X.env := by rfl) (hpl : (backTo pos (starEach es X.env)).any (·.1) = false := by rfl)
    (ht : eval (.Call (.Attribute o m apos) (e :: es) [] pos) X.env = (do
      let ov ← eval o X.env
      standAt apos.atName
      let (f, first) ← holding [ov] (getMethod ov m pl)
      callWith pos f first (backTo pos (starEach (e :: es) X.env)) (backToKw pos (keywordEach [] X.env))) := by rfl) :
    PE (X.tried pins0 σ0 EX) (.Call (.Attribute o m apos) (e :: es) [] pos) (dMethT C m sp dvs σ0 EX ta t) := by
  intro pins s σ H Q I h
  refine PySem.W.methodCall_KW (pl := pl) (thn (he pins s σ H _ I h) fun u s1 ⟨x, H1, I1, rx, q⟩ => ?_) ht
  obtain ⟨a, rfl, ⟨dx, fs, ea, l⟩, q⟩ := vR.ex q
  obtain rfl : u = Value.ref a := rx
  refine getmeth_ok (X := X.tried pins0 σ0 EX) I1 ea c hm l ?_
  refine PySem.W.callWith_K (first := [.ref a]) (h₀ := X.base) I.ok.mod.kin hm.kp (thn (ha pos pins s1 σ H1 _ I1 q) fun us s2 ⟨vs, H2, I2, r, eσ, q2⟩ => ⟨I2.kIn, ?_⟩) hst hpl
  subst eσ
  have r2 : Vals (.ref a :: (vs ++ dvs)) (.ref a :: (us ++ ds)) := .cons rfl (r.append hd)
  have hl : (Value.ref a :: us ++ ds).length = ps.length := by rw [List.cons_append, ← r2.length]; exact F.len _ _ _ _ q2
  refine wpAny_call (codeAny_mono (F.run X.A X.stack s2 H2 ⟨.ref a :: us, []⟩ (.ref a :: (us ++ ds)) (.ref a :: (vs ++ dvs)) Q EX hr I2.env0 (hb s2 (.ref a :: us) I2.kIn hl) r2 q2) fun r s' hq => ?_)
  cases r with
  | error ev => exact ⟨pins, H2, s2, I2.unwish, hq⟩
  | ok fl =>
    cases fl with
    | ret u => exact I2.after hq
    | next => exact False.elim hq
    | brk => exact False.elim hq
    | cont => exact False.elim hq
end
end L2
namespace L2
open PySem PySem.Spec PyProof.Rows
section
variable {X : Cx} {tg : Expr}
def Its (K : PySem.W.Frag) (a : Addr) (J : It) : Prop := J = Itl K a ∨ J = Itt K a
def dSeq (K : PySem.W.Frag) (tl : TE) : TI := fun σ H R => tl σ H fun x H1 => vR x fun a => ((∃ xs, SqL K H1 a xs) ∧ R (Itl K a) H1) ∨ ((∃ xs, SqT K H1 a xs) ∧ R (Itt K a) H1)
theorem mi_seq {l : Expr} {tl : TE} (hl : PE X l tl) : PI X tg l (dSeq X.K tl) := by
  intro pins s σ H R I h
  refine thn (hl pins s σ H _ I h) fun v s1 ⟨x, H1, I1, r1, q1⟩ => ?_
  obtain ⟨a, e, q⟩ := vR.ex q1
  subst e
  cases r1
  rcases q with ⟨⟨xs, hq⟩, q⟩ | ⟨⟨xs, hq⟩, q⟩
  · obtain ⟨its, rv, p, hz⟩ := I1.list hq
    refine wpAny_pyIter_list p.isList ?_
    refine ⟨s1.heap.objs.size, [s1.heap.objs.size], _, _, H1, rfl, I1.kept (t' := s1.toks) fun b o e => Heap.get?_push_of_some _ e, turn_list a _, ⟨_, Heap.get?_push_size _ rfl, rfl, rfl⟩, fun b hb => ?_, q⟩
    have e : b = s1.heap.objs.size := by simpa using hb
    subst e
    exact I1.fpOk (Nat.le_refl _) (I1.hok.fresh (Nat.le_refl _))
  · obtain ⟨its, rv, p, hz⟩ := I1.tuple hq
    refine wpAny_pyIter_tuple (show s1.heap.IsTuple a its.toArray from p) ?_
    refine ⟨s1.heap.objs.size, [s1.heap.objs.size], _, _, H1, rfl, I1.kept (t' := s1.toks) fun b o e => Heap.get?_push_of_some _ e, turn_tuple a _, ⟨_, Heap.get?_push_size _ rfl, rfl, rfl⟩, fun b hb => ?_, q⟩
    have e : b = s1.heap.objs.size := by simpa using hb
    subst e
    exact I1.fpOk (Nat.le_refl _) (I1.hok.fresh (Nat.le_refl _))
end
theorem comp_tup {K : PySem.W.Frag} {a : Addr} {xs : List V} {tt : TT} {te : TE} {σc : V → St} {H : Hp} {Q : VK} (Pv : Nat → List V → Hp → Prop) (hn : ∀ i ys H, i ≤ xs.length → Pv i ys H → ys.length < sizeLine) (h0 : Pv 0 [] H)
    (hl : ∀ i ys H, i ≤ xs.length → Pv i ys H → SqT K H a xs)
    (hs : ∀ i x ys H, xs[i]? = some x → Pv i ys H → tt (σc x) H fun b H3 => if b = true then te (σc x) H3 fun y H4 => Pv (i + 1) (ys ++ [y]) H4 else Pv (i + 1) ys H3)
    (hd : ∀ ys H, Pv xs.length ys H → ∀ p, H p = none → Q (.ref p) (upd H p (.lst ys))) : cWord (Itt K a) tt te σc H Q := by
  refine ⟨fun i m ys H => m = xs.length - i ∧ i ≤ xs.length ∧ Pv i ys H, ⟨xs.length, by simp, Nat.zero_le _, h0⟩, ?_⟩
  rintro i m ys H ⟨rfl, hi, p⟩
  have q := hl i ys H hi p
  refine ⟨hn i ys H hi p, ?_⟩
  by_cases hlt : i < xs.length
  · refine .inr ⟨⟨xs, xs[i], q, by simp [hlt]⟩, Pv (i + 1), fun ys' H' q => ⟨xs.length - (i + 1), by omega, rfl, hlt, q⟩, fun x H' y => ?_⟩
    obtain ⟨e, y⟩ := y
    subst e
    exact hs i x ys _ (y xs q) p
  · have e : i = xs.length := by omega
    subst e
    exact .inl ⟨⟨xs, q, Nat.le_refl _⟩, hd ys H p⟩
theorem comp_seq {K : PySem.W.Frag} {a : Addr} {xs : List V} {tt : TT} {te : TE} {σc : V → St} {H : Hp} {Q : VK} (h : SqA K H a xs) (Pv : Nat → List V → Prop) (hn : ∀ i ys, i ≤ xs.length → Pv i ys → ys.length < sizeLine) (h0 : Pv 0 [])
    (hs : ∀ i x ys, xs[i]? = some x → Pv i ys → tt (σc x) H fun b H3 => if b = true then te (σc x) H3 fun y H4 => Pv (i + 1) (ys ++ [y]) ∧ H4 = H else Pv (i + 1) ys ∧ H3 = H)
    (hd : ∀ ys, Pv xs.length ys → ∀ p, H p = none → Q (.ref p) (upd H p (.lst ys))) : ((∃ xs, SqL K H a xs) ∧ cWord (Itl K a) tt te σc H Q) ∨ ((∃ xs, SqT K H a xs) ∧ cWord (Itt K a) tt te σc H Q) := by
  rcases h with h | h
  · refine .inl ⟨⟨_, h⟩, comp_list (xs := xs) (fun i ys H' => Pv i ys ∧ H' = H) (fun i ys H' hi z => hn i ys hi z.1) ⟨h0, rfl⟩ (fun i ys H' hi z => by rw [z.2]; exact h) ?_ ?_⟩
    · rintro i x ys H' hx ⟨z, rfl⟩
      exact hs i x ys hx z
    · rintro ys H' ⟨z, rfl⟩
      exact hd ys z
  · refine .inr ⟨⟨_, h⟩, comp_tup (xs := xs) (fun i ys H' => Pv i ys ∧ H' = H) (fun i ys H' hi z => hn i ys hi z.1) ⟨h0, rfl⟩ (fun i ys H' hi z => by rw [z.2]; exact h) ?_ ?_⟩
    · rintro i x ys H' hx ⟨z, rfl⟩
      exact hs i x ys hx z
    · rintro ys H' ⟨z, rfl⟩
      exact hd ys z
def MOk (P : Program) (w : World) (K : PySem.W.Frag) (mg : Str → Option Value) (base : Heap) (CX : CXT) (k : Nat) (C : Addr) (m : Str) (sp : Sp) : Prop :=
  ∃ fa fd ps, Cls K C ∧ Meth K C m fa ∧ FnOk P w K mg base CX k fa fd ps sp ∧ Binds K fd ps []
section
variable {X : Cx} {o e value : Expr} {es : List Expr} {to ta tv : TE} {t : TA} {apos cpos pos pos' p : Pos} {C : Addr} {f m x : Str}
variable {CX : CXT} {k : Nat} {fa : Addr} {fd : FuncData} {ps : List Str} {sp : Sp} {dvs : List V} {ds : List Value} {E : XK} {R : Addr → Sp → Prop}
def dMethD (R : Addr → Sp → Prop) (m : Str) (E : XK) (ta : TE) (t : TA) : TE := fun σ H Q => ta σ H fun x H1 => vR x fun a => ∃ C dx fs sp, H1 a = some (.ins C dx fs) ∧ fs.lookup m = none ∧ R C sp ∧ t σ H1 fun vs H2 => sp (.ref a :: vs) H2 Q E
structure MkB (K : PySem.W.Frag) (C : Addr) : Prop where
  makes : PySem.W.makesIn K C = true
  init : PySem.W.findIn K (.ref C) "__init__" = some (some (.builtin "object.__init__"))
  kp : PySem.W.keepIn K (.ref C) = true
def tMakeB (C : Addr) : TE := fun _ H Q => ∀ x dx, H x = none → H dx = none → dx ≠ x → Q (.ref x) (upd (upd H dx (.own x)) x (.ins C dx []))
def dMakeT (C : Addr) (sp : Sp) (dvs : List V) (σ0 : St) (EX : XK) (t : TA) : TE := fun σ H Q => t σ H fun vs H1 => σ = σ0 ∧ ∀ x dx, H1 x = none → H1 dx = none → dx ≠ x → sp (.ref x :: (vs ++ dvs)) (upd (upd H1 dx (.own x)) x (.ins C dx [])) (fun v H2 => v = .non ∧ Q (.ref x) H2) EX
theorem md_makeT {pins0 : List (Addr × Obj)} {σ0 : St} {EX : XK} {f : Addr} (M : Mk X.K C f) (F : FnOk X.prog X.w X.K X.mg X.base (CXR X.prog X.w) k f fd ps sp) (hr : Room (k + 1) X.A) (hg : Gl X x) (hm : X.mg x = some (.ref C)) (hb : Binds X.K fd ps ds) (hd : Vals dvs ds)
    (ha : PA (X.tried pins0 σ0 EX) (e :: es) t) (hdb : (x == ("__debug__" : Str)) = false := by decide) (he : starEach (e :: es) X.env = (false, eval e X.env) :: starEach es X.env := by rfl) (hpl : (backTo pos (starEach es X.env)).any (·.1) = false := by rfl) :
    PE (X.tried pins0 σ0 EX) (.Call (.Name x p) (e :: es) [] pos) (dMakeT C sp dvs σ0 EX t) := by
  intro pins s σ H Q I h
  refine wpAny_Call_Name_kw (ld_glob (X := X.tried pins0 σ0 EX) I hg hm ?_ hdb)
  refine PySem.W.callWith_K (h₀ := X.base) I.ok.mod.kin M.kp (thn (ha pos pins s σ H _ I h) fun us s1 ⟨vs, H1, I1, r, eσ, h1⟩ => ⟨I1.kIn, ?_⟩) he hpl
  subst eσ
  clear h I
  rename Inv _ _ _ H1 s1 => I
  clear s H
  rename Shared => s
  rename Hp => H
  have hq := h1 (s.heap.objs.size + 1) s.heap.objs.size (I.hok.fresh (Nat.le_succ _)) (I.hok.fresh (Nat.le_refl _)) (Nat.ne_of_lt (Nat.lt_succ_self _))
  have I2 := Inv.made (C := C) I
  have r2 : Vals (V.ref (s.heap.objs.size + 1) :: (vs ++ dvs)) (Value.ref (s.heap.objs.size + 1) :: (us ++ ds)) := .cons rfl (r.append hd)
  have hl : (Value.ref (s.heap.objs.size + 1) :: us ++ ds).length = ps.length := by
    have e := r2.length
    rw [F.len _ _ _ _ hq] at e
    exact e.symm
  refine wpAny_call (make_map (f := f) I.kIn M.makes M.init (beq_iff_eq.mp M.fn) (codeAny_mono (F.run _ X.stack _ _ ⟨Value.ref (s.heap.objs.size + 1) :: us, []⟩ (Value.ref (s.heap.objs.size + 1) :: (us ++ ds)) _ _ EX (hr.make C us [])
    (I2.env0.make C us []) (hb _ (Value.ref (s.heap.objs.size + 1) :: us) I2.kIn hl) r2 hq) fun r s' hq' => ?_))
  cases r with
  | error e => exact ⟨pins, _, _, I2.unwish, hq'⟩
  | ok fl =>
    cases fl with
    | ret u =>
      obtain ⟨v, H', I3, rv, ev, q3⟩ := I2.after hq'
      subst ev
      exact ⟨rv, ⟨V.ref (s.heap.objs.size + 1), H', I3, rfl, q3⟩⟩
    | next => exact False.elim hq'
    | brk => exact False.elim hq'
    | cont => exact False.elim hq'
end
end L2
namespace L2
open PySem PySem.Spec PyProof.Rows
section
variable {X : Cx} {o e e2 : Expr} {to : TE} {t : TA} {apos cpos : Pos}
def rInsert : V → List V → Hp → VK → Prop := fun x vs H Q => ∃ (l : Addr) (xs : List V) (k : Nat) (i : Int) (y : V), x = .ref l ∧ vs = [.int i, y] ∧ i = ((k : Nat) : Int) ∧ H l = some (.lst xs) ∧ k ≤ xs.length ∧ xs.length < sizeLine ∧ k < 2 ^ 62 ∧ Q .non (upd H l (.lst (xs.take k ++ y :: xs.drop k)))
theorem fits {i : Int} (k : Nat) (e : i = ((k : Nat) : Int)) (h : k < 2 ^ 62) : ¬ (!Builtin.List.listFitsIndex i) = true := by
  have h2 : i < 2 ^ 63 := by
    have : ((2 ^ 62 : Nat) : Int) = 2 ^ 62 := by decide
    omega
  rw [fitsIndex_both (by omega) h2]
  decide
theorem mt_insert : MtM X "list.insert" rInsert := by
  intro pins s σ H x vs v us Q I rx rv h
  obtain ⟨l, xs, k, i, y, rfl, rfl, hi, hH, hk, hz, hbig, q⟩ := h
  cases rx
  obtain ⟨u0, u, rfl, r1, ru⟩ := rv.two
  obtain ⟨t, rfl⟩ := r1
  obtain ⟨z, its, n, r, hl, e⟩ := I.lstM hH
  have hs : its.toArray.size ≤ sizeLine := by rw [List.size_toArray, ← hl]; exact Nat.le_of_lt hz
  have hf := fits k hi hbig
  have hm := AutoSeq1.list_insert_list_int_val_1 l its.toArray n i t u hf hs
  refine call_meets F.slot_list_insert ⟨_, e, rfl⟩ F.entry_list_insert (F.args_list_insert_3 _ _ _) hm ⟨e, ?_⟩
  have hki : k ≤ its.length := by omega
  refine ⟨.non, _, I.lset (its' := its.take k ++ u :: its.drop k) hH e ?_ ?_ ?_, rfl, q⟩
  · show (its.toArray.extract 0 (if i < 0 then (i + (its.toArray.size : Int)).toNat else min i.toNat its.toArray.size)).push u ++ its.toArray.extract (if i < 0 then (i + (its.toArray.size : Int)).toNat else min i.toNat its.toArray.size) = (its.take k ++ u :: its.drop k).toArray
    have hik : i.toNat = k := by omega
    rw [if_neg (by omega), hik, List.size_toArray, Nat.min_eq_left hki]
    apply Array.toList_inj.mp
    simp [List.take_of_length_le]
  · exact (r.take k).append (.cons ru (r.drop k))
  · rw [List.length_append, List.length_cons, List.length_take, List.length_drop]
    omega
def dInsert (K : PySem.W.Frag) (to : TE) (t : TA) : TE := fun σ H Q => to σ H fun x H1 => vR x fun l => (∃ xs, SqL K H1 l xs) ∧ t σ H1 fun vs H2 => l2 vs fun a y => ∃ (k : Nat) (xs : List V), a = .int ((k : Nat) : Int) ∧ H2 l = some (.lst xs) ∧ k ≤ xs.length ∧ xs.length < sizeLine ∧ k < 2 ^ 62 ∧ Q .non (upd H2 l (.lst (xs.take k ++ y :: xs.drop k)))
theorem md_insert (ho : PE X o to) (ha : PA X [e, e2] t) (hbase : attributeBase o "insert" X.env (eval o X.env) = eval o X.env := by rfl)
    (hfew : ((backTo cpos (starEach [e, e2] X.env)).all (fun x => !x.1) && (backToKw cpos (keywordEach [] X.env)).all (fun x => x.1.isSome)
      && decide (([e, e2] : List Expr).length + ([] : List Keyword).length + (if ([] : List Keyword).isEmpty then 0 else 1) < 30)) = true := by rfl)
    (hline : (apos.endLine == cpos.line) = true := by rfl) (hs : starEach [e, e2] X.env = (false, eval e X.env) :: starEach [e2] X.env := by rfl) (hplain : (backTo cpos (starEach [e2] X.env)).any (·.1) = false := by rfl) :
    PE X (.Call (.Attribute o "insert" apos) [e, e2] [] cpos) (dInsert X.K to t) :=
  (pe_bm PySem.F.plainAttrs_list PySem.F.slot_list_insert PySem.F.type_list_insert mt_insert (pe_cut ho) (pa_cut ha) hbase hfew hline hs hplain).imp fun σ H Q h => ⟨_, h, fun x H1 q => by
    obtain ⟨l, rfl, q1, q2⟩ := vR.ex q
    refine ⟨.inl ⟨rfl, q1⟩, _, q2, fun vs H2 q3 => ?_⟩
    obtain ⟨a, y, rfl, k, xs, rfl, h1, h2, h3, h4, h5⟩ := l2.ex q3
    exact ⟨l, xs, k, _, y, rfl, rfl, rfl, h1, h2, h3, h4, h5⟩⟩
end
end L2
namespace Bm
def bitI (n j : Nat) : Int := if n.testBit j then 1 else 0
def bitsI (n m : Nat) : List Int := (List.range m).map fun i => bitI n (m - 1 - i)
def numI (bs : List Int) : Int := bs.foldl (fun x b => x * 2 + b) 0
def Bits (bs : List Int) : Prop := ∀ b ∈ bs, b = 0 ∨ b = 1
def left (n m k : Nat) : Int := ((n / 2 ^ (m - k) * 2 ^ (m - k) : Nat) : Int)
end Bm
namespace Rn
open Bm
def flip (l : List Int) (p : Int) : List Int := l.set p.toNat (1 - l.getD p.toNat 0)
def flips (l : List Int) (ps : List Int) : List Int := ps.foldl flip l
def Win (l : List Int) (a n : Nat) : Prop := a + n ≤ l.length ∧ ∀ i j, a ≤ i → i < a + n → a ≤ j → j < a + n → l.getD i 0 = l.getD j 0
structure Walked (l : List Int) (k : Nat) (longest run : Nat) : Prop where
  le : longest ≤ k
  rle : run ≤ k
  rpos : 0 < k → 0 < run
  hit : ∃ a, a + longest ≤ k ∧ Win l a longest
  most : ∀ a n, a + n ≤ k → Win l a n → n ≤ longest
  tail : Win l (k - run) run
  tmost : ∀ n, n ≤ k → Win l (k - n) n → n ≤ run
end Rn
namespace Cl
def xs : Nat → (Nat → Nat) → Nat
  | 0, _ => 0
  | n + 1, f => xs n f ^^^ f n
theorem xs_congr {n : Nat} {f g : Nat → Nat} (h : ∀ k, k < n → f k = g k) : xs n f = xs n g := by
  induction n with
  | zero => rfl
  | succ n ih =>
    show xs n f ^^^ f n = xs n g ^^^ g n
    rw [ih (fun k hk => h k (by omega)), h n (by omega)]
def pw (a b k : Nat) : Nat := if b.testBit k then a <<< k else 0
def cl (n a b : Nat) : Nat := xs n (pw a b)
theorem self {n : Nat} : ∀ {a : Nat}, a < 2 ^ n → a = xs n (fun j => if a.testBit j then 1 <<< j else 0) := by
  induction n with
  | zero => intro a h; have : a = 0 := by simpa using h
            subst this; rfl
  | succ n ih =>
    intro a h
    show a = xs n (fun j => if a.testBit j then 1 <<< j else 0) ^^^ (if a.testBit n then 1 <<< n else 0)
    have hlow : a % 2 ^ n < 2 ^ n := Nat.mod_lt _ (Nat.two_pow_pos n)
    have e1 : xs n (fun j => if a.testBit j then 1 <<< j else 0) = xs n (fun j => if (a % 2 ^ n).testBit j then 1 <<< j else 0) := by
      refine xs_congr fun k hk => ?_
      rw [Nat.testBit_mod_two_pow]
      simp [hk]
    rw [e1, ← ih hlow]
    apply Nat.eq_of_testBit_eq
    intro i
    rw [Nat.testBit_xor, Nat.testBit_mod_two_pow]
    by_cases hi : i < n
    · have e2 : (if a.testBit n = true then 1 <<< n else 0).testBit i = false := by
        split
        · rw [Nat.testBit_shiftLeft]; simp; omega
        · simp
      rw [e2]; simp [hi]
    · by_cases hin : i = n
      · subst hin
        cases hb : a.testBit i with
        | true => simp [Nat.testBit_shiftLeft]
        | false => simp
      · have hgt : a.testBit i = false := Nat.testBit_lt_two_pow (Nat.lt_of_lt_of_le h (Nat.pow_le_pow_right (by decide) (by omega)))
        have e2 : (if a.testBit n = true then 1 <<< n else 0).testBit i = false := by
          split
          · rw [Nat.testBit_shiftLeft]
            have h1 : (1 : Nat).testBit (i - n) = false := Nat.testBit_lt_two_pow (Nat.lt_of_lt_of_le (by decide : 1 < 2 ^ 1) (Nat.pow_le_pow_right (by decide) (by omega)))
            rw [h1, Bool.and_false]
          · simp
        rw [e2, hgt]; simp [hi]
end Cl
namespace Rm
open Bm
def nx (r : Nat) : Nat := if 32768 ≤ 2 * r then (2 * r) ^^^ 64647 else 2 * r
def rr : Nat → Nat
  | 0 => 1
  | k + 1 => nx (rr k)
def tm (n k : Nat) : Nat := if n.testBit k then rr k else 0
def R (n : Nat) : Nat := Cl.xs 600 (tm n)
def nm (bs : List Int) : Nat := (numI bs).toNat
def rst (bs : List Int) : Nat := R (nm bs)
end Rm
namespace Rm
open Bm
def tab : List Nat := [1, 2, 4, 8, 16, 32, 64, 128, 256, 512, 1024, 2048, 4096, 8192, 16384, 31879, 1417, 2834, 5668, 11336, 22672, 19879, 26569, 13077, 26154, 12499, 24998, 16331, 32662, 939, 1878, 3756, 7512, 15024, 30048, 5703, 11406, 22812, 20159, 25081, 16245, 32490, 339, 678, 1356, 2712, 5424, 10848, 21696, 21767, 22153, 20885, 24493, 17373, 31549, 2813, 5626, 11252, 22504, 21335, 23081, 18645, 27949, 9949, 19898, 26611, 13153, 26306, 12547, 25094, 14475, 28950, 7851, 15702, 31404, 2527, 5054, 10108, 20216, 24951, 15977, 31954, 1315, 2630, 5260, 10520, 21040, 22759, 19785, 26133, 12461, 24922, 15923, 31846, 1099, 2198, 4396, 8792, 17584, 30183, 5961, 11922, 23844, 18127, 28953, 7861, 15722, 31444, 2351, 4702, 9404, 18808, 28279, 8297, 16594, 32035, 1729, 3458, 6916, 13832, 27664, 9383, 18766, 28187, 8369, 16738, 32323]
def prs : List Nat → List Nat
  | [] => []
  | x :: r => r.map (fun y => x ^^^ y) ++ prs r
def chk : List Nat → Nat → Bool
  | [], _ => true
  | x :: r, 0 => chk r (1 <<< x)
  | x :: r, k + 1 => if (k + 1).testBit x then false else chk r ((k + 1) ||| 1 <<< x)
def par (n : Nat) : Bool := (List.range 15).foldl (fun z k => z ^^ n.testBit k) false
def sm (ps : List Nat) : Nat := ps.foldl (fun t p => t ^^^ rr p) 0
def stp (r : Nat) (b : Int) : Nat := nx r ^^^ b.toNat
def nxn : Nat → Nat → Nat
  | 0, d => d
  | n + 1, d => nxn n (nx d)
end Rm
namespace Wm
open Bm Rn
abbrev S := Option Int × Nat
def skp (s : S) (b : Int) : S := (some b, if s.1 = some b then s.2 + 1 else 1)
def sk (w : List Int) : S := w.foldl skp (none, 0)
def run (w : List Int) : Nat := (sk w).2
def pst (w : List Int) (b : Int) : List Int := if run (w ++ [b]) = 5 then w ++ [b] ++ [1 - b] else w ++ [b]
def put (l : List Int) : List Int := l.foldl pst []
def kst (s : S × List Int) (b : Int) : S × List Int := (skp s.1 b, if s.1.2 = 5 then s.2 else s.2 ++ [b])
def kp (w : List Int) : List Int := (w.foldl kst ((none, 0), [])).2
def Good (w : List Int) : Prop := ∀ k, k ≤ w.length → run (w.take k) ≤ 5
end Wm
namespace Rm
open Bm
def zs (n : Nat) : List Int := List.replicate n 0
def ckn (bs : List Int) : Nat := rst (bs ++ zs 15)
def ck (bs : List Int) : List Int := bitsI (ckn bs) 15
end Rm
namespace Wm
open L2 Bm Rn
end Wm
namespace Hd
open PySem PyProof.Rows
open PySem.W PySem.Calls
theorem end0 (t : Thread) : (endAt 0 t).isSome = through t := by
  obtain ⟨cur, code, pos, st⟩ := t
  cases st with
  | nil => cases cur with
    | pure f => cases f <;> rfl
    | _ => rfl
  | cons a l => cases cur <;> rfl
theorem top_of_seg {tb : String → Option Builtin} {p : Program} {w : World} {m : Nat} {ann : Option Value} : ∀ {n : Nat} {s s' : Shared} {t : Thread} {f : Flow} {c : Code} {x : Pos},
    segRun tb p w m ann 0 n s t = some (f, s', c, x) → topRun tb p w m ann n s t = some s'
  | 0, _, _, _, _, _, _, h => by simp [segRun] at h
  | n + 1, s, s', t, f, c, x, h => by
    unfold segRun at h
    unfold topRun
    rw [← end0 t]
    cases he : endAt 0 t with
    | some g => rw [he] at h; cases h; rfl
    | none =>
      rw [he] at h
      dsimp only [Option.isSome] at h ⊢
      cases k : stepOk m ann t with
      | false => rw [k] at h; cases h
      | true =>
        rw [k] at h
        dsimp only at h ⊢
        cases g : step (denote tb) p w s t with
        | halt o z => rw [g] at h; cases h
        | go z t' => rw [g] at h; exact top_of_seg h
abbrev look (p q : Program) (loose : List Str) (Xt : Shared → Bool) {α : Type} (Yf : Shared → α) (h : Heap) (s : Shared) :=
  (staticsOk (importedModules p.main.body) h s.heap && namesBound p s.heap && gensDone s && laidKept h s.heap, openSeen q loose (importedModules p.main.body) Xt true s, Yf s)
theorem left_whole {p q : Program} {loose : List Str} {Xt : Shared → Bool} {α : Type} {Yf : Shared → α} {Ya : World → α} {N m : Nat} {ann : Option Value} (S : World → OsState → SharedT)
    (op : ∀ w : World, (fencedOpening treeTable p w N).map (fun s => (s.heap, s.gens, s.drawn, s.toks)) = some (boot_heap w.params, Array.mk [], boot_drawn, boot_toks))
    (size : ∀ w : World, ((boot_heap w.params).isNs mainGlobals, (boot_heap w.params).objs.size, (boot_heap w.params).nsMap mainGlobals "__annotations__") = (true, m, ann))
    (abs : ∀ w os, (S w os).abs = ⟨boot_heap w.params, Array.mk [], boot_drawn, boot_toks, os⟩)
    (whole : ∀ w : World, (fun os => (segRunT treeTable p w m ann 0 N (S w os) (topStub p)).map fun r => look p q loose Xt Yf (boot_heap w.params) r.2.1.abs) = fun _ => some (true, openGood q loose, Ya w)) : LeftO p q loose Xt Yf Ya N := fun w => by
  obtain ⟨⟨h, gs, d, k, os⟩, e, e'⟩ := Option.map_eq_some_iff.mp (op w)
  obtain ⟨rfl, rfl, rfl, rfl⟩ : h = boot_heap w.params ∧ gs = Array.mk [] ∧ d = boot_drawn ∧ k = boot_toks := by simpa using e'
  obtain ⟨y1, y2, y3⟩ : _ ∧ _ ∧ _ := by simpa only [Prod.mk.injEq] using size w
  obtain ⟨⟨f, s', c, x⟩, r1, r2⟩ := Option.map_eq_some_iff.mp (congrFun (whole w) os)
  obtain ⟨l1, l2, l3⟩ : _ ∧ _ ∧ _ := by simpa only [look, Prod.mk.injEq] using r2
  have r := top_of_seg (segRun_of r1)
  rw [abs] at r
  have t : topFrom treeTable p w N ⟨boot_heap w.params, Array.mk [], boot_drawn, boot_toks, os⟩ = some s'.abs := by
    unfold topFrom
    dsimp only
    rw [y1, y2, y3, r]
    show (match staticsOk (importedModules p.main.body) (boot_heap w.params) s'.abs.heap && namesBound p s'.abs.heap && gensDone s'.abs && laidKept (boot_heap w.params) s'.abs.heap with | true => _ | false => _) = _
    rw [l1]
  unfold openEnds
  rw [e]
  refine (congrArg (Option.map _) t).trans ?_
  exact congrArg some (by show (_, _) = (_, _); rw [l2, l3])
abbrev r (a : Addr) : Value := .ref a
abbrev s (x : Str) (t : Tok) : Value := .str x t
abbrev i (x : Int) (t : Tok) : Value := .int x t
abbrev t (x : String) : Value := .type x
abbrev b (x : String) : Value := .builtin x
abbrev tp (l : List Value) : Obj := ⟨.type "tuple", none, .seq l.toArray 0, #[]⟩
abbrev co (l : List Value) : Obj := ⟨.type "code", none, .fields l.toArray, #[]⟩
abbrev fi (c : Value) (l : List Value) : Obj := ⟨c, none, .fields l.toArray, #[]⟩
abbrev di (c : Value) (l : List DictEntry) (n : Nat) : Obj := ⟨c, none, .dict l.toArray n, #[]⟩
abbrev e (P : Params) (x : Str) (t : Tok) (v : Value) : DictEntry := ⟨PyData.keyHash P x, .str x t, v⟩
abbrev cl (c : ClassData) (l : List (Option Value)) : Obj := ⟨.type "type", none, .cls c, l.toArray⟩
abbrev o (v : Value) : Option Value := some v
abbrev sf (p : Program) (k : Nat) : Stmt := p.main.body.getD k default
def sub (k : Nat) : Stmt → Stmt
  | .ClassDef _ _ _ b _ _ _ _ _ _ _ => b.getD k default
  | x => x
def fn (q : Str) (d kw doc md : Value) (c bl : Addr) : Stmt → Obj
  | .FunctionDef n a b _ _ _ sc _ _ _ => ⟨.type "function", none, .func { name := n, qualname := q, params := a, body := .stmts b, scope := sc, globals := 3, closure := [], defaults := d, kwdefaults := kw, doc := doc, pyModule := md, code := .ref c, builtins := bl }, #[]⟩
  | _ => default
def dr : Stmt → DefRec
  | .FunctionDef n a b _ _ _ sc _ _ x => ⟨n, a, b, sc, x⟩
  | _ => ⟨"", ⟨[], [], none, [], [], none, []⟩, [], default, default⟩
noncomputable def tree (P : Params) : BT := (.node (boot_o_0 P) (.node (boot_o_1 P) (.node (boot_o_3 P) (.node (boot_o_7 P) .nil .nil) .nil) (.node (boot_o_5 P) (.node (boot_o_9 P) .nil .nil) .nil)) (.node (boot_o_2 P) (.node (boot_o_4 P) (.node (boot_o_8 P) .nil .nil) .nil) (.node (boot_o_6 P) (.node (boot_o_10 P) .nil .nil) .nil)))
noncomputable def S (w : World) (os : OsState) : SharedT := ⟨tree w.params, 11, (boot_heap w.params).life, Array.mk [], boot_drawn, boot_toks, os⟩
theorem S_abs (w : World) (os : OsState) : (S w os).abs = ⟨boot_heap w.params, Array.mk [], boot_drawn, boot_toks, os⟩ := by kernel_rfl
end Hd
namespace Hd
open PySem PyProof.Rows
open PySem.W PySem.Calls
set_option maxRecDepth 100000
noncomputable section
abbrev p : Program := PySem.Challenge.pw_bitrail_k40_posts_and_frames_refused
def o2 (P : Params) : Obj := di .none [] 0
def o3 (P : Params) : Obj := di (t "dict") [e P "__name__" 165 (s "law_bitrail_k40_posts_and_frames_refused" 723), e P "__doc__" 166 .none, e P "__package__" 167 .none, e P "__loader__" 168 (b "__main__.__loader__#opaque"), e P "__spec__" 169 .none, e P "__annotations__" 170 (r 6), e P "__builtins__" 171 (r 4), e P "__file__" 173 (s "/claim/cut.py" 172), e P "__cached__" 174 .none, e P "_wall" 193 (r 21), e P "RailError" 213 (r 31), e P "NoBits" 229 (r 44), e P "NoName" 245 (r 56), e P "NoKey" 261 (r 68), e P "NoFrame" 277 (r 80), e P "NoPost" 293 (r 92), e P "NoThing" 309 (r 104), e P "NoStrip" 325 (r 116), e P "NoRail" 341 (r 128), e P "NoWire" 366 (r 147), e P "NoRow" 391 (r 166), e P "HIGHEST_BYTE" 395 (i 255 394), e P "are_bytes" 401 (r 173), e P "QUIET_FROM" 405 (i 12 404), e P "OFF_FROM" 407 (i 18 406), e P "Count" 486 (r 239), e P "HIGHEST_NAME" 490 (i 255 489), e P "is_name" 497 (r 250), e P "MOST_BYTES" 501 (i 7 500), e P "check_frame" 509 (r 257), e P "QUIET_TURNS" 513 (i 8 512), e P "Free" 566 (r 295), e P "VOTES" 572 (r 300), e P "check_votes" 579 (r 307), e P "check_choice" 586 (r 314), e P "copies" 592 (r 319), e P "Post" 722 (r 427), e P "_law_draw" 735 (r 438), e P "_law_far" 744 (r 445), e P "_law_is_other" 751 (r 452), e P "_law_no_post" 761 (r 459), e P "_law_no_frame" 772 (r 466), e P "_law_frames_alike" 783 (r 473), e P "_law_new" 791 (r 480), e P "_law_data" 797 (r 485), e P "_law_spoiled" 803 (r 490), e P "law" 819 (r 497)] 47
def o15 (P : Params) : Obj := tp []
def o17 (P : Params) : Obj := tp [s "k" 190]
def o18 (P : Params) : Obj := tp []
def o20 (P : Params) : Obj := co [s "_wall" 187, s "_wall" 188, s "/claim/cut.py" 189, i 1 0, i 1 0, i 0 0, i 0 0, i 3 0, r 15, .bool true, i 181 0, r 16, .none, r 17, r 18, r 19, i 191 0, i 1 0, s "/claim/cut.py" 192]
def o21 (P : Params) : Obj := fn "_wall" .none .none .none (s "__main__" 164) 20 0 (sf p 0)
def o22 (P : Params) : Obj := tp [t "ValueError"]
def o29 (P : Params) : Obj := tp []
def o30 (P : Params) : Obj := di (t "dict") [e P "__module__" 203 (s "bitrail.errors" 194), e P "__firstlineno__" 207 (i 5 206), e P "__static_attributes__" 208 (r 29), e P "__weakref__" 210 (r 32), e P "__doc__" 211 .none] 3
def o31 (P : Params) : Obj := cl { name := "RailError", bases := [t "ValueError"], mro := [r 31, t "ValueError", t "Exception", t "BaseException", t "object"], ns := 30, qualname := "RailError", hasDict := true, subclasses := [r 44, r 56, r 68, r 80, r 92, r 104, r 116, r 128, r 147, r 166] } [o (r 22), .none, o (s "RailError" 196), o (s "RailError" 204), o (b "ValueError.__new__"), o (.bool true)]
def o32 (P : Params) : Obj := fi (t "getset_descriptor") [s "__weakref__" 209, r 31, b "ExceptionGroup.__weakref__", .none]
def o35 (P : Params) : Obj := tp [r 31]
def o42 (P : Params) : Obj := tp []
def o43 (P : Params) : Obj := di (t "dict") [e P "__module__" 221 (s "bitrail.errors" 194), e P "__firstlineno__" 225 (i 7 224), e P "__static_attributes__" 226 (r 42), e P "__doc__" 227 .none] 2
def o44 (P : Params) : Obj := cl { name := "NoBits", bases := [r 31], mro := [r 44, r 31, t "ValueError", t "Exception", t "BaseException", t "object"], ns := 43, qualname := "NoBits", hasDict := true, subclasses := [] } [o (r 35), .none, o (s "NoBits" 214), o (s "NoBits" 222), o (b "ValueError.__new__"), o (.bool true)]
def o47 (P : Params) : Obj := tp [r 31]
def o54 (P : Params) : Obj := tp []
def o55 (P : Params) : Obj := di (t "dict") [e P "__module__" 237 (s "bitrail.errors" 194), e P "__firstlineno__" 241 (i 9 240), e P "__static_attributes__" 242 (r 54), e P "__doc__" 243 .none] 2
def o56 (P : Params) : Obj := cl { name := "NoName", bases := [r 31], mro := [r 56, r 31, t "ValueError", t "Exception", t "BaseException", t "object"], ns := 55, qualname := "NoName", hasDict := true, subclasses := [] } [o (r 47), .none, o (s "NoName" 230), o (s "NoName" 238), o (b "ValueError.__new__"), o (.bool true)]
def o59 (P : Params) : Obj := tp [r 31]
def o66 (P : Params) : Obj := tp []
def o67 (P : Params) : Obj := di (t "dict") [e P "__module__" 253 (s "bitrail.errors" 194), e P "__firstlineno__" 257 (i 11 256), e P "__static_attributes__" 258 (r 66), e P "__doc__" 259 .none] 2
def o68 (P : Params) : Obj := cl { name := "NoKey", bases := [r 31], mro := [r 68, r 31, t "ValueError", t "Exception", t "BaseException", t "object"], ns := 67, qualname := "NoKey", hasDict := true, subclasses := [] } [o (r 59), .none, o (s "NoKey" 246), o (s "NoKey" 254), o (b "ValueError.__new__"), o (.bool true)]
def o71 (P : Params) : Obj := tp [r 31]
def o78 (P : Params) : Obj := tp []
def o79 (P : Params) : Obj := di (t "dict") [e P "__module__" 269 (s "bitrail.errors" 194), e P "__firstlineno__" 273 (i 13 272), e P "__static_attributes__" 274 (r 78), e P "__doc__" 275 .none] 2
def o80 (P : Params) : Obj := cl { name := "NoFrame", bases := [r 31], mro := [r 80, r 31, t "ValueError", t "Exception", t "BaseException", t "object"], ns := 79, qualname := "NoFrame", hasDict := true, subclasses := [] } [o (r 71), .none, o (s "NoFrame" 262), o (s "NoFrame" 270), o (b "ValueError.__new__"), o (.bool true)]
def o83 (P : Params) : Obj := tp [r 31]
def o90 (P : Params) : Obj := tp []
def o91 (P : Params) : Obj := di (t "dict") [e P "__module__" 285 (s "bitrail.errors" 194), e P "__firstlineno__" 289 (i 15 288), e P "__static_attributes__" 290 (r 90), e P "__doc__" 291 .none] 2
def o92 (P : Params) : Obj := cl { name := "NoPost", bases := [r 31], mro := [r 92, r 31, t "ValueError", t "Exception", t "BaseException", t "object"], ns := 91, qualname := "NoPost", hasDict := true, subclasses := [] } [o (r 83), .none, o (s "NoPost" 278), o (s "NoPost" 286), o (b "ValueError.__new__"), o (.bool true)]
def o95 (P : Params) : Obj := tp [r 31]
def o102 (P : Params) : Obj := tp []
def o103 (P : Params) : Obj := di (t "dict") [e P "__module__" 301 (s "bitrail.errors" 194), e P "__firstlineno__" 305 (i 17 304), e P "__static_attributes__" 306 (r 102), e P "__doc__" 307 .none] 2
def o104 (P : Params) : Obj := cl { name := "NoThing", bases := [r 31], mro := [r 104, r 31, t "ValueError", t "Exception", t "BaseException", t "object"], ns := 103, qualname := "NoThing", hasDict := true, subclasses := [] } [o (r 95), .none, o (s "NoThing" 294), o (s "NoThing" 302), o (b "ValueError.__new__"), o (.bool true)]
def o107 (P : Params) : Obj := tp [r 31]
def o114 (P : Params) : Obj := tp []
def o115 (P : Params) : Obj := di (t "dict") [e P "__module__" 317 (s "bitrail.errors" 194), e P "__firstlineno__" 321 (i 19 320), e P "__static_attributes__" 322 (r 114), e P "__doc__" 323 .none] 2
def o116 (P : Params) : Obj := cl { name := "NoStrip", bases := [r 31], mro := [r 116, r 31, t "ValueError", t "Exception", t "BaseException", t "object"], ns := 115, qualname := "NoStrip", hasDict := true, subclasses := [] } [o (r 107), .none, o (s "NoStrip" 310), o (s "NoStrip" 318), o (b "ValueError.__new__"), o (.bool true)]
def o119 (P : Params) : Obj := tp [r 31]
def o126 (P : Params) : Obj := tp []
def o127 (P : Params) : Obj := di (t "dict") [e P "__module__" 333 (s "bitrail.errors" 194), e P "__firstlineno__" 337 (i 21 336), e P "__static_attributes__" 338 (r 126), e P "__doc__" 339 .none] 2
def o128 (P : Params) : Obj := cl { name := "NoRail", bases := [r 31], mro := [r 128, r 31, t "ValueError", t "Exception", t "BaseException", t "object"], ns := 127, qualname := "NoRail", hasDict := true, subclasses := [] } [o (r 119), .none, o (s "NoRail" 326), o (s "NoRail" 334), o (b "ValueError.__new__"), o (.bool true)]
def o131 (P : Params) : Obj := tp [r 31]
def o138 (P : Params) : Obj := tp []
def o140 (P : Params) : Obj := tp [s "self" 357, s "at" 358]
def o141 (P : Params) : Obj := tp []
def o143 (P : Params) : Obj := co [s "__init__" 354, s "NoWire.__init__" 355, s "/claim/cut.py" 356, i 25 0, i 2 0, i 0 0, i 0 0, i 3 0, r 138, .bool true, i 181 0, r 139, .none, r 140, r 141, r 142, i 359 0, i 25 0, s "/claim/cut.py" 360]
def o144 (P : Params) : Obj := fn "NoWire.__init__" .none .none .none (s "bitrail.errors" 194) 143 0 (sub 0 (sf p 11))
def o145 (P : Params) : Obj := tp [s "at" 362]
def o146 (P : Params) : Obj := di (t "dict") [e P "__module__" 349 (s "bitrail.errors" 194), e P "__firstlineno__" 353 (i 23 352), e P "__init__" 361 (r 144), e P "__static_attributes__" 363 (r 145), e P "__doc__" 364 .none] 2
def o147 (P : Params) : Obj := cl { name := "NoWire", bases := [r 31], mro := [r 147, r 31, t "ValueError", t "Exception", t "BaseException", t "object"], ns := 146, qualname := "NoWire", hasDict := true, subclasses := [] } [o (r 131), .none, o (s "NoWire" 342), o (s "NoWire" 350), o (b "ValueError.__new__"), o (.bool true)]
def o150 (P : Params) : Obj := tp [r 31]
def o157 (P : Params) : Obj := tp []
def o159 (P : Params) : Obj := tp [s "self" 382, s "word" 383]
def o160 (P : Params) : Obj := tp []
def o162 (P : Params) : Obj := co [s "__init__" 379, s "NoRow.__init__" 380, s "/claim/cut.py" 381, i 29 0, i 2 0, i 0 0, i 0 0, i 3 0, r 157, .bool true, i 181 0, r 158, .none, r 159, r 160, r 161, i 384 0, i 29 0, s "/claim/cut.py" 385]
def o163 (P : Params) : Obj := fn "NoRow.__init__" .none .none .none (s "bitrail.errors" 194) 162 0 (sub 0 (sf p 12))
def o164 (P : Params) : Obj := tp [s "word" 387]
def o165 (P : Params) : Obj := di (t "dict") [e P "__module__" 374 (s "bitrail.errors" 194), e P "__firstlineno__" 378 (i 27 377), e P "__init__" 386 (r 163), e P "__static_attributes__" 388 (r 164), e P "__doc__" 389 .none] 2
def o166 (P : Params) : Obj := cl { name := "NoRow", bases := [r 31], mro := [r 166, r 31, t "ValueError", t "Exception", t "BaseException", t "object"], ns := 165, qualname := "NoRow", hasDict := true, subclasses := [] } [o (r 150), .none, o (s "NoRow" 367), o (s "NoRow" 375), o (b "ValueError.__new__"), o (.bool true)]
def o169 (P : Params) : Obj := tp []
def o172 (P : Params) : Obj := co [s "are_bytes" 396, s "are_bytes" 397, s "/claim/cut.py" 398, i 33 0, i 1 0, i 0 0, i 0 0, i 3 0, r 169, .bool true, i 181 0, r 170, .none, .none, .none, r 171, i 399 0, i 33 0, s "/claim/cut.py" 400]
def o173 (P : Params) : Obj := fn "are_bytes" .none .none .none (s "bitrail.bits" 392) 172 0 (sf p 15)
def o181 (P : Params) : Obj := tp []
def o183 (P : Params) : Obj := tp [s "self" 423]
def o184 (P : Params) : Obj := tp []
def o186 (P : Params) : Obj := co [s "__init__" 420, s "Count.__init__" 421, s "/claim/cut.py" 422, i 40 0, i 1 0, i 0 0, i 0 0, i 3 0, r 181, .bool true, i 181 0, r 182, .none, r 183, r 184, r 185, i 424 0, i 40 0, s "/claim/cut.py" 425]
def o187 (P : Params) : Obj := fn "Count.__init__" .none .none .none (s "bitrail.counts" 402) 186 0 (sub 0 (sf p 19))
def o188 (P : Params) : Obj := tp []
def o190 (P : Params) : Obj := tp [s "self" 430, s "spoke" 431]
def o191 (P : Params) : Obj := tp []
def o193 (P : Params) : Obj := co [s "fault" 427, s "Count.fault" 428, s "/claim/cut.py" 429, i 43 0, i 2 0, i 0 0, i 0 0, i 3 0, r 188, .bool true, i 181 0, r 189, .none, r 190, r 191, r 192, i 432 0, i 43 0, s "/claim/cut.py" 433]
def o194 (P : Params) : Obj := fn "Count.fault" .none .none .none (s "bitrail.counts" 402) 193 0 (sub 1 (sf p 19))
def o195 (P : Params) : Obj := tp []
def o197 (P : Params) : Obj := tp [s "self" 438]
def o198 (P : Params) : Obj := tp []
def o200 (P : Params) : Obj := co [s "blame" 435, s "Count.blame" 436, s "/claim/cut.py" 437, i 46 0, i 1 0, i 0 0, i 0 0, i 3 0, r 195, .bool true, i 181 0, r 196, .none, r 197, r 198, r 199, i 439 0, i 46 0, s "/claim/cut.py" 440]
def o201 (P : Params) : Obj := fn "Count.blame" .none .none .none (s "bitrail.counts" 402) 200 0 (sub 2 (sf p 19))
def o202 (P : Params) : Obj := tp []
def o204 (P : Params) : Obj := tp [s "self" 445]
def o205 (P : Params) : Obj := tp []
def o207 (P : Params) : Obj := co [s "good" 442, s "Count.good" 443, s "/claim/cut.py" 444, i 49 0, i 1 0, i 0 0, i 0 0, i 3 0, r 202, .bool true, i 181 0, r 203, .none, r 204, r 205, r 206, i 446 0, i 49 0, s "/claim/cut.py" 447]
def o208 (P : Params) : Obj := fn "Count.good" .none .none .none (s "bitrail.counts" 402) 207 0 (sub 3 (sf p 19))
def o209 (P : Params) : Obj := tp []
def o211 (P : Params) : Obj := tp [s "self" 452, s "step" 453]
def o212 (P : Params) : Obj := tp []
def o214 (P : Params) : Obj := co [s "move" 449, s "Count.move" 450, s "/claim/cut.py" 451, i 52 0, i 2 0, i 0 0, i 0 0, i 3 0, r 209, .bool true, i 181 0, r 210, .none, r 211, r 212, r 213, i 454 0, i 52 0, s "/claim/cut.py" 455]
def o215 (P : Params) : Obj := fn "Count.move" .none .none .none (s "bitrail.counts" 402) 214 0 (sub 4 (sf p 19))
def o216 (P : Params) : Obj := tp []
def o218 (P : Params) : Obj := tp [s "self" 460]
def o219 (P : Params) : Obj := tp []
def o221 (P : Params) : Obj := co [s "number" 457, s "Count.number" 458, s "/claim/cut.py" 459, i 55 0, i 1 0, i 0 0, i 0 0, i 3 0, r 216, .bool true, i 181 0, r 217, .none, r 218, r 219, r 220, i 461 0, i 55 0, s "/claim/cut.py" 462]
def o222 (P : Params) : Obj := fn "Count.number" .none .none .none (s "bitrail.counts" 402) 221 0 (sub 5 (sf p 19))
def o223 (P : Params) : Obj := tp []
def o225 (P : Params) : Obj := tp [s "self" 467]
def o226 (P : Params) : Obj := tp []
def o228 (P : Params) : Obj := co [s "is_quiet" 464, s "Count.is_quiet" 465, s "/claim/cut.py" 466, i 58 0, i 1 0, i 0 0, i 0 0, i 3 0, r 223, .bool true, i 181 0, r 224, .none, r 225, r 226, r 227, i 468 0, i 58 0, s "/claim/cut.py" 469]
def o229 (P : Params) : Obj := fn "Count.is_quiet" .none .none .none (s "bitrail.counts" 402) 228 0 (sub 6 (sf p 19))
def o230 (P : Params) : Obj := tp []
def o232 (P : Params) : Obj := tp [s "self" 474]
def o233 (P : Params) : Obj := tp []
def o235 (P : Params) : Obj := co [s "is_off" 471, s "Count.is_off" 472, s "/claim/cut.py" 473, i 61 0, i 1 0, i 0 0, i 0 0, i 3 0, r 230, .bool true, i 181 0, r 231, .none, r 232, r 233, r 234, i 475 0, i 61 0, s "/claim/cut.py" 476]
def o236 (P : Params) : Obj := fn "Count.is_off" .none .none .none (s "bitrail.counts" 402) 235 0 (sub 7 (sf p 19))
def o237 (P : Params) : Obj := tp [s "total" 478]
def o238 (P : Params) : Obj := di (t "dict") [e P "__module__" 415 (s "bitrail.counts" 402), e P "__firstlineno__" 419 (i 38 418), e P "__init__" 426 (r 187), e P "fault" 434 (r 194), e P "blame" 441 (r 201), e P "good" 448 (r 208), e P "move" 456 (r 215), e P "number" 463 (r 222), e P "is_quiet" 470 (r 229), e P "is_off" 477 (r 236), e P "__static_attributes__" 479 (r 237), e P "__dict__" 481 (r 240), e P "__weakref__" 483 (r 241), e P "__doc__" 484 .none] 4
def o239 (P : Params) : Obj := cl { name := "Count", bases := [t "object"], mro := [r 239, t "object"], ns := 238, qualname := "Count", hasDict := true, subclasses := [] } [.none, .none, o (s "Count" 408), o (s "Count" 416), o (b "object.__new__"), o (.bool true)]
def o240 (P : Params) : Obj := fi (t "getset_descriptor") [s "__dict__" 480, r 239, b "function.__dict__", b "function.__dict__#set"]
def o241 (P : Params) : Obj := fi (t "getset_descriptor") [s "__weakref__" 482, r 239, b "ExceptionGroup.__weakref__", .none]
def o244 (P : Params) : Obj := tp []
def o246 (P : Params) : Obj := tp [s "number" 494]
def o247 (P : Params) : Obj := tp []
def o249 (P : Params) : Obj := co [s "is_name" 491, s "is_name" 492, s "/claim/cut.py" 493, i 65 0, i 1 0, i 0 0, i 0 0, i 3 0, r 244, .bool true, i 181 0, r 245, .none, r 246, r 247, r 248, i 495 0, i 65 0, s "/claim/cut.py" 496]
def o250 (P : Params) : Obj := fn "is_name" .none .none .none (s "bitrail.names" 487) 249 0 (sf p 22)
def o251 (P : Params) : Obj := tp []
def o253 (P : Params) : Obj := tp [s "name" 505, s "data" 506]
def o254 (P : Params) : Obj := tp []
def o256 (P : Params) : Obj := co [s "check_frame" 502, s "check_frame" 503, s "/claim/cut.py" 504, i 69 0, i 2 0, i 0 0, i 0 0, i 3 0, r 251, .bool true, i 181 0, r 252, .none, r 253, r 254, r 255, i 507 0, i 69 0, s "/claim/cut.py" 508]
def o257 (P : Params) : Obj := fn "check_frame" .none .none .none (s "bitrail.frames" 498) 256 0 (sf p 25)
def o265 (P : Params) : Obj := tp []
def o267 (P : Params) : Obj := tp [s "self" 529, s "since" 530]
def o268 (P : Params) : Obj := tp []
def o270 (P : Params) : Obj := co [s "__init__" 526, s "Free.__init__" 527, s "/claim/cut.py" 528, i 80 0, i 2 0, i 0 0, i 0 0, i 3 0, r 265, .bool true, i 181 0, r 266, .none, r 267, r 268, r 269, i 531 0, i 80 0, s "/claim/cut.py" 532]
def o271 (P : Params) : Obj := fn "Free.__init__" .none .none .none (s "bitrail.stances" 510) 270 0 (sub 0 (sf p 28))
def o272 (P : Params) : Obj := tp []
def o274 (P : Params) : Obj := tp [s "self" 537]
def o275 (P : Params) : Obj := tp []
def o277 (P : Params) : Obj := co [s "shown" 534, s "Free.shown" 535, s "/claim/cut.py" 536, i 83 0, i 1 0, i 0 0, i 0 0, i 3 0, r 272, .bool true, i 181 0, r 273, .none, r 274, r 275, r 276, i 538 0, i 83 0, s "/claim/cut.py" 539]
def o278 (P : Params) : Obj := fn "Free.shown" .none .none .none (s "bitrail.stances" 510) 277 0 (sub 1 (sf p 28))
def o279 (P : Params) : Obj := tp []
def o281 (P : Params) : Obj := tp [s "self" 544, s "post" 545]
def o282 (P : Params) : Obj := tp []
def o284 (P : Params) : Obj := co [s "says" 541, s "Free.says" 542, s "/claim/cut.py" 543, i 86 0, i 2 0, i 0 0, i 0 0, i 3 0, r 279, .bool true, i 181 0, r 280, .none, r 281, r 282, r 283, i 546 0, i 86 0, s "/claim/cut.py" 547]
def o285 (P : Params) : Obj := fn "Free.says" .none .none .none (s "bitrail.stances" 510) 284 0 (sub 2 (sf p 28))
def o286 (P : Params) : Obj := tp []
def o288 (P : Params) : Obj := tp [s "self" 552, s "bit" 553, s "post" 554]
def o289 (P : Params) : Obj := tp []
def o291 (P : Params) : Obj := co [s "step" 549, s "Free.step" 550, s "/claim/cut.py" 551, i 91 0, i 3 0, i 0 0, i 0 0, i 3 0, r 286, .bool true, i 181 0, r 287, .none, r 288, r 289, r 290, i 555 0, i 91 0, s "/claim/cut.py" 556]
def o292 (P : Params) : Obj := fn "Free.step" .none .none .none (s "bitrail.stances" 510) 291 0 (sub 3 (sf p 28))
def o293 (P : Params) : Obj := tp [s "since" 558]
def o294 (P : Params) : Obj := di (t "dict") [e P "__module__" 521 (s "bitrail.stances" 510), e P "__firstlineno__" 525 (i 78 524), e P "__init__" 533 (r 271), e P "shown" 540 (r 278), e P "says" 548 (r 285), e P "step" 557 (r 292), e P "__static_attributes__" 559 (r 293), e P "__dict__" 561 (r 296), e P "__weakref__" 563 (r 297), e P "__doc__" 564 .none] 4
def o295 (P : Params) : Obj := cl { name := "Free", bases := [t "object"], mro := [r 295, t "object"], ns := 294, qualname := "Free", hasDict := true, subclasses := [] } [.none, .none, o (s "Free" 514), o (s "Free" 522), o (b "object.__new__"), o (.bool true)]
def o296 (P : Params) : Obj := fi (t "getset_descriptor") [s "__dict__" 560, r 295, b "function.__dict__", b "function.__dict__#set"]
def o297 (P : Params) : Obj := fi (t "getset_descriptor") [s "__weakref__" 562, r 295, b "ExceptionGroup.__weakref__", .none]
def o300 (P : Params) : Obj := tp [i 1 569, i 3 570, i 5 571]
def o301 (P : Params) : Obj := tp []
def o303 (P : Params) : Obj := tp [s "votes" 576]
def o304 (P : Params) : Obj := tp []
def o306 (P : Params) : Obj := co [s "check_votes" 573, s "check_votes" 574, s "/claim/cut.py" 575, i 95 0, i 1 0, i 0 0, i 0 0, i 3 0, r 301, .bool true, i 181 0, r 302, .none, r 303, r 304, r 305, i 577 0, i 95 0, s "/claim/cut.py" 578]
def o307 (P : Params) : Obj := fn "check_votes" .none .none .none (s "bitrail.posts" 567) 306 0 (sf p 31)
def o308 (P : Params) : Obj := tp []
def o310 (P : Params) : Obj := tp [s "choice" 583]
def o311 (P : Params) : Obj := tp []
def o313 (P : Params) : Obj := co [s "check_choice" 580, s "check_choice" 581, s "/claim/cut.py" 582, i 98 0, i 1 0, i 0 0, i 0 0, i 3 0, r 308, .bool true, i 181 0, r 309, .none, r 310, r 311, r 312, i 584 0, i 98 0, s "/claim/cut.py" 585]
def o314 (P : Params) : Obj := fn "check_choice" .none .none .none (s "bitrail.posts" 567) 313 0 (sf p 32)
def o315 (P : Params) : Obj := tp []
def o318 (P : Params) : Obj := co [s "copies" 587, s "copies" 588, s "/claim/cut.py" 589, i 101 0, i 1 0, i 0 0, i 0 0, i 3 0, r 315, .bool true, i 181 0, r 316, .none, .none, .none, r 317, i 590 0, i 101 0, s "/claim/cut.py" 591]
def o319 (P : Params) : Obj := fn "copies" .none .none .none (s "bitrail.posts" 567) 318 0 (sf p 33)
def o327 (P : Params) : Obj := tp []
def o329 (P : Params) : Obj := tp [s "self" 608, s "choice" 609, s "votes" 610]
def o330 (P : Params) : Obj := tp []
def o332 (P : Params) : Obj := co [s "__init__" 605, s "Post.__init__" 606, s "/claim/cut.py" 607, i 105 0, i 3 0, i 0 0, i 0 0, i 3 0, r 327, .bool true, i 181 0, r 328, .none, r 329, r 330, r 331, i 611 0, i 105 0, s "/claim/cut.py" 612]
def o333 (P : Params) : Obj := fn "Post.__init__" .none .none .none (s "bitrail.posts" 567) 332 0 (sub 0 (sf p 34))
def o334 (P : Params) : Obj := tp []
def o336 (P : Params) : Obj := tp [s "self" 617, s "name" 618, s "data" 619]
def o337 (P : Params) : Obj := tp []
def o339 (P : Params) : Obj := co [s "hand" 614, s "Post.hand" 615, s "/claim/cut.py" 616, i 115 0, i 3 0, i 0 0, i 0 0, i 3 0, r 334, .bool true, i 181 0, r 335, .none, r 336, r 337, r 338, i 620 0, i 115 0, s "/claim/cut.py" 621]
def o340 (P : Params) : Obj := fn "Post.hand" .none .none .none (s "bitrail.posts" 567) 339 0 (sub 1 (sf p 34))
def o341 (P : Params) : Obj := tp []
def o343 (P : Params) : Obj := tp [s "self" 626]
def o344 (P : Params) : Obj := tp []
def o346 (P : Params) : Obj := co [s "says" 623, s "Post.says" 624, s "/claim/cut.py" 625, i 119 0, i 1 0, i 0 0, i 0 0, i 3 0, r 341, .bool true, i 181 0, r 342, .none, r 343, r 344, r 345, i 627 0, i 119 0, s "/claim/cut.py" 628]
def o347 (P : Params) : Obj := fn "Post.says" .none .none .none (s "bitrail.posts" 567) 346 0 (sub 2 (sf p 34))
def o348 (P : Params) : Obj := tp []
def o350 (P : Params) : Obj := tp [s "self" 633, s "bit" 634]
def o351 (P : Params) : Obj := tp []
def o353 (P : Params) : Obj := co [s "hear" 630, s "Post.hear" 631, s "/claim/cut.py" 632, i 122 0, i 2 0, i 0 0, i 0 0, i 3 0, r 348, .bool true, i 181 0, r 349, .none, r 350, r 351, r 352, i 635 0, i 122 0, s "/claim/cut.py" 636]
def o354 (P : Params) : Obj := fn "Post.hear" .none .none .none (s "bitrail.posts" 567) 353 0 (sub 3 (sf p 34))
def o355 (P : Params) : Obj := tp []
def o357 (P : Params) : Obj := tp [s "self" 641]
def o358 (P : Params) : Obj := tp []
def o360 (P : Params) : Obj := co [s "stance" 638, s "Post.stance" 639, s "/claim/cut.py" 640, i 125 0, i 1 0, i 0 0, i 0 0, i 3 0, r 355, .bool true, i 181 0, r 356, .none, r 357, r 358, r 359, i 642 0, i 125 0, s "/claim/cut.py" 643]
def o361 (P : Params) : Obj := fn "Post.stance" .none .none .none (s "bitrail.posts" 567) 360 0 (sub 4 (sf p 34))
def o362 (P : Params) : Obj := tp []
def o364 (P : Params) : Obj := tp [s "self" 648]
def o365 (P : Params) : Obj := tp []
def o367 (P : Params) : Obj := co [s "waits" 645, s "Post.waits" 646, s "/claim/cut.py" 647, i 128 0, i 1 0, i 0 0, i 0 0, i 3 0, r 362, .bool true, i 181 0, r 363, .none, r 364, r 365, r 366, i 649 0, i 128 0, s "/claim/cut.py" 650]
def o368 (P : Params) : Obj := fn "Post.waits" .none .none .none (s "bitrail.posts" 567) 367 0 (sub 5 (sf p 34))
def o369 (P : Params) : Obj := tp []
def o371 (P : Params) : Obj := tp [s "self" 655]
def o372 (P : Params) : Obj := tp []
def o374 (P : Params) : Obj := co [s "got" 652, s "Post.got" 653, s "/claim/cut.py" 654, i 131 0, i 1 0, i 0 0, i 0 0, i 3 0, r 369, .bool true, i 181 0, r 370, .none, r 371, r 372, r 373, i 656 0, i 131 0, s "/claim/cut.py" 657]
def o375 (P : Params) : Obj := fn "Post.got" .none .none .none (s "bitrail.posts" 567) 374 0 (sub 6 (sf p 34))
def o376 (P : Params) : Obj := tp []
def o378 (P : Params) : Obj := tp [s "self" 662]
def o379 (P : Params) : Obj := tp []
def o381 (P : Params) : Obj := co [s "faults" 659, s "Post.faults" 660, s "/claim/cut.py" 661, i 134 0, i 1 0, i 0 0, i 0 0, i 3 0, r 376, .bool true, i 181 0, r 377, .none, r 378, r 379, r 380, i 663 0, i 134 0, s "/claim/cut.py" 664]
def o382 (P : Params) : Obj := fn "Post.faults" .none .none .none (s "bitrail.posts" 567) 381 0 (sub 7 (sf p 34))
def o383 (P : Params) : Obj := tp []
def o385 (P : Params) : Obj := tp [s "self" 669]
def o386 (P : Params) : Obj := tp []
def o388 (P : Params) : Obj := co [s "is_quiet" 666, s "Post.is_quiet" 667, s "/claim/cut.py" 668, i 137 0, i 1 0, i 0 0, i 0 0, i 3 0, r 383, .bool true, i 181 0, r 384, .none, r 385, r 386, r 387, i 670 0, i 137 0, s "/claim/cut.py" 671]
def o389 (P : Params) : Obj := fn "Post.is_quiet" .none .none .none (s "bitrail.posts" 567) 388 0 (sub 8 (sf p 34))
def o390 (P : Params) : Obj := tp []
def o392 (P : Params) : Obj := tp [s "self" 676]
def o393 (P : Params) : Obj := tp []
def o395 (P : Params) : Obj := co [s "is_off" 673, s "Post.is_off" 674, s "/claim/cut.py" 675, i 140 0, i 1 0, i 0 0, i 0 0, i 3 0, r 390, .bool true, i 181 0, r 391, .none, r 392, r 393, r 394, i 677 0, i 140 0, s "/claim/cut.py" 678]
def o396 (P : Params) : Obj := fn "Post.is_off" .none .none .none (s "bitrail.posts" 567) 395 0 (sub 9 (sf p 34))
def o397 (P : Params) : Obj := tp []
def o399 (P : Params) : Obj := tp [s "self" 683]
def o400 (P : Params) : Obj := tp []
def o402 (P : Params) : Obj := co [s "has_frame" 680, s "Post.has_frame" 681, s "/claim/cut.py" 682, i 143 0, i 1 0, i 0 0, i 0 0, i 3 0, r 397, .bool true, i 181 0, r 398, .none, r 399, r 400, r 401, i 684 0, i 143 0, s "/claim/cut.py" 685]
def o403 (P : Params) : Obj := fn "Post.has_frame" .none .none .none (s "bitrail.posts" 567) 402 0 (sub 10 (sf p 34))
def o404 (P : Params) : Obj := tp []
def o406 (P : Params) : Obj := tp [s "self" 690]
def o407 (P : Params) : Obj := tp []
def o409 (P : Params) : Obj := co [s "foremost_wire" 687, s "Post.foremost_wire" 688, s "/claim/cut.py" 689, i 146 0, i 1 0, i 0 0, i 0 0, i 3 0, r 404, .bool true, i 181 0, r 405, .none, r 406, r 407, r 408, i 691 0, i 146 0, s "/claim/cut.py" 692]
def o410 (P : Params) : Obj := fn "Post.foremost_wire" .none .none .none (s "bitrail.posts" 567) 409 0 (sub 11 (sf p 34))
def o411 (P : Params) : Obj := tp []
def o413 (P : Params) : Obj := tp [s "self" 697]
def o414 (P : Params) : Obj := tp []
def o416 (P : Params) : Obj := co [s "drop_foremost" 694, s "Post.drop_foremost" 695, s "/claim/cut.py" 696, i 149 0, i 1 0, i 0 0, i 0 0, i 3 0, r 411, .bool true, i 181 0, r 412, .none, r 413, r 414, r 415, i 698 0, i 149 0, s "/claim/cut.py" 699]
def o417 (P : Params) : Obj := fn "Post.drop_foremost" .none .none .none (s "bitrail.posts" 567) 416 0 (sub 12 (sf p 34))
def o418 (P : Params) : Obj := tp []
def o420 (P : Params) : Obj := tp [s "self" 704, s "frame" 705]
def o421 (P : Params) : Obj := tp []
def o423 (P : Params) : Obj := co [s "hand_up" 701, s "Post.hand_up" 702, s "/claim/cut.py" 703, i 152 0, i 2 0, i 0 0, i 0 0, i 3 0, r 418, .bool true, i 181 0, r 419, .none, r 420, r 421, r 422, i 706 0, i 152 0, s "/claim/cut.py" 707]
def o424 (P : Params) : Obj := fn "Post.hand_up" .none .none .none (s "bitrail.posts" 567) 423 0 (sub 13 (sf p 34))
def o425 (P : Params) : Obj := tp [s "choice" 709, s "handed_up" 710, s "now" 711, s "tally" 712, s "votes" 713, s "waiting" 714]
def o426 (P : Params) : Obj := di (t "dict") [e P "__module__" 600 (s "bitrail.posts" 567), e P "__firstlineno__" 604 (i 103 603), e P "__init__" 613 (r 333), e P "hand" 622 (r 340), e P "says" 629 (r 347), e P "hear" 637 (r 354), e P "stance" 644 (r 361), e P "waits" 651 (r 368), e P "got" 658 (r 375), e P "faults" 665 (r 382), e P "is_quiet" 672 (r 389), e P "is_off" 679 (r 396), e P "has_frame" 686 (r 403), e P "foremost_wire" 693 (r 410), e P "drop_foremost" 700 (r 417), e P "hand_up" 708 (r 424), e P "__static_attributes__" 715 (r 425), e P "__dict__" 717 (r 428), e P "__weakref__" 719 (r 429), e P "__doc__" 720 .none] 4
def o427 (P : Params) : Obj := cl { name := "Post", bases := [t "object"], mro := [r 427, t "object"], ns := 426, qualname := "Post", hasDict := true, subclasses := [] } [.none, .none, o (s "Post" 593), o (s "Post" 601), o (b "object.__new__"), o (.bool true)]
def o428 (P : Params) : Obj := fi (t "getset_descriptor") [s "__dict__" 716, r 427, b "function.__dict__", b "function.__dict__#set"]
def o429 (P : Params) : Obj := fi (t "getset_descriptor") [s "__weakref__" 718, r 427, b "ExceptionGroup.__weakref__", .none]
def o432 (P : Params) : Obj := tp []
def o434 (P : Params) : Obj := tp [s "_law_script" 728, s "_law_k" 729, s "_law_many" 730, s "_law_cell" 731, s "_law_seed" 732]
def o435 (P : Params) : Obj := tp []
def o437 (P : Params) : Obj := co [s "_law_draw" 725, s "_law_draw" 726, s "/claim/cut.py" 727, i 155 0, i 3 0, i 0 0, i 0 0, i 3 0, r 432, .bool true, i 181 0, r 433, .none, r 434, r 435, r 436, i 733 0, i 155 0, s "/claim/cut.py" 734]
def o438 (P : Params) : Obj := fn "_law_draw" .none .none .none (s "law_bitrail_k40_posts_and_frames_refused" 723) 437 0 (sf p 36)
def o439 (P : Params) : Obj := tp []
def o441 (P : Params) : Obj := tp [s "_law_script" 739, s "_law_k" 740, s "_law_cell" 741]
def o442 (P : Params) : Obj := tp []
def o444 (P : Params) : Obj := co [s "_law_far" 736, s "_law_far" 737, s "/claim/cut.py" 738, i 159 0, i 2 0, i 0 0, i 0 0, i 3 0, r 439, .bool true, i 181 0, r 440, .none, r 441, r 442, r 443, i 742 0, i 159 0, s "/claim/cut.py" 743]
def o445 (P : Params) : Obj := fn "_law_far" .none .none .none (s "law_bitrail_k40_posts_and_frames_refused" 723) 444 0 (sf p 37)
def o446 (P : Params) : Obj := tp []
def o448 (P : Params) : Obj := tp [s "_law_e" 748]
def o449 (P : Params) : Obj := tp []
def o451 (P : Params) : Obj := co [s "_law_is_other" 745, s "_law_is_other" 746, s "/claim/cut.py" 747, i 162 0, i 1 0, i 0 0, i 0 0, i 3 0, r 446, .bool true, i 181 0, r 447, .none, r 448, r 449, r 450, i 749 0, i 162 0, s "/claim/cut.py" 750]
def o452 (P : Params) : Obj := fn "_law_is_other" .none .none .none (s "law_bitrail_k40_posts_and_frames_refused" 723) 451 0 (sf p 38)
def o453 (P : Params) : Obj := tp []
def o455 (P : Params) : Obj := tp [s "_law_choice" 755, s "_law_votes" 756, s "_law_good" 757, s "_law_e" 758]
def o456 (P : Params) : Obj := tp []
def o458 (P : Params) : Obj := co [s "_law_no_post" 752, s "_law_no_post" 753, s "/claim/cut.py" 754, i 164 0, i 2 0, i 0 0, i 0 0, i 3 0, r 453, .bool true, i 181 0, r 454, .none, r 455, r 456, r 457, i 759 0, i 164 0, s "/claim/cut.py" 760]
def o459 (P : Params) : Obj := fn "_law_no_post" .none .none .none (s "law_bitrail_k40_posts_and_frames_refused" 723) 458 0 (sf p 39)
def o460 (P : Params) : Obj := tp []
def o462 (P : Params) : Obj := tp [s "_law_post" 765, s "_law_name" 766, s "_law_data_here" 767, s "_law_good" 768, s "_law_e" 769]
def o463 (P : Params) : Obj := tp []
def o465 (P : Params) : Obj := co [s "_law_no_frame" 762, s "_law_no_frame" 763, s "/claim/cut.py" 764, i 172 0, i 3 0, i 0 0, i 0 0, i 3 0, r 460, .bool true, i 181 0, r 461, .none, r 462, r 463, r 464, i 770 0, i 172 0, s "/claim/cut.py" 771]
def o466 (P : Params) : Obj := fn "_law_no_frame" .none .none .none (s "law_bitrail_k40_posts_and_frames_refused" 723) 465 0 (sf p 40)
def o467 (P : Params) : Obj := tp []
def o469 (P : Params) : Obj := tp [s "_law_found" 776, s "_law_due" 777, s "_law_k" 778, s "_law_one" 779, s "_law_number" 780]
def o470 (P : Params) : Obj := tp []
def o472 (P : Params) : Obj := co [s "_law_frames_alike" 773, s "_law_frames_alike" 774, s "/claim/cut.py" 775, i 180 0, i 2 0, i 0 0, i 0 0, i 3 0, r 467, .bool true, i 181 0, r 468, .none, r 469, r 470, r 471, i 781 0, i 180 0, s "/claim/cut.py" 782]
def o473 (P : Params) : Obj := fn "_law_frames_alike" .none .none .none (s "law_bitrail_k40_posts_and_frames_refused" 723) 472 0 (sf p 41)
def o474 (P : Params) : Obj := tp []
def o476 (P : Params) : Obj := tp [s "_law_post" 787, s "_law_number" 788]
def o477 (P : Params) : Obj := tp []
def o479 (P : Params) : Obj := co [s "_law_new" 784, s "_law_new" 785, s "/claim/cut.py" 786, i 193 0, i 1 0, i 0 0, i 0 0, i 3 0, r 474, .bool true, i 181 0, r 475, .none, r 476, r 477, r 478, i 789 0, i 193 0, s "/claim/cut.py" 790]
def o480 (P : Params) : Obj := fn "_law_new" .none .none .none (s "law_bitrail_k40_posts_and_frames_refused" 723) 479 0 (sf p 42)
def o481 (P : Params) : Obj := tp []
def o484 (P : Params) : Obj := co [s "_law_data" 792, s "_law_data" 793, s "/claim/cut.py" 794, i 200 0, i 2 0, i 0 0, i 0 0, i 3 0, r 481, .bool true, i 181 0, r 482, .none, .none, .none, r 483, i 795 0, i 200 0, s "/claim/cut.py" 796]
def o485 (P : Params) : Obj := fn "_law_data" .none .none .none (s "law_bitrail_k40_posts_and_frames_refused" 723) 484 0 (sf p 43)
def o486 (P : Params) : Obj := tp []
def o489 (P : Params) : Obj := co [s "_law_spoiled" 798, s "_law_spoiled" 799, s "/claim/cut.py" 800, i 202 0, i 4 0, i 0 0, i 0 0, i 3 0, r 486, .bool true, i 181 0, r 487, .none, .none, .none, r 488, i 801 0, i 202 0, s "/claim/cut.py" 802]
def o490 (P : Params) : Obj := fn "_law_spoiled" .none .none .none (s "law_bitrail_k40_posts_and_frames_refused" 723) 489 0 (sf p 44)
def o491 (P : Params) : Obj := tp []
def o493 (P : Params) : Obj := tp [s "_law_script" 807, s "_law_choice" 808, s "_law_votes" 809, s "_law_other" 810, s "_law_post" 811, s "_law_frames" 812, s "_law_k" 813, s "_law_frame" 814, s "_law_handed" 815, s "_law_found" 816]
def o494 (P : Params) : Obj := tp []
def o496 (P : Params) : Obj := co [s "law" 804, s "law" 805, s "/claim/cut.py" 806, i 211 0, i 1 0, i 0 0, i 0 0, i 3 0, r 491, .bool true, i 181 0, r 492, .none, r 493, r 494, r 495, i 817 0, i 211 0, s "/claim/cut.py" 818]
def o497 (P : Params) : Obj := fn "law" .none .none .none (s "law_bitrail_k40_posts_and_frames_refused" 723) 496 0 (sf p 45)
def K (P : Params) : Frag := (nat_lit 2, o2 P) :: (nat_lit 3, o3 P) :: (nat_lit 15, o15 P) :: (nat_lit 17, o17 P) :: (nat_lit 18, o18 P) :: (nat_lit 20, o20 P) :: (nat_lit 21, o21 P) :: (nat_lit 22, o22 P) :: (nat_lit 29, o29 P) :: (nat_lit 30, o30 P) :: (nat_lit 31, o31 P) :: (nat_lit 32, o32 P) :: (nat_lit 35, o35 P) :: (nat_lit 42, o42 P) :: (nat_lit 43, o43 P) :: (nat_lit 44, o44 P) :: (nat_lit 47, o47 P) :: (nat_lit 54, o54 P) :: (nat_lit 55, o55 P) :: (nat_lit 56, o56 P) :: (nat_lit 59, o59 P) :: (nat_lit 66, o66 P) :: (nat_lit 67, o67 P) :: (nat_lit 68, o68 P) :: (nat_lit 71, o71 P) :: (nat_lit 78, o78 P) :: (nat_lit 79, o79 P) :: (nat_lit 80, o80 P) :: (nat_lit 83, o83 P) :: (nat_lit 90, o90 P) :: (nat_lit 91, o91 P) :: (nat_lit 92, o92 P) :: (nat_lit 95, o95 P) :: (nat_lit 102, o102 P) :: (nat_lit 103, o103 P) :: (nat_lit 104, o104 P) :: (nat_lit 107, o107 P) :: (nat_lit 114, o114 P) :: (nat_lit 115, o115 P) :: (nat_lit 116, o116 P) :: (nat_lit 119, o119 P) :: (nat_lit 126, o126 P) :: (nat_lit 127, o127 P) :: (nat_lit 128, o128 P) :: (nat_lit 131, o131 P) :: (nat_lit 138, o138 P) :: (nat_lit 140, o140 P) :: (nat_lit 141, o141 P) :: (nat_lit 143, o143 P) :: (nat_lit 144, o144 P) :: (nat_lit 145, o145 P) :: (nat_lit 146, o146 P) :: (nat_lit 147, o147 P) :: (nat_lit 150, o150 P) :: (nat_lit 157, o157 P) :: (nat_lit 159, o159 P) :: (nat_lit 160, o160 P) :: (nat_lit 162, o162 P) :: (nat_lit 163, o163 P) :: (nat_lit 164, o164 P) :: (nat_lit 165, o165 P) :: (nat_lit 166, o166 P) :: (nat_lit 169, o169 P) :: (nat_lit 172, o172 P) :: (nat_lit 173, o173 P) :: (nat_lit 181, o181 P) :: (nat_lit 183, o183 P) :: (nat_lit 184, o184 P) :: (nat_lit 186, o186 P) :: (nat_lit 187, o187 P) :: (nat_lit 188, o188 P) :: (nat_lit 190, o190 P) :: (nat_lit 191, o191 P) :: (nat_lit 193, o193 P) :: (nat_lit 194, o194 P) :: (nat_lit 195, o195 P) :: (nat_lit 197, o197 P) :: (nat_lit 198, o198 P) :: (nat_lit 200, o200 P) :: (nat_lit 201, o201 P) :: (nat_lit 202, o202 P) :: (nat_lit 204, o204 P) :: (nat_lit 205, o205 P) :: (nat_lit 207, o207 P) :: (nat_lit 208, o208 P) :: (nat_lit 209, o209 P) :: (nat_lit 211, o211 P) :: (nat_lit 212, o212 P) :: (nat_lit 214, o214 P) :: (nat_lit 215, o215 P) :: (nat_lit 216, o216 P) :: (nat_lit 218, o218 P) :: (nat_lit 219, o219 P) :: (nat_lit 221, o221 P) :: (nat_lit 222, o222 P) :: (nat_lit 223, o223 P) :: (nat_lit 225, o225 P) :: (nat_lit 226, o226 P) :: (nat_lit 228, o228 P) :: (nat_lit 229, o229 P) :: (nat_lit 230, o230 P) :: (nat_lit 232, o232 P) :: (nat_lit 233, o233 P) :: (nat_lit 235, o235 P) :: (nat_lit 236, o236 P) :: (nat_lit 237, o237 P) :: (nat_lit 238, o238 P) :: (nat_lit 239, o239 P) :: (nat_lit 240, o240 P) :: (nat_lit 241, o241 P) :: (nat_lit 244, o244 P) :: (nat_lit 246, o246 P) :: (nat_lit 247, o247 P) :: (nat_lit 249, o249 P) :: (nat_lit 250, o250 P) :: (nat_lit 251, o251 P) :: (nat_lit 253, o253 P) :: (nat_lit 254, o254 P) :: (nat_lit 256, o256 P) :: (nat_lit 257, o257 P) :: (nat_lit 265, o265 P) :: (nat_lit 267, o267 P) :: (nat_lit 268, o268 P) :: (nat_lit 270, o270 P) :: (nat_lit 271, o271 P) :: (nat_lit 272, o272 P) :: (nat_lit 274, o274 P) :: (nat_lit 275, o275 P) :: (nat_lit 277, o277 P) :: (nat_lit 278, o278 P) :: (nat_lit 279, o279 P) :: (nat_lit 281, o281 P) :: (nat_lit 282, o282 P) :: (nat_lit 284, o284 P) :: (nat_lit 285, o285 P) :: (nat_lit 286, o286 P) :: (nat_lit 288, o288 P) :: (nat_lit 289, o289 P) :: (nat_lit 291, o291 P) :: (nat_lit 292, o292 P) :: (nat_lit 293, o293 P) :: (nat_lit 294, o294 P) :: (nat_lit 295, o295 P) :: (nat_lit 296, o296 P) :: (nat_lit 297, o297 P) :: (nat_lit 300, o300 P) :: (nat_lit 301, o301 P) :: (nat_lit 303, o303 P) :: (nat_lit 304, o304 P) :: (nat_lit 306, o306 P) :: (nat_lit 307, o307 P) :: (nat_lit 308, o308 P) :: (nat_lit 310, o310 P) :: (nat_lit 311, o311 P) :: (nat_lit 313, o313 P) :: (nat_lit 314, o314 P) :: (nat_lit 315, o315 P) :: (nat_lit 318, o318 P) :: (nat_lit 319, o319 P) :: (nat_lit 327, o327 P) :: (nat_lit 329, o329 P) :: (nat_lit 330, o330 P) :: (nat_lit 332, o332 P) :: (nat_lit 333, o333 P) :: (nat_lit 334, o334 P) :: (nat_lit 336, o336 P) :: (nat_lit 337, o337 P) :: (nat_lit 339, o339 P) :: (nat_lit 340, o340 P) :: (nat_lit 341, o341 P) :: (nat_lit 343, o343 P) :: (nat_lit 344, o344 P) :: (nat_lit 346, o346 P) :: (nat_lit 347, o347 P) :: (nat_lit 348, o348 P) :: (nat_lit 350, o350 P) :: (nat_lit 351, o351 P) :: (nat_lit 353, o353 P) :: (nat_lit 354, o354 P) :: (nat_lit 355, o355 P) :: (nat_lit 357, o357 P) :: (nat_lit 358, o358 P) :: (nat_lit 360, o360 P) :: (nat_lit 361, o361 P) :: (nat_lit 362, o362 P) :: (nat_lit 364, o364 P) :: (nat_lit 365, o365 P) :: (nat_lit 367, o367 P) :: (nat_lit 368, o368 P) :: (nat_lit 369, o369 P) :: (nat_lit 371, o371 P) :: (nat_lit 372, o372 P) :: (nat_lit 374, o374 P) :: (nat_lit 375, o375 P) :: (nat_lit 376, o376 P) :: (nat_lit 378, o378 P) :: (nat_lit 379, o379 P) :: (nat_lit 381, o381 P) :: (nat_lit 382, o382 P) :: (nat_lit 383, o383 P) :: (nat_lit 385, o385 P) :: (nat_lit 386, o386 P) :: (nat_lit 388, o388 P) :: (nat_lit 389, o389 P) :: (nat_lit 390, o390 P) :: (nat_lit 392, o392 P) :: (nat_lit 393, o393 P) :: (nat_lit 395, o395 P) :: (nat_lit 396, o396 P) :: (nat_lit 397, o397 P) :: (nat_lit 399, o399 P) :: (nat_lit 400, o400 P) :: (nat_lit 402, o402 P) :: (nat_lit 403, o403 P) :: (nat_lit 404, o404 P) :: (nat_lit 406, o406 P) :: (nat_lit 407, o407 P) :: (nat_lit 409, o409 P) :: (nat_lit 410, o410 P) :: (nat_lit 411, o411 P) :: (nat_lit 413, o413 P) :: (nat_lit 414, o414 P) :: (nat_lit 416, o416 P) :: (nat_lit 417, o417 P) :: (nat_lit 418, o418 P) :: (nat_lit 420, o420 P) :: (nat_lit 421, o421 P) :: (nat_lit 423, o423 P) :: (nat_lit 424, o424 P) :: (nat_lit 425, o425 P) :: (nat_lit 426, o426 P) :: (nat_lit 427, o427 P) :: (nat_lit 428, o428 P) :: (nat_lit 429, o429 P) :: (nat_lit 432, o432 P) :: (nat_lit 434, o434 P) :: (nat_lit 435, o435 P) :: (nat_lit 437, o437 P) :: (nat_lit 438, o438 P) :: (nat_lit 439, o439 P) :: (nat_lit 441, o441 P) :: (nat_lit 442, o442 P) :: (nat_lit 444, o444 P) :: (nat_lit 445, o445 P) :: (nat_lit 446, o446 P) :: (nat_lit 448, o448 P) :: (nat_lit 449, o449 P) :: (nat_lit 451, o451 P) :: (nat_lit 452, o452 P) :: (nat_lit 453, o453 P) :: (nat_lit 455, o455 P) :: (nat_lit 456, o456 P) :: (nat_lit 458, o458 P) :: (nat_lit 459, o459 P) :: (nat_lit 460, o460 P) :: (nat_lit 462, o462 P) :: (nat_lit 463, o463 P) :: (nat_lit 465, o465 P) :: (nat_lit 466, o466 P) :: (nat_lit 467, o467 P) :: (nat_lit 469, o469 P) :: (nat_lit 470, o470 P) :: (nat_lit 472, o472 P) :: (nat_lit 473, o473 P) :: (nat_lit 474, o474 P) :: (nat_lit 476, o476 P) :: (nat_lit 477, o477 P) :: (nat_lit 479, o479 P) :: (nat_lit 480, o480 P) :: (nat_lit 481, o481 P) :: (nat_lit 484, o484 P) :: (nat_lit 485, o485 P) :: (nat_lit 486, o486 P) :: (nat_lit 489, o489 P) :: (nat_lit 490, o490 P) :: (nat_lit 491, o491 P) :: (nat_lit 493, o493 P) :: (nat_lit 494, o494 P) :: (nat_lit 496, o496 P) :: (nat_lit 497, o497 P) :: []
def as : List Addr := 2 :: 3 :: 15 :: 17 :: 18 :: 20 :: 21 :: 22 :: 29 :: 30 :: 31 :: 32 :: 35 :: 42 :: 43 :: 44 :: 47 :: 54 :: 55 :: 56 :: 59 :: 66 :: 67 :: 68 :: 71 :: 78 :: 79 :: 80 :: 83 :: 90 :: 91 :: 92 :: 95 :: 102 :: 103 :: 104 :: 107 :: 114 :: 115 :: 116 :: 119 :: 126 :: 127 :: 128 :: 131 :: 138 :: 140 :: 141 :: 143 :: 144 :: 145 :: 146 :: 147 :: 150 :: 157 :: 159 :: 160 :: 162 :: 163 :: 164 :: 165 :: 166 :: 169 :: 172 :: 173 :: 181 :: 183 :: 184 :: 186 :: 187 :: 188 :: 190 :: 191 :: 193 :: 194 :: 195 :: 197 :: 198 :: 200 :: 201 :: 202 :: 204 :: 205 :: 207 :: 208 :: 209 :: 211 :: 212 :: 214 :: 215 :: 216 :: 218 :: 219 :: 221 :: 222 :: 223 :: 225 :: 226 :: 228 :: 229 :: 230 :: 232 :: 233 :: 235 :: 236 :: 237 :: 238 :: 239 :: 240 :: 241 :: 244 :: 246 :: 247 :: 249 :: 250 :: 251 :: 253 :: 254 :: 256 :: 257 :: 265 :: 267 :: 268 :: 270 :: 271 :: 272 :: 274 :: 275 :: 277 :: 278 :: 279 :: 281 :: 282 :: 284 :: 285 :: 286 :: 288 :: 289 :: 291 :: 292 :: 293 :: 294 :: 295 :: 296 :: 297 :: 300 :: 301 :: 303 :: 304 :: 306 :: 307 :: 308 :: 310 :: 311 :: 313 :: 314 :: 315 :: 318 :: 319 :: 327 :: 329 :: 330 :: 332 :: 333 :: 334 :: 336 :: 337 :: 339 :: 340 :: 341 :: 343 :: 344 :: 346 :: 347 :: 348 :: 350 :: 351 :: 353 :: 354 :: 355 :: 357 :: 358 :: 360 :: 361 :: 362 :: 364 :: 365 :: 367 :: 368 :: 369 :: 371 :: 372 :: 374 :: 375 :: 376 :: 378 :: 379 :: 381 :: 382 :: 383 :: 385 :: 386 :: 388 :: 389 :: 390 :: 392 :: 393 :: 395 :: 396 :: 397 :: 399 :: 400 :: 402 :: 403 :: 404 :: 406 :: 407 :: 409 :: 410 :: 411 :: 413 :: 414 :: 416 :: 417 :: 418 :: 420 :: 421 :: 423 :: 424 :: 425 :: 426 :: 427 :: 428 :: 429 :: 432 :: 434 :: 435 :: 437 :: 438 :: 439 :: 441 :: 442 :: 444 :: 445 :: 446 :: 448 :: 449 :: 451 :: 452 :: 453 :: 455 :: 456 :: 458 :: 459 :: 460 :: 462 :: 463 :: 465 :: 466 :: 467 :: 469 :: 470 :: 472 :: 473 :: 474 :: 476 :: 477 :: 479 :: 480 :: 481 :: 484 :: 485 :: 486 :: 489 :: 490 :: 491 :: 493 :: 494 :: 496 :: 497 :: []
def g0 (P : Params) : List (Nat × Obj) := (2, o2 P) :: (3, o3 P) :: (15, o15 P) :: (17, o17 P) :: (18, o18 P) :: (20, o20 P) :: (21, o21 P) :: (22, o22 P) :: (29, o29 P) :: (30, o30 P) :: (31, o31 P) :: (32, o32 P) :: (35, o35 P) :: (42, o42 P) :: (43, o43 P) :: (44, o44 P) :: []
def g1 (P : Params) : List (Nat × Obj) := (47, o47 P) :: (54, o54 P) :: (55, o55 P) :: (56, o56 P) :: (59, o59 P) :: (66, o66 P) :: (67, o67 P) :: (68, o68 P) :: (71, o71 P) :: (78, o78 P) :: (79, o79 P) :: (80, o80 P) :: (83, o83 P) :: (90, o90 P) :: (91, o91 P) :: (92, o92 P) :: []
def g2 (P : Params) : List (Nat × Obj) := (95, o95 P) :: (102, o102 P) :: (103, o103 P) :: (104, o104 P) :: (107, o107 P) :: (114, o114 P) :: (115, o115 P) :: (116, o116 P) :: (119, o119 P) :: (126, o126 P) :: (127, o127 P) :: (128, o128 P) :: (131, o131 P) :: (138, o138 P) :: (140, o140 P) :: (141, o141 P) :: []
def g3 (P : Params) : List (Nat × Obj) := (143, o143 P) :: (144, o144 P) :: (145, o145 P) :: (146, o146 P) :: (147, o147 P) :: (150, o150 P) :: (157, o157 P) :: (159, o159 P) :: (160, o160 P) :: (162, o162 P) :: (163, o163 P) :: (164, o164 P) :: (165, o165 P) :: (166, o166 P) :: (169, o169 P) :: (172, o172 P) :: []
def g4 (P : Params) : List (Nat × Obj) := (173, o173 P) :: (181, o181 P) :: (183, o183 P) :: (184, o184 P) :: (186, o186 P) :: (187, o187 P) :: (188, o188 P) :: (190, o190 P) :: (191, o191 P) :: (193, o193 P) :: (194, o194 P) :: (195, o195 P) :: (197, o197 P) :: (198, o198 P) :: (200, o200 P) :: (201, o201 P) :: []
def g5 (P : Params) : List (Nat × Obj) := (202, o202 P) :: (204, o204 P) :: (205, o205 P) :: (207, o207 P) :: (208, o208 P) :: (209, o209 P) :: (211, o211 P) :: (212, o212 P) :: (214, o214 P) :: (215, o215 P) :: (216, o216 P) :: (218, o218 P) :: (219, o219 P) :: (221, o221 P) :: (222, o222 P) :: (223, o223 P) :: []
def g6 (P : Params) : List (Nat × Obj) := (225, o225 P) :: (226, o226 P) :: (228, o228 P) :: (229, o229 P) :: (230, o230 P) :: (232, o232 P) :: (233, o233 P) :: (235, o235 P) :: (236, o236 P) :: (237, o237 P) :: (238, o238 P) :: (239, o239 P) :: (240, o240 P) :: (241, o241 P) :: (244, o244 P) :: (246, o246 P) :: []
def g7 (P : Params) : List (Nat × Obj) := (247, o247 P) :: (249, o249 P) :: (250, o250 P) :: (251, o251 P) :: (253, o253 P) :: (254, o254 P) :: (256, o256 P) :: (257, o257 P) :: (265, o265 P) :: (267, o267 P) :: (268, o268 P) :: (270, o270 P) :: (271, o271 P) :: (272, o272 P) :: (274, o274 P) :: (275, o275 P) :: []
def g8 (P : Params) : List (Nat × Obj) := (277, o277 P) :: (278, o278 P) :: (279, o279 P) :: (281, o281 P) :: (282, o282 P) :: (284, o284 P) :: (285, o285 P) :: (286, o286 P) :: (288, o288 P) :: (289, o289 P) :: (291, o291 P) :: (292, o292 P) :: (293, o293 P) :: (294, o294 P) :: (295, o295 P) :: (296, o296 P) :: []
def g9 (P : Params) : List (Nat × Obj) := (297, o297 P) :: (300, o300 P) :: (301, o301 P) :: (303, o303 P) :: (304, o304 P) :: (306, o306 P) :: (307, o307 P) :: (308, o308 P) :: (310, o310 P) :: (311, o311 P) :: (313, o313 P) :: (314, o314 P) :: (315, o315 P) :: (318, o318 P) :: (319, o319 P) :: (327, o327 P) :: []
def g10 (P : Params) : List (Nat × Obj) := (329, o329 P) :: (330, o330 P) :: (332, o332 P) :: (333, o333 P) :: (334, o334 P) :: (336, o336 P) :: (337, o337 P) :: (339, o339 P) :: (340, o340 P) :: (341, o341 P) :: (343, o343 P) :: (344, o344 P) :: (346, o346 P) :: (347, o347 P) :: (348, o348 P) :: (350, o350 P) :: []
def g11 (P : Params) : List (Nat × Obj) := (351, o351 P) :: (353, o353 P) :: (354, o354 P) :: (355, o355 P) :: (357, o357 P) :: (358, o358 P) :: (360, o360 P) :: (361, o361 P) :: (362, o362 P) :: (364, o364 P) :: (365, o365 P) :: (367, o367 P) :: (368, o368 P) :: (369, o369 P) :: (371, o371 P) :: (372, o372 P) :: []
def g12 (P : Params) : List (Nat × Obj) := (374, o374 P) :: (375, o375 P) :: (376, o376 P) :: (378, o378 P) :: (379, o379 P) :: (381, o381 P) :: (382, o382 P) :: (383, o383 P) :: (385, o385 P) :: (386, o386 P) :: (388, o388 P) :: (389, o389 P) :: (390, o390 P) :: (392, o392 P) :: (393, o393 P) :: (395, o395 P) :: []
def g13 (P : Params) : List (Nat × Obj) := (396, o396 P) :: (397, o397 P) :: (399, o399 P) :: (400, o400 P) :: (402, o402 P) :: (403, o403 P) :: (404, o404 P) :: (406, o406 P) :: (407, o407 P) :: (409, o409 P) :: (410, o410 P) :: (411, o411 P) :: (413, o413 P) :: (414, o414 P) :: (416, o416 P) :: (417, o417 P) :: []
def g14 (P : Params) : List (Nat × Obj) := (418, o418 P) :: (420, o420 P) :: (421, o421 P) :: (423, o423 P) :: (424, o424 P) :: (425, o425 P) :: (426, o426 P) :: (427, o427 P) :: (428, o428 P) :: (429, o429 P) :: (432, o432 P) :: (434, o434 P) :: (435, o435 P) :: (437, o437 P) :: (438, o438 P) :: (439, o439 P) :: []
def g15 (P : Params) : List (Nat × Obj) := (441, o441 P) :: (442, o442 P) :: (444, o444 P) :: (445, o445 P) :: (446, o446 P) :: (448, o448 P) :: (449, o449 P) :: (451, o451 P) :: (452, o452 P) :: (453, o453 P) :: (455, o455 P) :: (456, o456 P) :: (458, o458 P) :: (459, o459 P) :: (460, o460 P) :: (462, o462 P) :: []
def g16 (P : Params) : List (Nat × Obj) := (463, o463 P) :: (465, o465 P) :: (466, o466 P) :: (467, o467 P) :: (469, o469 P) :: (470, o470 P) :: (472, o472 P) :: (473, o473 P) :: (474, o474 P) :: (476, o476 P) :: (477, o477 P) :: (479, o479 P) :: (480, o480 P) :: (481, o481 P) :: (484, o484 P) :: (485, o485 P) :: []
def g17 (P : Params) : List (Nat × Obj) := (486, o486 P) :: (489, o489 P) :: (490, o490 P) :: (491, o491 P) :: (493, o493 P) :: (494, o494 P) :: (496, o496 P) :: (497, o497 P) :: []
def L (P : Params) : List (Nat × Obj) := g0 P ++ (g1 P ++ (g2 P ++ (g3 P ++ (g4 P ++ (g5 P ++ (g6 P ++ (g7 P ++ (g8 P ++ (g9 P ++ (g10 P ++ (g11 P ++ (g12 P ++ (g13 P ++ (g14 P ++ (g15 P ++ (g16 P ++ (g17 P)))))))))))))))))
theorem K_L (P : Params) : K P = L P := by kernel_rfl
theorem K_as (P : Params) : as = (K P).map (·.1) := by kernel_rfl
def qv : Program := view p [45]
def loose : List Str := "_wall" :: "RailError" :: "NoBits" :: "NoName" :: "NoKey" :: "NoFrame" :: "NoPost" :: "NoThing" :: "NoStrip" :: "NoRail" :: "NoWire" :: "NoRow" :: "HIGHEST_BYTE" :: "are_bytes" :: "QUIET_FROM" :: "OFF_FROM" :: "Count" :: "HIGHEST_NAME" :: "is_name" :: "MOST_BYTES" :: "check_frame" :: "QUIET_TURNS" :: "Free" :: "VOTES" :: "check_votes" :: "check_choice" :: "copies" :: "Post" :: "_law_draw" :: "_law_far" :: "_law_is_other" :: "_law_no_post" :: "_law_no_frame" :: "_law_frames_alike" :: "_law_new" :: "_law_data" :: "_law_spoiled" :: []
abbrev N : Nat := 4454
theorem open_p : ∀ w : World, (fencedOpening treeTable p w N).map (fun s => (s.heap, s.gens, s.drawn, s.toks)) = some (boot_heap w.params, Array.mk [], boot_drawn, boot_toks) := boot_open (by kernel_rfl) (by decide) (fun s => by kernel_rfl)
def ann : Option Value := some (.ref 6)
abbrev Yf (s : Shared) : List (Option Obj) := as.map s.heap.get?
def whole (w : World) (os : OsState) := (segRunT treeTable p w 11 ann 0 N (S w os) (topStub p)).map fun r => look p qv loose (xlAt qv []) Yf (boot_heap w.params) r.2.1.abs
def good (w : World) (_ : OsState) := some (true, openGood qv loose, (L w.params).map fun p => some p.2)
def sz (w : World) := ((boot_heap w.params).isNs mainGlobals, (boot_heap w.params).objs.size, (boot_heap w.params).nsMap mainGlobals "__annotations__")
def sg (_ : World) := (true, 11, ann)
theorem whole_r : whole = whole := rfl
theorem good_r : good = good := rfl
theorem sz_r : sz = sz := rfl
name_quick wq for whole by whole_r
name_quick gq for good by good_r
name_quick zq for sz by sz_r
theorem z_g (w : World) : PySem.W.Fast.zq w = sg w := by kernel_rfl
theorem w_g (w : World) : PySem.W.Fast.wq w = PySem.W.Fast.gq w := by kernel_rfl
theorem left : LeftO p qv loose (xlAt qv []) Yf (fun w => (K w.params).map fun p => some p.2) N := left_whole S open_p (fun w => (congrFun PySem.W.Fast.zq_eq w).trans (z_g w)) S_abs fun w => ((congrFun PySem.W.Fast.wq_eq w).trans (w_g w)).trans ((congrFun PySem.W.Fast.gq_eq w).symm.trans (by funext os; show some (true, _, (L w.params).map _) = some (true, _, (K w.params).map _); rw [K_L]))
def dl : DefRec := dr (sf p 45)
def da := (defOf qv "law", p.theDef "law")
def db := (some (dl, ([] : List (Str × PySem.Expr))), some (dl.params, dl.body, dl.scope))
theorem da_r : da = da := rfl
theorem db_r : db = db := rfl
name_quick daq for da by da_r
name_quick dbq for db by db_r
theorem d_q : PySem.W.Fast.daq = PySem.W.Fast.dbq := by kernel_rfl
theorem d_e : da = db := PySem.W.Fast.daq_eq.trans (d_q.trans PySem.W.Fast.dbq_eq.symm)
theorem dl_1 : defOf qv "law" = some (dl, []) := congrArg Prod.fst d_e
theorem dl_2 : p.theDef "law" = some (dl.params, dl.body, dl.scope) := congrArg Prod.snd d_e
end
end Hd
namespace My
open PySem L2
def top (i : Nat) : Stmt := PySem.Challenge.pw_bitrail_k40_posts_and_frames_refused.main.body.getD i (.Pass ⟨0, 0, 0, 0⟩)
def clsBody (s : Stmt) : List Stmt := match s with | .ClassDef _ _ _ b _ _ _ _ _ _ _ => b | _ => []
abbrev ZcS : Stmt := top 15
abbrev Zdk : Stmt := top 22
abbrev Zcn : Stmt := top 25
abbrev Zcu : Stmt := (clsBody (top 19)).getD 0 (.Pass ⟨0, 0, 0, 0⟩)
abbrev Zby : Stmt := (clsBody (top 19)).getD 6 (.Pass ⟨0, 0, 0, 0⟩)
abbrev ZbZ : Stmt := (clsBody (top 19)).getD 7 (.Pass ⟨0, 0, 0, 0⟩)
abbrev Zb0 : Stmt := (clsBody (top 19)).getD 5 (.Pass ⟨0, 0, 0, 0⟩)
abbrev ZcL : Stmt := (clsBody (top 28)).getD 0 (.Pass ⟨0, 0, 0, 0⟩)
abbrev ZbF : Stmt := (clsBody (top 34)).getD 8 (.Pass ⟨0, 0, 0, 0⟩)
abbrev Zcl : Stmt := (clsBody (top 34)).getD 9 (.Pass ⟨0, 0, 0, 0⟩)
abbrev Zck : Stmt := (clsBody (top 34)).getD 7 (.Pass ⟨0, 0, 0, 0⟩)
abbrev ZcN : Stmt := (clsBody (top 34)).getD 1 (.Pass ⟨0, 0, 0, 0⟩)
abbrev Zdz : Stmt := top 33
abbrev Zcw : Stmt := (clsBody (top 34)).getD 5 (.Pass ⟨0, 0, 0, 0⟩)
abbrev Zc8 : Stmt := (clsBody (top 34)).getD 6 (.Pass ⟨0, 0, 0, 0⟩)
abbrev Zco : Stmt := top 31
abbrev Zb3 : Stmt := top 32
abbrev ZcO : Stmt := (clsBody (top 34)).getD 0 (.Pass ⟨0, 0, 0, 0⟩)
abbrev Zbz : Stmt := (clsBody (top 34)).getD 10 (.Pass ⟨0, 0, 0, 0⟩)
abbrev Zcv : Stmt := (clsBody (top 28)).getD 1 (.Pass ⟨0, 0, 0, 0⟩)
abbrev ZcM : Stmt := (clsBody (top 28)).getD 2 (.Pass ⟨0, 0, 0, 0⟩)
abbrev Zcm : Stmt := (clsBody (top 34)).getD 4 (.Pass ⟨0, 0, 0, 0⟩)
abbrev ZcP : Stmt := (clsBody (top 34)).getD 2 (.Pass ⟨0, 0, 0, 0⟩)
abbrev ZcR : Stmt := top 36
abbrev Zc9 : Stmt := top 37
abbrev ZbG : Stmt := top 38
abbrev Zb1 : Stmt := top 39
abbrev ZbH : Stmt := top 40
abbrev Za4 : Stmt := top 41
abbrev Zda : Stmt := top 42
abbrev ZcQ : Stmt := top 43
abbrev Zb2 : Stmt := top 44
abbrev ZdK : Stmt := top 45
def spCellAt (K : PySem.W.Frag) : Sp := fun vs H Q _ => ∃ (a : Addr) (ns : List Int) (k : Nat), vs = [.ref a, .int k] ∧ SqL K H a (ns.map V.int) ∧ ∀ z : Int, Q (.int z) H
theorem same_new {H : Hp} {p : Addr} (h : H p = none) (o : HO) : Same H (upd H p o) := fun b u q => by rw [upd_ne (ne_of_none q h)]; exact q
theorem small {n : Nat} (h : n ≤ 1000) : n ≤ sizeLine := Nat.le_of_lt (small1000 h)
theorem small_lit {n : Nat} (h : decide (n ≤ 1000) = true) : n ≤ sizeLine := small (of_decide_eq_true h)
theorem kit_self {K : PySem.W.Frag} {t : Value} : PySem.W.kitOne K t t = some true := by
  unfold PySem.W.kitOne
  rw [if_pos (beq_self_eq_true t)]
theorem small1 {n : Nat} (h : n ≤ 1000) : n < sizeLine := small1000 h
theorem _root_.L2.Same.put {H H' : Hp} {p : Addr} {o : HO} (g : Same H H') (h : H p = none) : Same H (upd H' p o) := fun b u q => by rw [upd_ne (ne_of_none q h)]; exact g b u q
theorem _root_.L2.Same.none {H H' : Hp} {x : Addr} (g : Same H H') (h : H' x = none) : H x = none := by
  cases e : H x with
  | none => rfl
  | some o => rw [g x o e] at h; cases h
theorem same_made {H : Hp} {C x dx : Addr} {fs : List (Str × V)} (hx : H x = none) (hd : H dx = none) : Same H (upd (upd (upd H dx (.own x)) x (.ins C dx [])) x (.ins C dx fs)) := fun b u q => by
  rw [upd_ne (ne_of_none q hx), upd_ne (ne_of_none q hx), upd_ne (ne_of_none q hd)]; exact q
open Bm Rm
def spBitsOf : Sp := fun vs H Q _ => ∃ n m : Nat, vs = [.int n, .int m] ∧ n < 2 ^ m ∧ m ≤ 128 ∧ ∀ p, H p = none → Q (.ref p) (upd H p (.lst ((bitsI n m).map V.int)))
def spNumberOf (K : PySem.W.Frag) : Sp := fun vs H Q _ => ∃ (a : Addr) (bs : List Int), vs = [.ref a] ∧ SqL K H a (bs.map V.int) ∧ Bits bs ∧ bs.length ≤ 450 ∧ Q (.int ((nm bs : Nat) : Int)) H
theorem get_int {bs : List Int} {i : Nat} {x : V} (hx : (bs.map V.int)[i]? = some x) : ∃ h : i < bs.length, x = .int bs[i] := by
  have hi : i < bs.length := by
    have := (List.getElem?_eq_some_iff.mp hx).1
    rwa [List.length_map] at this
  refine ⟨hi, ?_⟩
  rw [List.getElem?_map, List.getElem?_eq_getElem hi] at hx
  exact (Option.some.inj hx).symm
abbrev bl (a : Nat) : Nat := Builtin.Int.intBits (a : Int)
def spDivided : Sp := fun vs H Q _ => ∃ a : Nat, vs = [.int a, .int 64647] ∧ a < 2 ^ 450 ∧ ∀ (w : Nat) (p : Addr), H p = none → Q (.ref p) (upd H p (.tup [.int ((w : Nat) : Int), .int ((R a : Nat) : Int)]))
def spRest (K : PySem.W.Frag) : Sp := fun vs H Q _ => ∃ (a : Addr) (bs : List Int), vs = [.ref a] ∧ SqL K H a (bs.map V.int) ∧ Bits bs ∧ bs.length ≤ 450 ∧ ∀ H', Same H H' → Q (.int ((rst bs : Nat) : Int)) H'
def spCheck (K : PySem.W.Frag) : Sp := fun vs H Q _ => ∃ (a : Addr) (bs : List Int), vs = [.ref a] ∧ SqL K H a (bs.map V.int) ∧ Bits bs ∧ bs.length ≤ 400 ∧ ∀ p H', H p = none → Same H H' → H' p = some (.lst ((ck bs).map V.int)) → Q (.ref p) H'
def spWalk (K : PySem.W.Frag) : Sp := fun vs H Q _ => ∃ (a : Addr) (bs : List Int), vs = [.ref a] ∧ SqL K H a (bs.map V.int) ∧ Bits bs ∧ bs.length ≤ 450 ∧ Q (.int ((rst bs : Nat) : Int)) H
def szB (bs : List Int) : Nat := nm ((bs.drop 9).take 3)
def nmB (bs : List Int) : Nat := nm ((bs.drop 1).take 8)
def dtB (bs : List Int) (k : Nat) : Int := ((nm ((bs.drop (12 + 8 * k)).take 8) : Nat) : Int)
def daB (bs : List Int) : List Int := (List.range (szB bs)).map (dtB bs)
def CmpB (bs : List Int) : Prop := 12 ≤ bs.length ∧ bs.length = 27 + 8 * szB bs
def RdOk (bs : List Int) : Prop := CmpB bs ∧ bs.getD 0 0 = 0 ∧ rst bs = 0
def spSize (K : PySem.W.Frag) : Sp := fun vs H Q _ => ∃ (a : Addr) (bs : List Int), vs = [.ref a] ∧ SqL K H a (bs.map V.int) ∧ Bits bs ∧ 12 ≤ bs.length ∧ bs.length ≤ 450 ∧ ∀ H', Same H H' → Q (.int ((szB bs : Nat) : Int)) H'
def spCmp (K : PySem.W.Frag) : Sp := fun vs H Q _ => ∃ (a : Addr) (bs : List Int), vs = [.ref a] ∧ SqL K H a (bs.map V.int) ∧ Bits bs ∧ bs.length ≤ 450 ∧ (CmpB bs → ∀ H', Same H H' → Q (.bl true) H') ∧ (¬ CmpB bs → ∀ H', Same H H' → Q (.bl false) H')
def spRead (K : PySem.W.Frag) (C : Addr) : Sp := fun vs H Q E => ∃ (a : Addr) (bs : List Int), vs = [.ref a] ∧ SqL K H a (bs.map V.int) ∧ Bits bs ∧ bs.length ≤ 450 ∧
  (RdOk bs → ∀ t p H', H p = none → Same H H' → H' p = some (.lst ((daB bs).map V.int)) → H' t = some (.tup [.int ((nmB bs : Nat) : Int), .ref p]) → Q (.ref t) H') ∧ (¬ RdOk bs → ∀ H', Same H H' → E (.ref C) none H')
open Bm Rn Wm
def lastV : Option Int → V
  | none => .non
  | some b => .int b
abbrev skF (s : S) : List (Str × V) := [("last", lastV s.1), ("alike", .int ((s.2 : Nat) : Int))]
def SkAt (C : Addr) (H : Hp) (a : Addr) (s : S) : Prop := ∃ dx, H a = some (.ins C dx (skF s))
theorem SkAt.same {C : Addr} {H H' : Hp} {a : Addr} {n : S} (h : SkAt C H a n) (g : Same H H') : SkAt C H' a n := by
  obtain ⟨dx, e⟩ := h
  exact ⟨dx, g _ _ e⟩
def spSkInit (C : Addr) : Sp := fun vs H Q _ => ∃ a dx, vs = [.ref a] ∧ H a = some (.ins C dx []) ∧ ∀ H', H' = upd H a (.ins C dx (skF (none, 0))) → Q .non H'
def spSkLen (C : Addr) : Sp := fun vs H Q _ => ∃ a s b, vs = [.ref a, .int b] ∧ SkAt C H a s ∧ ∀ H', SkAt C H' a (skp s b) → (∀ x, x ≠ a → H' x = H x) → Q .non H'
def spSkFull (C : Addr) : Sp := fun vs H Q _ => ∃ a s, vs = [.ref a] ∧ SkAt C H a s ∧ Q (.bl (decide (s.2 = 5))) H
def spSkLong (C : Addr) : Sp := fun vs H Q _ => ∃ a s, vs = [.ref a] ∧ SkAt C H a s ∧ Q (.bl (decide (5 < s.2))) H
def spPutIn (K : PySem.W.Frag) : Sp := fun vs H Q _ => ∃ (a : Addr) (bs : List Int), vs = [.ref a] ∧ SqL K H a (bs.map V.int) ∧ bs.length ≤ 400 ∧ ∀ p H', H p = none → Same H H' → H' p = some (.lst ((put bs).map V.int)) → Q (.ref p) H'
instance decCmp (bs : List Int) : Decidable (CmpB bs) := by unfold CmpB; infer_instance
def ans (w : List Int) : Str := if 5 < run w then "six" else if run w = 5 ∨ ¬ CmpB (kp w) then "more" else if rst (kp w) = 0 then "whole" else "bad"
abbrev rdF (st ks : Addr) (t : Str) : List (Str × V) := [("streak", .ref st), ("kept", .ref ks), ("answer", .str t)]
structure RdAt (C CK : Addr) (H : Hp) (r st ks : Addr) (w : List Int) (t : Str) : Prop where
  rd : ∃ dx, H r = some (.ins C dx (rdF st ks t))
  sk : SkAt CK H st (sk w)
  kp : H ks = some (.lst ((kp w).map V.int))
theorem RdAt.same {C CK : Addr} {H H' : Hp} {r st ks : Addr} {w : List Int} {t : Str} (h : RdAt C CK H r st ks w t) (g : Same H H') : RdAt C CK H' r st ks w t := ⟨let ⟨dx, e⟩ := h.rd; ⟨dx, g _ _ e⟩, h.sk.same g, g _ _ h.kp⟩
def But3 (H H' : Hp) (r st ks : Addr) : Prop := ∀ x o, x ≠ r → x ≠ st → x ≠ ks → H x = some o → H' x = some o
def spRdInit (C CK : Addr) : Sp := fun vs H Q _ => ∃ a dx, vs = [.ref a] ∧ H a = some (.ins C dx []) ∧ ∀ H' st ks, RdAt C CK H' a st ks [] "more" → H st = none → H ks = none → (∀ x o, x ≠ a → H x = some o → H' x = some o) → Q .non H'
def spRdJudged (C CK : Addr) : Sp := fun vs H Q _ => ∃ r st ks w t, vs = [.ref r] ∧ RdAt C CK H r st ks w t ∧ Bits w ∧ w.length ≤ 450 ∧ ∀ H', Same H H' → Q (.str (ans w)) H'
def spRdHear (C CK : Addr) : Sp := fun vs H Q _ => ∃ r st ks w t b, vs = [.ref r, .int b] ∧ RdAt C CK H r st ks w t ∧ Bits (w ++ [b]) ∧ w.length < 450 ∧ ∀ H', RdAt C CK H' r st ks (w ++ [b]) (ans (w ++ [b])) → But3 H H' r st ks → Q (.str (ans (w ++ [b]))) H'
def spRdPlain (C CK : Addr) : Sp := fun vs H Q _ => ∃ r st ks w t, vs = [.ref r] ∧ RdAt C CK H r st ks w t ∧ ∀ p H', H p = none → Same H H' → H' p = some (.lst ((kp w).map V.int)) → Q (.ref p) H'
def spRdFrame (C CK : Addr) : Sp := fun vs H Q _ => ∃ r st ks w, vs = [.ref r] ∧ RdAt C CK H r st ks w (ans w) ∧ Bits w ∧ w.length ≤ 450 ∧ (ans w = "whole" → (kp w).getD 0 0 = 0) ∧
  (ans w = "whole" → RdOk (kp w) → ∀ t p H', H p = none → Same H H' → H' p = some (.lst ((daB (kp w)).map V.int)) → H' t = some (.tup [.int ((nmB (kp w) : Nat) : Int), .ref p]) → Q (.ref t) H') ∧ (ans w ≠ "whole" → Q .non H)
def spWire (K : PySem.W.Frag) : Sp := fun vs H Q _ => ∃ (a : Addr) (bs : List Int), vs = [.ref a] ∧ SqL K H a (bs.map V.int) ∧ Bits bs ∧ bs.length ≤ 400 ∧ ∀ p H', H p = none → Same H H' → H' p = some (.lst ((put bs).map V.int)) → Q (.ref p) H'
def spLBits2 : Sp := fun vs H Q _ => ∃ n m : Nat, vs = [.int n, .int m] ∧ m ≤ 128 ∧ ∀ p, H p = none → Q (.ref p) (upd H p (.lst ((bitsI n m).map V.int)))
def byt (n : Int) : Bool := decide (0 ≤ n) && decide (n ≤ 255)
theorem byt_iff {n : Int} : byt n = true ↔ 0 ≤ n ∧ n ≤ 255 := by unfold byt; simp
def spByt : Sp := fun vs H Q _ => ∃ n, vs = [.int n] ∧ Q (.bl (byt n)) H
def spBytes (K : PySem.W.Frag) : Sp := fun vs H Q _ => ∃ (a : Addr) (ns : List Int), vs = [.ref a] ∧ SqA K H a (ns.map V.int) ∧ ns.length ≤ 500 ∧ ∀ H', Same H H' → Q (.bl (ns.all byt)) H'
def FrOk (n : Int) (ds : List Int) : Prop := byt n = true ∧ ds.length ≤ 7 ∧ ds.all byt = true
def spChkF (K : PySem.W.Frag) (C : Addr) : Sp := fun vs H Q E => ∃ (n : Int) (a : Addr) (ds : List Int), vs = [.int n, .ref a] ∧ SqL K H a (ds.map V.int) ∧ ds.length ≤ 500 ∧ (FrOk n ds → ∀ H', Same H H' → Q .non H') ∧ (¬ FrOk n ds → ∀ H', Same H H' → E (.ref C) none H')
def b8 (d : Int) : List Int := bitsI d.toNat 8
def hdD (n : Int) (k : Nat) (ds : List Int) : List Int := [0] ++ b8 n ++ bitsI k 3 ++ (ds.map b8).flatten
def hd (n : Int) (ds : List Int) : List Int := hdD n ds.length ds
def fb (n : Int) (ds : List Int) : List Int := hd n ds ++ ck (hd n ds)
def spFrame (K : PySem.W.Frag) (C : Addr) : Sp := fun vs H Q E => ∃ (n : Int) (a : Addr) (ds : List Int), vs = [.int n, .ref a] ∧ SqL K H a (ds.map V.int) ∧ ds.length ≤ 500 ∧ (FrOk n ds → ∀ p H', H p = none → Same H H' → H' p = some (.lst ((fb n ds).map V.int)) → Q (.ref p) H') ∧ (¬ FrOk n ds → ∀ H', Same H H' → E (.ref C) none H')
theorem not_fr {n : Int} {ds : List Int} (h : ¬ byt n = true ∨ 7 < ds.length ∨ ∃ d ∈ ds, ¬ byt d = true) : ¬ FrOk n ds := fun ⟨h1, h2, h3⟩ => by
  rcases h with h | h | ⟨d, hd, h⟩
  · exact h h1
  · omega
  · exact h (List.all_eq_true.mp h3 d hd)
def spHead (K : PySem.W.Frag) : Sp := fun vs H Q _ => ∃ (n : Nat) (a : Addr) (ds : List Int), vs = [.int n, .ref a] ∧ SqL K H a (ds.map V.int) ∧ n < 256 ∧ ds.length ≤ 7 ∧ ds.all byt = true ∧ ∀ p H', H p = none → Same H H' → H' p = some (.lst ((hd n ds).map V.int)) → Q (.ref p) H'
structure Wr (w : List Int) (bs : List Int) : Prop where
  w : w = put bs
  bits : Bits bs
  ok : RdOk bs
structure On (w : List Int) : Prop where
  good : Good w
  le : 12 ≤ (kp w).length → (kp w).length ≤ 27 + 8 * szB (kp w)
  five : CmpB (kp w) → run w = 5
def spWireOf (K : PySem.W.Frag) (C : Addr) : Sp := fun vs H Q E => ∃ (n : Int) (a : Addr) (ds : List Int), vs = [.int n, .ref a] ∧ SqL K H a (ds.map V.int) ∧ ds.length ≤ 500 ∧ (FrOk n ds → ∀ p H', H p = none → Same H H' → H' p = some (.lst ((put (fb n ds)).map V.int)) → Q (.ref p) H') ∧ (¬ FrOk n ds → ∀ H', Same H H' → E (.ref C) none H')
def spVotes (C : Addr) : Sp := fun vs H Q E => ∃ v : Int, vs = [.int v] ∧ ((v = 1 ∨ v = 3 ∨ v = 5) → Q .non H) ∧ (¬ (v = 1 ∨ v = 3 ∨ v = 5) → E (.ref C) none H)
theorem mem_votes (v : Int) : decide (v ∈ [(1 : Int), 3, 5]) = true ↔ (v = 1 ∨ v = 3 ∨ v = 5) := by
  rw [decide_eq_true_iff]
  simp
structure TCl (K : PySem.W.Frag) (C : Addr) : Prop where
  cls : Cls K C
  n1 : NoAttr K C "votes"
  n2 : NoAttr K C "spoke"
  n3 : NoAttr K C "over"
  n4 : NoAttr K C "noughts"
abbrev tlF (v : Nat) (s : Bool) (o n : Nat) : List (Str × V) := [("votes", .int v), ("spoke", .bl s), ("over", .int o), ("noughts", .int n)]
def TlAt (C1 C2 : Addr) (H : Hp) (t : Addr) (v : Nat) (s : Bool) (o n : Nat) : Prop := ∃ C dx, (C = C1 ∨ C = C2) ∧ H t = some (.ins C dx (tlF v s o n))
def tlSays (s : Bool) (o : Nat) : Int := if o = 1 ∧ s = false then 0 else 1
def tlFault (s : Bool) (o : Nat) (b : Int) : Bool := if o = 1 then s && decide (b = 1) else decide (b = 0)
def tlN (o : Nat) (b : Int) (n : Nat) : Nat := if 9 ≤ o ∧ b = 0 then n + 1 else n
def tlVote (v o n : Nat) : Str := if o < 9 + v then ("more" : Str) else if v / 2 < n then ("refused" : Str) else ("taken" : Str)
def tlWord (v : Nat) (s : Bool) (o n : Nat) (b : Int) : Str := if 9 ≤ o then tlVote v (o + 1) (tlN o b n) else if tlFault s o b = true then ("fault" : Str) else ("more" : Str)
def But1 (H H' : Hp) (t : Addr) : Prop := ∀ x o, x ≠ t → H x = some o → H' x = some o
def spTlInit (K : PySem.W.Frag) (C1 C2 : Addr) : Sp := fun vs H Q _ => ∃ (t C dx : Addr) (v : Nat) (s : Bool), vs = [.ref t, .int v, .bl s] ∧ (C = C1 ∨ C = C2) ∧ H t = some (.ins C dx []) ∧ Q .non (upd H t (.ins C dx (tlF v s 0 0)))
def spTlMake (C : Addr) (s : Bool) : Sp := fun vs H Q _ => ∃ (t dx : Addr) (v : Nat), vs = [.ref t, .int v] ∧ H t = some (.ins C dx []) ∧ ∀ H', H' = upd H t (.ins C dx (tlF v s 0 0)) → Q .non H'
def spTlSays (C1 C2 : Addr) : Sp := fun vs H Q _ => ∃ t v s o n, vs = [.ref t] ∧ TlAt C1 C2 H t v s o n ∧ Q (.int (tlSays s o)) H
def spTlPlace (C1 C2 : Addr) : Sp := fun vs H Q _ => ∃ t v s o n, vs = [.ref t] ∧ TlAt C1 C2 H t v s o n ∧ Q (.int ((o : Nat) : Int)) H
def spTlFault (C1 C2 : Addr) : Sp := fun vs H Q _ => ∃ t v s o n, ∃ (a : Nat) (b : Int), vs = [.ref t, .int ((a : Nat) : Int), .int b] ∧ TlAt C1 C2 H t v s o n ∧ Q (.bl (tlFault s a b)) H
def spTlJudge (C1 C2 : Addr) : Sp := fun vs H Q _ => ∃ t v s o n, ∃ b : Int, vs = [.ref t, .int b] ∧ TlAt C1 C2 H t v s o n ∧ ∀ H', TlAt C1 C2 H' t v s o (if b = 0 then n + 1 else n) → But1 H H' t → Q (.str (tlVote v o (if b = 0 then n + 1 else n))) H'
def spTlHear (C1 C2 : Addr) : Sp := fun vs H Q _ => ∃ t v s o n, ∃ b : Int, vs = [.ref t, .int b] ∧ TlAt C1 C2 H t v s o n ∧ ∀ H', TlAt C1 C2 H' t v s (o + 1) (tlN o b n) → But1 H H' t → Q (.str (tlWord v s o n b)) H'
abbrev ctF (n : Int) : List (Str × V) := [("total", .int n)]
def CtAt (C : Addr) (H : Hp) (a : Addr) (n : Int) : Prop := ∃ dx, H a = some (.ins C dx (ctF n))
def spCtInit (C : Addr) : Sp := fun vs H Q _ => ∃ a dx, vs = [.ref a] ∧ H a = some (.ins C dx []) ∧ Q .non (upd H a (.ins C dx (ctF 0)))
def spCtB (C : Addr) (lim : Int) : Sp := fun vs H Q _ => ∃ a n, vs = [.ref a] ∧ CtAt C H a n ∧ Q (.bl (decide (lim ≤ n))) H
def spCtN (C : Addr) : Sp := fun vs H Q _ => ∃ a n, vs = [.ref a] ∧ CtAt C H a n ∧ Q (.int n) H
def mvd (n st : Int) : Int := if 18 ≤ n then n else max 0 (n + st)
def spCtMove (C : Addr) : Sp := fun vs H Q _ => ∃ a n st, vs = [.ref a, .int st] ∧ CtAt C H a n ∧ ∀ H', CtAt C H' a (mvd n st) → (∀ b, b ≠ a → H' b = H b) → Q .non H'
def spCtFault (C : Addr) : Sp := fun vs H Q _ => ∃ a n b, vs = [.ref a, .bl b] ∧ CtAt C H a n ∧ ∀ H', CtAt C H' a (mvd n (if b = true then 8 else 1)) → (∀ b, b ≠ a → H' b = H b) → Q .non H'
def spCtStep (C : Addr) (st : Int) : Sp := fun vs H Q _ => ∃ a n, vs = [.ref a] ∧ CtAt C H a n ∧ ∀ H', CtAt C H' a (mvd n st) → (∀ b, b ≠ a → H' b = H b) → Q .non H'
abbrev Own := Addr → Prop
def isT (o : HO) : Prop := ∃ vs, o = .tup vs
def Keep (o : Own) (H H' : Hp) : Prop := ∀ x v, H x = some v → (¬ o x ∨ isT v) → H' x = some v
def Mv (o : Own) (H : Hp) (o' : Own) (H' : Hp) : Prop := Keep o H H' ∧ ∀ x, o' x → o x ∨ H x = none
abbrev Or2 (a b : Own) : Own := fun x => a x ∨ b x
theorem Keep.tup {o : Own} {H H' : Hp} {x : Addr} {vs : List V} (k : Keep o H H') (e : H x = some (.tup vs)) : H' x = some (.tup vs) := k x _ e (.inr ⟨vs, rfl⟩)
theorem Keep.le {o o' : Own} {H H' : Hp} (k : Keep o H H') (h : ∀ x, o x → o' x) : Keep o' H H' := fun x v e z => k x v e (z.elim (fun y => .inl fun w => y (h x w)) .inr)
theorem Mv.out {o o1 : Own} {H H1 : Hp} (a : Mv o H o1 H1) {x : Addr} {v : HO} (e : H x = some v) (h : ¬ o x) : ¬ o1 x := fun w => (a.2 x w).elim h fun n => by rw [n] at e; cases e
structure Cs where
  (post count free speaks reads intail flag settles rests off reader streak rtail stail : Addr)
inductive Stc where
  | free (k : Nat) | speaks (n : Nat) (ds : List Int) (k : Nat) | reads (h : List Int) | tlS (v c : Nat) | tlR (n : Nat) (ds : List Int) (v c : Nat) | flag (l : Nat) (m : Bool) | settles (m : Bool) | rests (l : Nat) | off
abbrev Fr := Nat × List Int
structure PS where
  (m1 m2 vt : Nat) (wt up : List Fr) (tot : Int) (now : Stc)
abbrev wr (n : Nat) (ds : List Int) : List Int := put (fb (n : Int) ds)
def Stc.shown : Stc → Str × Nat
  | .free k => ("free", k)
  | .speaks _ _ k => ("speaks", k)
  | .reads h => ("reads", h.length)
  | .tlS v _ => ("tail speaks", v)
  | .tlR _ _ v _ => ("tail reads", v)
  | .flag l _ => ("flag", l)
  | .settles _ => ("settles", 0)
  | .rests l => ("rests", l)
  | .off => ("off", 0)
def saysP (S : PS) : Int := match S.now with
  | .free k => if S.wt = [] then 1 else if 12 ≤ S.tot ∧ k < 8 then 1 else 0
  | .speaks n ds k => (wr n ds).getD k 0
  | .tlS v _ => tlSays true v
  | .tlR _ _ v _ => tlSays false v
  | .flag _ _ => 0
  | _ => 1
def goneP (S : PS) (st : Int) (w : Str) (nx : Stc) : Str × PS := if 18 ≤ mvd S.tot st then ("off", { S with tot := mvd S.tot st, now := .off }) else (w, { S with tot := mvd S.tot st, now := nx })
def faultP (S : PS) (sp : Bool) : Str × PS := goneP S (if sp = true then 8 else 1) "fault" (.flag 6 (!sp))
def refuseP (S : PS) (sp : Bool) : Str × PS := goneP S (if sp = true then 8 else 1) "refuses" (.settles false)
def blameP (S : PS) : Str × PS := goneP S 8 "" (.settles false)
def wantP (S : PS) (n : Nat) : Bool := decide (Builtin.bitAnd ((n : Nat) : Int) ((S.m1 : Nat) : Int) = ((S.m2 : Nat) : Int))
def hearP (S : PS) (b : Int) : Str × PS := match S.now with
  | .free k => if saysP S = 0 then (if b = 0 then ("begins", { S with now := .speaks (S.wt.headD (0, [])).1 (S.wt.headD (0, [])).2 1 }) else faultP S true) else if b = 0 then ("", { S with now := .reads [0] }) else ("", { S with now := .free (k + 1) })
  | .speaks n ds k => if ans ((wr n ds).take k ++ [b]) = "six" then faultP S true else if (wr n ds).getD k 0 = 1 ∧ b = 0 ∧ (kp ((wr n ds).take k)).length < 9 then ("loses", { S with now := .reads ((wr n ds).take k ++ [b]) }) else if b = (wr n ds).getD k 0 then (if k + 1 = (wr n ds).length then ("", { S with now := .tlS 0 0 }) else ("", { S with now := .speaks n ds (k + 1) })) else faultP S true
  | .reads h => if ans (h ++ [b]) = "more" then ("", { S with now := .reads (h ++ [b]) }) else if ans (h ++ [b]) = "whole" then ("", { S with now := .tlR (nmB (kp (h ++ [b]))) (daB (kp (h ++ [b]))) 0 0 }) else faultP S false
  | .tlS v c => if tlWord S.vt true v c b = "more" then ("", { S with now := .tlS (v + 1) (tlN v b c) }) else if tlWord S.vt true v c b = "fault" then faultP S true else if tlWord S.vt true v c b = "refused" then refuseP S true else ("done", { S with tot := mvd S.tot (-1), wt := S.wt.tail, now := .rests 3 })
  | .tlR n ds v c => if tlWord S.vt false v c b = "more" then ("", { S with now := .tlR n ds (v + 1) (tlN v b c) }) else if tlWord S.vt false v c b = "fault" then faultP S false else if tlWord S.vt false v c b = "refused" then refuseP S false else ("takes", { S with tot := mvd S.tot (-1), up := if wantP S n = true then S.up ++ [(n, ds)] else S.up, now := .rests 3 })
  | .flag l m => if l = 1 then ("", { S with now := .settles m }) else ("", { S with now := .flag (l - 1) m })
  | .settles m => if b = 1 then ("", { S with now := .rests 3 }) else if m = true then blameP S else ("", S)
  | .rests l => if b = 0 then faultP S false else ("", { S with now := if l = 1 then .free 0 else .rests (l - 1) })
  | .off => ("", S)
def FrN (f : Fr) : Prop := f.1 < 256 ∧ f.2.length ≤ 7 ∧ f.2.all byt = true
theorem FrN.ok {f : Fr} (h : FrN f) : FrOk (f.1 : Int) f.2 := ⟨byt_iff.mpr ⟨by omega, by have := h.1; omega⟩, h.2.1, h.2.2⟩
def Stc.Wf (wt : List Fr) : Stc → Prop
  | .speaks n ds k => FrN (n, ds) ∧ 1 ≤ k ∧ k < (wr n ds).length ∧ wt ≠ []
  | .reads h => Bits h ∧ On h ∧ h.head? = some 0
  | .tlS _ _ => wt ≠ []
  | .flag l _ => 1 ≤ l
  | .rests l => 1 ≤ l
  | _ => True
structure Wf (S : PS) : Prop where
  vt : S.vt ≤ 5
  wt : ∀ f ∈ S.wt, FrN f
  now : S.now.Wf S.wt
def FrAt (H : Hp) (o : Own) (t : Addr) (f : Fr) : Prop := ∃ d, H t = some (.tup [.int ((f.1 : Nat) : Int), .ref d]) ∧ H d = some (.lst (f.2.map V.int)) ∧ o d
inductive FrsAt (H : Hp) (o : Own) : List V → List Fr → Prop
  | nil : FrsAt H o [] []
  | cons {t : Addr} {f : Fr} {ts : List V} {fs : List Fr} : FrAt H o t f → FrsAt H o ts fs → FrsAt H o (.ref t :: ts) (f :: fs)
theorem FrsAt.len {H : Hp} {o : Own} : ∀ {ts : List V} {fs : List Fr}, FrsAt H o ts fs → ts.length = fs.length
  | _, _, .nil => rfl
  | _, _, .cons _ r => congrArg (· + 1) r.len
theorem FrsAt.snoc {H : Hp} {o : Own} {t : Addr} {f : Fr} : ∀ {ts : List V} {fs : List Fr}, FrsAt H o ts fs → FrAt H o t f → FrsAt H o (ts ++ [.ref t]) (fs ++ [f])
  | _, _, .nil, h => .cons h .nil
  | _, _, .cons a r, h => .cons a (r.snoc h)
theorem FrAt.imp {H H' : Hp} {o o' : Own} {t : Addr} {f : Fr} (h : FrAt H o t f) (g : ∀ x v, H x = some v → (o x ∨ isT v) → H' x = some v) (w : ∀ x, o x → o' x) : FrAt H' o' t f := by
  obtain ⟨d, e1, e2, e3⟩ := h
  exact ⟨d, g _ _ e1 (.inr ⟨_, rfl⟩), g _ _ e2 (.inl e3), w d e3⟩
theorem FrsAt.imp {H H' : Hp} {o o' : Own} (g : ∀ x v, H x = some v → (o x ∨ isT v) → H' x = some v) (w : ∀ x, o x → o' x) : ∀ {ts : List V} {fs : List Fr}, FrsAt H o ts fs → FrsAt H' o' ts fs
  | _, _, .nil => .nil
  | _, _, .cons a r => .cons (a.imp g w) (r.imp g w)
theorem FrsAt.get {H : Hp} {o : Own} : ∀ {ts : List V} {fs : List Fr}, FrsAt H o ts fs → ∀ {i : Nat} {v : V}, ts[i]? = some v → ∃ t f, v = .ref t ∧ fs[i]? = some f ∧ FrAt H o t f
  | _, _, .cons a _, 0, _, rfl => ⟨_, _, rfl, rfl, a⟩
  | _, _, .cons _ r, i + 1, _, h => r.get (i := i) h
abbrev pF (ch : Addr) (vt : Nat) (wl ul ct nw : Addr) : List (Str × V) := [("choice", .ref ch), ("votes", .int vt), ("waiting", .ref wl), ("handed_up", .ref ul), ("tally", .ref ct), ("now", .ref nw)]
abbrev Dl (o : Own) (wl ul : Addr) : Own := fun x => o x ∧ x ≠ wl ∧ x ≠ ul
structure BAt (A : Cs) (H : Hp) (p nwf : Addr) (S : PS) (o : Own) (dx ch wl ul ct : Addr) (ws us : List V) : Prop where
  e : H p = some (.ins A.post dx (pF ch S.vt wl ul ct nwf))
  ec : H ch = some (.tup [.int S.m1, .int S.m2])
  ew : H wl = some (.lst ws)
  fw : FrsAt H (Dl o wl ul) ws S.wt
  eu : H ul = some (.lst us)
  fu : FrsAt H (Dl o wl ul) us S.up
  et : CtAt A.count H ct S.tot
  op : o p
  ow : o wl
  ou : o ul
  ot : o ct
  ne : wl ≠ ul
  al : ∀ x, o x → H x ≠ none
def Bd (A : Cs) (H : Hp) (p nwf : Addr) (S : PS) (o : Own) : Prop := ∃ dx ch wl ul ct ws us, BAt A H p nwf S o dx ch wl ul ct ws us
theorem BAt.move {A : Cs} {H H' : Hp} {p nwf : Addr} {S : PS} {o : Own} {dx ch wl ul ct : Addr} {ws us : List V} (h : BAt A H p nwf S o dx ch wl ul ct ws us) (g : ∀ x v, H x = some v → (o x ∨ isT v) → H' x = some v) : BAt A H' p nwf S o dx ch wl ul ct ws us :=
  ⟨g _ _ h.e (.inl h.op), g _ _ h.ec (.inr ⟨_, rfl⟩), g _ _ h.ew (.inl h.ow), h.fw.imp (fun x v e z => g x v e (z.imp_left And.left)) fun _ z => z, g _ _ h.eu (.inl h.ou), h.fu.imp (fun x v e z => g x v e (z.imp_left And.left)) fun _ z => z,
    let ⟨d, e⟩ := h.et; ⟨d, g _ _ e (.inl h.ot)⟩, h.op, h.ow, h.ou, h.ot, h.ne, fun x hx => by
      have := h.al x hx
      cases e : H x with
      | none => exact absurd e this
      | some v => rw [g x v e (.inl hx)]; simp⟩
theorem Bd.move {A : Cs} {H H' : Hp} {p nwf : Addr} {S : PS} {o : Own} (h : Bd A H p nwf S o) (g : ∀ x v, H x = some v → (o x ∨ isT v) → H' x = some v) : Bd A H' p nwf S o :=
  let ⟨dx, ch, wl, ul, ct, ws, us, b⟩ := h; ⟨dx, ch, wl, ul, ct, ws, us, b.move g⟩
theorem Bd.al {A : Cs} {H : Hp} {p nwf : Addr} {S : PS} {o : Own} (h : Bd A H p nwf S o) : ∀ x, o x → H x ≠ none := let ⟨_, _, _, _, _, _, _, b⟩ := h; b.al
def StAt (A : Cs) (H : Hp) (nw : Addr) (vt : Nat) (o : Own) : Stc → Prop
  | .free k => ∃ dx, H nw = some (.ins A.free dx [("since", .int ((k : Nat) : Int))])
  | .speaks n ds k => ∃ dx wa r st ks t, H nw = some (.ins A.speaks dx [("wire", .ref wa), ("reader", .ref r), ("many", .int ((k : Nat) : Int))]) ∧ H wa = some (.lst ((wr n ds).map V.int)) ∧ RdAt A.reader A.streak H r st ks ((wr n ds).take k) t ∧ wa ≠ ks ∧ o wa ∧ o r ∧ o st ∧ o ks
  | .reads h => ∃ dx r st ks t, H nw = some (.ins A.reads dx [("reader", .ref r), ("many", .int ((h.length : Nat) : Int))]) ∧ RdAt A.reader A.streak H r st ks h t ∧ o r ∧ o st ∧ o ks
  | .tlS v c => ∃ dx tl, H nw = some (.ins A.intail dx [("tail", .ref tl), ("found", .non)]) ∧ TlAt A.rtail A.stail H tl vt true v c ∧ o tl
  | .tlR n ds v c => ∃ dx tl t d, H nw = some (.ins A.intail dx [("tail", .ref tl), ("found", .ref t)]) ∧ TlAt A.rtail A.stail H tl vt false v c ∧ H t = some (.tup [.int ((n : Nat) : Int), .ref d]) ∧ H d = some (.lst (ds.map V.int)) ∧ o tl ∧ o d
  | .flag l m => ∃ dx, H nw = some (.ins A.flag dx [("left", .int ((l : Nat) : Int)), ("may_blame", .bl m)])
  | .settles m => ∃ dx, H nw = some (.ins A.settles dx [("may_blame", .bl m)])
  | .rests l => ∃ dx, H nw = some (.ins A.rests dx [("left", .int ((l : Nat) : Int))])
  | .off => ∃ dx, H nw = some (.ins A.off dx [])
structure StW (A : Cs) (H : Hp) (nw : Addr) (S : PS) (o : Own) : Prop where
  at_ : StAt A H nw S.vt o S.now
  on : o nw
  al : ∀ x, o x → H x ≠ none
theorem rd_move {C CK : Addr} {H H' : Hp} {r st ks : Addr} {w : List Int} {t : Str} (h : RdAt C CK H r st ks w t) (g1 : ∀ v, H r = some v → H' r = some v) (g2 : ∀ v, H st = some v → H' st = some v) (g3 : ∀ v, H ks = some v → H' ks = some v) : RdAt C CK H' r st ks w t :=
  ⟨let ⟨d, e⟩ := h.rd; ⟨d, g1 _ e⟩, let ⟨d, e⟩ := h.sk; ⟨d, g2 _ e⟩, g3 _ h.kp⟩
theorem StW.move {A : Cs} {H H' : Hp} {nw : Addr} {S : PS} {o : Own} (h : StW A H nw S o) (g : ∀ x v, H x = some v → (o x ∨ isT v) → H' x = some v) : StW A H' nw S o := by
  obtain ⟨a, on, al⟩ := h
  have gn : ∀ v, H nw = some v → H' nw = some v := fun v e => g _ _ e (.inl on)
  refine ⟨?_, on, fun x hx => ?_⟩
  · revert a
    generalize S.now = s
    cases s with
    | free k => exact fun ⟨dx, e⟩ => ⟨dx, gn _ e⟩
    | speaks n ds k => exact fun ⟨dx, wa, r, st, ks, t, e, e1, e2, e3, o1, o2, o3, o4⟩ => ⟨dx, wa, r, st, ks, t, gn _ e, g _ _ e1 (.inl o1), rd_move e2 (fun v z => g _ _ z (.inl o2)) (fun v z => g _ _ z (.inl o3)) (fun v z => g _ _ z (.inl o4)), e3, o1, o2, o3, o4⟩
    | reads w => exact fun ⟨dx, r, st, ks, t, e, e2, o2, o3, o4⟩ => ⟨dx, r, st, ks, t, gn _ e, rd_move e2 (fun v z => g _ _ z (.inl o2)) (fun v z => g _ _ z (.inl o3)) (fun v z => g _ _ z (.inl o4)), o2, o3, o4⟩
    | tlS v c => exact fun ⟨dx, tl, e, ⟨C, d, hC, e1⟩, o1⟩ => ⟨dx, tl, gn _ e, ⟨C, d, hC, g _ _ e1 (.inl o1)⟩, o1⟩
    | tlR n ds v c => exact fun ⟨dx, tl, t, d, e, ⟨C, d', hC, e1⟩, e2, e3, o1, o2⟩ => ⟨dx, tl, t, d, gn _ e, ⟨C, d', hC, g _ _ e1 (.inl o1)⟩, g _ _ e2 (.inr ⟨_, rfl⟩), g _ _ e3 (.inl o2), o1, o2⟩
    | flag l m => exact fun ⟨dx, e⟩ => ⟨dx, gn _ e⟩
    | settles m => exact fun ⟨dx, e⟩ => ⟨dx, gn _ e⟩
    | rests l => exact fun ⟨dx, e⟩ => ⟨dx, gn _ e⟩
    | off => exact fun ⟨dx, e⟩ => ⟨dx, gn _ e⟩
  · have := al x hx
    cases e : H x with
    | none => exact absurd e this
    | some v => rw [g x v e (.inl hx)]; simp
def PostAt (A : Cs) (H : Hp) (p : Addr) (S : PS) (o : Own) : Prop := ∃ nw ob os, Bd A H p nw S ob ∧ StW A H nw S os ∧ (∀ x, ob x → os x → False) ∧ Wf S ∧ (∀ x, ob x ∨ os x → o x) ∧ ∀ x, o x → H x ≠ none
theorem PostAt.move {A : Cs} {H H' : Hp} {p : Addr} {S : PS} {o : Own} (h : PostAt A H p S o) (g : ∀ x v, H x = some v → (o x ∨ isT v) → H' x = some v) : PostAt A H' p S o := by
  obtain ⟨nw, ob, os, b, s, d, w, i, al⟩ := h
  refine ⟨nw, ob, os, b.move fun x v e z => g x v e (z.imp_left fun y => i x (.inl y)), s.move fun x v e z => g x v e (z.imp_left fun y => i x (.inr y)), d, w, i, fun x hx => ?_⟩
  have := al x hx
  cases e : H x with
  | none => exact absurd e this
  | some v => rw [g x v e (.inl hx)]; simp
theorem PostAt.same {A : Cs} {H H' : Hp} {p : Addr} {S : PS} {o : Own} (h : PostAt A H p S o) (g : Same H H') : PostAt A H' p S o := h.move fun x v e _ => g x v e
theorem PostAt.wf {A : Cs} {H : Hp} {p : Addr} {S : PS} {o : Own} (h : PostAt A H p S o) : Wf S := let ⟨_, _, _, _, _, _, w, _, _⟩ := h; w
theorem PostAt.al {A : Cs} {H : Hp} {p : Addr} {S : PS} {o : Own} (h : PostAt A H p S o) : ∀ x, o x → H x ≠ none := let ⟨_, _, _, _, _, _, _, _, a⟩ := h; a
theorem PostAt.new {A : Cs} {H : Hp} {p x : Addr} {S : PS} {o : Own} (h : PostAt A H p S o) (n : H x = none) : ¬ o x := fun z => h.al x z n
theorem PostAt.put {A : Cs} {H : Hp} {p a : Addr} {S : PS} {o : Own} {xs ys : List V} (h : PostAt A H p S o) (e : H a = some (.lst xs)) (n : ¬ o a) : PostAt A (upd H a (.lst ys)) p S o := h.move fun x v ex z => by
  rw [upd_ne]
  · exact ex
  · rintro rfl
    rcases z with z | ⟨vs, rfl⟩
    · exact n z
    · rw [e] at ex; cases ex
theorem sq0 {v : V} {vs : List V} : seqIndex? (0 : Int) (v :: vs).length = some 0 := by
  unfold seqIndex?
  rw [List.length_cons]
  simp
theorem upd_upd (H : Hp) (a : Addr) (x y : HO) : upd (upd H a x) a y = upd H a y := by
  funext z
  by_cases h : z = a
  · rw [h, upd_same, upd_same]
  · rw [upd_ne h, upd_ne h, upd_ne h]
def spIni1 (C : Addr) (f : Str) : Sp := fun vs H Q _ => ∃ a dx v, vs = [.ref a, v] ∧ H a = some (.ins C dx []) ∧ ∀ H', H' = upd H a (.ins C dx [(f, v)]) → Q .non H'
def spIni2 (C : Addr) (f g : Str) : Sp := fun vs H Q _ => ∃ a dx v w, vs = [.ref a, v, w] ∧ H a = some (.ins C dx []) ∧ ∀ H', H' = upd H a (.ins C dx [(f, v), (g, w)]) → Q .non H'
def spIni3 (C : Addr) (f g h : Str) : Sp := fun vs H Q _ => ∃ a dx v w z, vs = [.ref a, v, w, z] ∧ H a = some (.ins C dx []) ∧ ∀ H', H' = upd H a (.ins C dx [(f, v), (g, w), (h, z)]) → Q .non H'
def spBegun (A : Cs) : Sp := fun vs H Q _ => vs = [] ∧ ∀ r st ks H' t, RdAt A.reader A.streak H' r st ks [0] t → Same H H' → H r = none → H st = none → H ks = none → Q (.ref r) H'
def spBdB (A : Cs) (lim : Int) : Sp := fun vs H Q _ => ∃ p nwf S o, vs = [.ref p] ∧ Bd A H p nwf S o ∧ Q (.bl (decide (lim ≤ S.tot))) H
def spBdN (A : Cs) : Sp := fun vs H Q _ => ∃ p nwf S o, vs = [.ref p] ∧ Bd A H p nwf S o ∧ Q (.int S.tot) H
def spHas (A : Cs) : Sp := fun vs H Q _ => ∃ p nwf S o, vs = [.ref p] ∧ Bd A H p nwf S o ∧ Q (.bl (decide (0 < (S.wt.length : Int)))) H
def spForemost (A : Cs) : Sp := fun vs H Q _ => ∃ p nwf S o f r, vs = [.ref p] ∧ Bd A H p nwf S o ∧ S.wt = f :: r ∧ FrN f ∧ ∀ pw H', H pw = none → Same H H' → H' pw = some (.lst ((wr f.1 f.2).map V.int)) → Q (.ref pw) H'
def spDrop (A : Cs) : Sp := fun vs H Q _ => ∃ p nwf S o, vs = [.ref p] ∧ Bd A H p nwf S o ∧ S.wt ≠ [] ∧ ∀ H', Bd A H' p nwf { S with wt := S.wt.tail } o → Keep o H H' → Q .non H'
def spHandUp (A : Cs) : Sp := fun vs H Q _ => ∃ p nwf S o t d n ds, vs = [.ref p, .ref t] ∧ Bd A H p nwf S o ∧ H t = some (.tup [.int ((n : Nat) : Int), .ref d]) ∧ H d = some (.lst (ds.map V.int)) ∧ ¬ o d ∧ S.up.length < 900 ∧
  ∀ H', Bd A H' p nwf { S with up := if wantP S n = true then S.up ++ [(n, ds)] else S.up } (Or2 o fun x => x = d) → Keep o H H' → Q .non H'
def spHand (K : PySem.W.Frag) (A : Cs) (C : Addr) : Sp := fun vs H Q E => ∃ p nwf S o n a ds, vs = [.ref p, .int n, .ref a] ∧ Bd A H p nwf S o ∧ SqL K H a (ds.map V.int) ∧ ds.length ≤ 500 ∧ S.wt.length < 900 ∧
  (FrOk n ds → ∀ H' d, H d = none → Bd A H' p nwf { S with wt := S.wt ++ [(n.toNat, ds)] } (Or2 o fun x => x = d) → Keep o H H' → Q .non H') ∧ (¬ FrOk n ds → ∀ H', Same H H' → E (.ref C) none H')
inductive FrsNew (H H' : Hp) : List V → List Fr → Prop
  | nil : FrsNew H H' [] []
  | cons {t d : Addr} {f : Fr} {ts : List V} {fs : List Fr} : H t = none → H d = none → H' t = some (.tup [.int ((f.1 : Nat) : Int), .ref d]) → H' d = some (.lst (f.2.map V.int)) → FrsNew H H' ts fs → FrsNew H H' (.ref t :: ts) (f :: fs)
theorem FrsNew.snoc {H H' : Hp} {t d : Addr} {f : Fr} (h1 : H t = none) (h2 : H d = none) (e1 : H' t = some (.tup [.int ((f.1 : Nat) : Int), .ref d])) (e2 : H' d = some (.lst (f.2.map V.int))) : ∀ {ts : List V} {fs : List Fr}, FrsNew H H' ts fs → FrsNew H H' (ts ++ [.ref t]) (fs ++ [f])
  | _, _, .nil => .cons h1 h2 e1 e2 .nil
  | _, _, .cons a1 a2 a3 a4 r => .cons a1 a2 a3 a4 (r.snoc h1 h2 e1 e2)
theorem FrsNew.same {H H' H2 : Hp} (g : Same H' H2) : ∀ {ts : List V} {fs : List Fr}, FrsNew H H' ts fs → FrsNew H H2 ts fs
  | _, _, .nil => .nil
  | _, _, .cons a1 a2 a3 a4 r => .cons a1 a2 (g _ _ a3) (g _ _ a4) (r.same g)
theorem FrsNew.len {H H' : Hp} : ∀ {ts : List V} {fs : List Fr}, FrsNew H H' ts fs → ts.length = fs.length
  | _, _, .nil => rfl
  | _, _, .cons _ _ _ _ r => congrArg (· + 1) r.len
def spCopies (K : PySem.W.Frag) : Sp := fun vs H Q _ => ∃ (a : Addr) (ts : List V) (fs : List Fr) (o : Own), vs = [.ref a] ∧ H a = some (.lst ts) ∧ FrsAt H o ts fs ∧ fs.length ≤ 900 ∧ ∀ l xs H', H l = none → Same H H' → H' l = some (.lst xs) → FrsNew H H' xs fs → Q (.ref l) H'
def spWaits (A : Cs) : Sp := fun vs H Q _ => ∃ p nwf S o, vs = [.ref p] ∧ Bd A H p nwf S o ∧ S.wt.length ≤ 900 ∧ ∀ l xs H', H l = none → Same H H' → H' l = some (.lst xs) → FrsNew H H' xs S.wt → Q (.ref l) H'
def spGot (A : Cs) : Sp := fun vs H Q _ => ∃ p nwf S o, vs = [.ref p] ∧ Bd A H p nwf S o ∧ S.up.length ≤ 900 ∧ ∀ l xs H', H l = none → Same H H' → H' l = some (.lst xs) → FrsNew H H' xs S.up → Q (.ref l) H'
def spUnless (A : Cs) : Sp := fun vs H Q _ => ∃ p nwf S o w nx, vs = [.ref p, .str w, .ref nx] ∧ Bd A H p nwf S o ∧ (¬ 18 ≤ S.tot → ∀ t H', Same H H' → H' t = some (.tup [.str w, .ref nx]) → Q (.ref t) H') ∧
  (18 ≤ S.tot → ∀ t nw dx H', Same H H' → H nw = none → H' nw = some (.ins A.off dx []) → H' t = some (.tup [.str "off", .ref nw]) → Q (.ref t) H')
def Aft (A : Cs) (H : Hp) (p nwf : Addr) (o : Own) (r : Str × PS) (t : Addr) (H' : Hp) : Prop := ∃ nw' os', H' t = some (.tup [.str r.1, .ref nw']) ∧ Bd A H' p nwf r.2 o ∧ StW A H' nw' r.2 os' ∧ (∀ x, os' x → H x = none) ∧ Keep o H H'
def Stp (A : Cs) (H : Hp) (p nwf : Addr) (ob os : Own) (r : Str × PS) (t : Addr) (H' : Hp) : Prop := ∃ nw' ob' os', H' t = some (.tup [.str r.1, .ref nw']) ∧ Bd A H' p nwf r.2 ob' ∧ StW A H' nw' r.2 os' ∧ (∀ x, ob' x → os' x → False) ∧ Mv (Or2 ob os) H (Or2 ob' os') H'
def spFault (A : Cs) : Sp := fun vs H Q _ => ∃ p nwf S o sp, vs = [.ref p, .bl sp] ∧ Bd A H p nwf S o ∧ ∀ t H', Aft A H p nwf o (faultP S sp) t H' → Q (.ref t) H'
def spRefusal (A : Cs) : Sp := fun vs H Q _ => ∃ p nwf S o sp, vs = [.ref p, .bl sp] ∧ Bd A H p nwf S o ∧ ∀ t H', Aft A H p nwf o (refuseP S sp) t H' → Q (.ref t) H'
def spBlame (A : Cs) : Sp := fun vs H Q _ => ∃ p nwf S o, vs = [.ref p] ∧ Bd A H p nwf S o ∧ ∀ t H', Aft A H p nwf o (blameP S) t H' → Q (.ref t) H'
def spWanted (K : PySem.W.Frag) : Sp := fun vs H Q _ => ∃ (c : Addr) (m t n : Int), vs = [.ref c, .int n] ∧ H c = some (.tup [.int m, .int t]) ∧ Q (.bl (decide (Builtin.bitAnd n m = t))) H
def spChoice (K : PySem.W.Frag) (C : Addr) : Sp := fun vs H Q E => ∃ (a : Addr) (ns : List Int), vs = [.ref a] ∧ SqT K H a (ns.map V.int) ∧ ns.length ≤ 500 ∧ (ns.all byt = true → ∀ H', Same H H' → Q .non H') ∧ (¬ ns.all byt = true → ∀ H', Same H H' → E (.ref C) none H')
def S0 (m1 m2 v : Nat) : PS := ⟨m1, m2, v, [], [], 0, .free 0⟩
def PoOk (m1 m2 v : Int) : Prop := byt m1 = true ∧ byt m2 = true ∧ (v = 1 ∨ v = 3 ∨ v = 5)
def spPostInit (K : PySem.W.Frag) (A : Cs) (C : Addr) : Sp := fun vs H Q E => ∃ (a dx ch : Addr) (m1 m2 v : Int), vs = [.ref a, .ref ch, .int v] ∧ H a = some (.ins A.post dx []) ∧ H ch = some (.tup [.int m1, .int m2]) ∧
  (PoOk m1 m2 v → ∀ H' o, PostAt A H' a (S0 m1.toNat m2.toNat v.toNat) o → (∀ x, o x → x = a ∨ H x = none) → (∀ x u, x ≠ a → H x = some u → H' x = some u) → Q .non H') ∧ (¬ PoOk m1 m2 v → ∀ H', (∀ x u, x ≠ a → H x = some u → H' x = some u) → E (.ref C) none H')
theorem list_put {A : Cs} {H : Hp} {p nwf : Addr} {S : PS} {o : Own} {dx ch wl ul ct a : Addr} {ws us ys : List V} (b : BAt A H p nwf S o dx ch wl ul ct ws us) (ha : a = wl ∨ a = ul) :
    Keep o H (upd H a (.lst ys)) ∧ upd H a (.lst ys) p = H p ∧ upd H a (.lst ys) ch = H ch ∧ upd H a (.lst ys) ct = H ct ∧ (∀ {ts : List V} {fs : List Fr}, FrsAt H (Dl o wl ul) ts fs → FrsAt (upd H a (.lst ys)) (Dl o wl ul) ts fs) ∧ ∀ x, o x → upd H a (.lst ys) x ≠ none := by
  have ea : ∃ l, H a = some (.lst l) := ha.elim (fun z => ⟨_, z ▸ b.ew⟩) fun z => ⟨_, z ▸ b.eu⟩
  obtain ⟨l, ea⟩ := ea
  have oa : o a := ha.elim (fun z => z ▸ b.ow) fun z => z ▸ b.ou
  have kk : Keep o H (upd H a (.lst ys)) := fun x v e z => by
    rw [upd_ne]
    · exact e
    · rintro rfl
      rcases z with z | ⟨vs, rfl⟩
      · exact z oa
      · rw [ea] at e; cases e
  have nl : ∀ {x : Addr} {v : HO}, H x = some v → (∀ l, v ≠ .lst l) → upd H a (.lst ys) x = H x := fun {x v} e h => by
    rw [upd_ne]
    rintro rfl
    rw [ea] at e
    exact h _ (Option.some.inj e).symm
  refine ⟨kk, nl b.e (fun l z => nomatch z), nl b.ec (fun l z => nomatch z), (let ⟨d, e⟩ := b.et; nl e fun l z => nomatch z), fun {ts fs} h => ?_, fun x hx => ?_⟩
  · induction h with
    | nil => exact .nil
    | cons a' _ ih =>
      obtain ⟨d, e1, e2, e3⟩ := a'
      refine .cons ⟨d, kk.tup e1, ?_, e3⟩ ih
      rw [upd_ne (ha.elim (fun z => z ▸ e3.2.1) fun z => z ▸ e3.2.2)]
      exact e2
  · by_cases h : x = a
    · rw [h, upd_same]; simp
    · rw [upd_ne h]; exact b.al x hx
def Stc.tag : Stc → Nat
  | .free _ => 0
  | .speaks _ _ _ => 1
  | .reads _ => 2
  | .tlS _ _ => 3
  | .tlR _ _ _ _ => 3
  | .flag _ _ => 4
  | .settles _ => 5
  | .rests _ => 6
  | .off => 7
def spShown (A : Cs) (i : Nat) : Sp := fun vs H Q _ => ∃ nw S o, vs = [.ref nw] ∧ S.now.tag = i ∧ StW A H nw S o ∧ ∀ t H', H t = none → Same H H' → H' t = some (.tup [.str S.now.shown.1, .int ((S.now.shown.2 : Nat) : Int)]) → Q (.ref t) H'
def spStSays (A : Cs) (i : Nat) : Sp := fun vs H Q _ => ∃ nw p nwf S ob os, vs = [.ref nw, .ref p] ∧ S.now.tag = i ∧ Bd A H p nwf S ob ∧ StW A H nw S os ∧ Wf S ∧ Q (.int (saysP S)) H
def spStStep (A : Cs) (i : Nat) : Sp := fun vs H Q _ => ∃ nw p nwf S ob os b, vs = [.ref nw, .int b, .ref p] ∧ S.now.tag = i ∧ Bd A H p nwf S ob ∧ StW A H nw S os ∧ (∀ x, ob x → os x → False) ∧ Wf S ∧ (b = 0 ∨ b = 1) ∧ S.up.length < 900 ∧ ∀ t H', Stp A H p nwf ob os (hearP S b) t H' → Q (.ref t) H'
structure Bef (S S' : PS) : Prop where
  e1 : S'.m1 = S.m1
  e2 : S'.m2 = S.m2
  e3 : S'.vt = S.vt
  e4 : S'.wt = S.wt
  e5 : S'.up = S.up
  e6 : S'.tot = S.tot
theorem stw_one {A : Cs} {H : Hp} {nw : Addr} {S : PS} {v : HO} (e : H nw = some v) (h : StAt A H nw S.vt (fun x => x = nw) S.now) : StW A H nw S (fun x => x = nw) := ⟨h, rfl, fun x hx => by
  have hx' : x = nw := hx
  rw [hx', e]; simp⟩
theorem say_free {S : PS} {k : Nat} (e : S.now = .free k) : saysP S = if S.wt = [] then 1 else if 12 ≤ S.tot ∧ k < 8 then 1 else 0 := by unfold saysP; rw [e]
def spPoShown (A : Cs) : Sp := fun vs H Q _ => ∃ p S o, vs = [.ref p] ∧ PostAt A H p S o ∧ ∀ t H', H t = none → Same H H' → H' t = some (.tup [.str S.now.shown.1, .int ((S.now.shown.2 : Nat) : Int)]) → Q (.ref t) H'
def spPoSays (A : Cs) : Sp := fun vs H Q _ => ∃ p S o, vs = [.ref p] ∧ PostAt A H p S o ∧ Q (.int (saysP S)) H
def spPoHear (A : Cs) : Sp := fun vs H Q _ => ∃ p S o b, vs = [.ref p, .int b] ∧ PostAt A H p S o ∧ (b = 0 ∨ b = 1) ∧ S.up.length < 900 ∧ ∀ H' o', PostAt A H' p (hearP S b).2 o' → Mv o H o' H' → Q (.str (hearP S b).1) H'
structure Mid (H : Hp) (a : Addr) (v : HO) (cs : List (Addr × HO)) (Hx : Hp) : Prop where
  ea : Hx a = some v
  kp : ∀ x u, x ≠ a → H x = some u → Hx x = some u
  nw : ∀ c ∈ cs, H c.1 = none ∧ c.1 ≠ a ∧ Hx c.1 = some c.2
  nd : (cs.map Prod.fst).Nodup
theorem Mid.set {H : Hp} {a : Addr} {v : HO} {cs : List (Addr × HO)} {Hx : Hp} (m : Mid H a v cs Hx) (v' : HO) : Mid H a v' cs (upd Hx a v') :=
  ⟨upd_same, fun x u hx h => by rw [upd_ne hx]; exact m.kp x u hx h, fun c hc => ⟨(m.nw c hc).1, (m.nw c hc).2.1, by rw [upd_ne (m.nw c hc).2.1]; exact (m.nw c hc).2.2⟩, m.nd⟩
theorem Mid.add {H : Hp} {a y : Addr} {v o : HO} {cs : List (Addr × HO)} {Hx Hy : Hp} (m : Mid H a v cs Hx) (hn : Hx y = none) (g : Same Hx Hy) (e : Hy y = some o) : Mid H a v ((y, o) :: cs) Hy := by
  have ya : y ≠ a := fun z => by rw [z, m.ea] at hn; cases hn
  refine ⟨g _ _ m.ea, fun x u hx h => g _ _ (m.kp x u hx h), fun c hc => ?_, List.nodup_cons.mpr ⟨fun h => ?_, m.nd⟩⟩
  · rcases List.mem_cons.mp hc with rfl | hc
    · refine ⟨?_, ya, e⟩
      cases eh : H y with
      | none => rfl
      | some u => rw [m.kp y u ya eh] at hn; cases hn
    · exact ⟨(m.nw c hc).1, (m.nw c hc).2.1, g _ _ (m.nw c hc).2.2⟩
  · obtain ⟨c, hc, ec⟩ := List.mem_map.mp h
    have := (m.nw c hc).2.2
    rw [ec, hn] at this
    cases this
structure Row where
  (st : Str) (k : Nat) (said bit : Int) (w : Str)
def RowAt (H : Hp) (v : V) (r : Row) : Prop := ∃ t s, v = .ref t ∧ H t = some (.tup [.ref s, .int r.said, .int r.bit, .str r.w]) ∧ H s = some (.tup [.str r.st, .int ((r.k : Nat) : Int)])
inductive RowsAt (H : Hp) : List V → List Row → Prop
  | nil : RowsAt H [] []
  | cons {v : V} {r : Row} {vs : List V} {rs : List Row} : RowAt H v r → RowsAt H vs rs → RowsAt H (v :: vs) (r :: rs)
def Plays : PS → List Row → Prop
  | _, [] => True
  | S, r :: rs => S.now.shown = (r.st, r.k) ∧ saysP S = r.said ∧ (r.bit = 0 ∨ r.bit = 1) ∧ (hearP S r.bit).1 = r.w ∧ Plays (hearP S r.bit).2 rs
def endP : PS → List Row → PS
  | S, [] => S
  | S, r :: rs => endP (hearP S r.bit).2 rs
def spWhole : Sp := fun vs H Q _ => ∃ a b : Int, vs = [.int a, .int b] ∧ Q (.bl (decide (a = b))) H
def spStands (K : PySem.W.Frag) : Sp := fun vs H Q _ => ∃ (a b : Addr) (s : Str) (k : Nat), vs = [.ref a, .ref b] ∧ H a = some (.tup [.str s, .int ((k : Nat) : Int)]) ∧ H b = some (.tup [.str s, .int ((k : Nat) : Int)]) ∧ Q (.bl true) H
def spPlayed (A : Cs) : Sp := fun vs H Q _ => ∃ p S o a ws rs, vs = [.ref p, .ref a] ∧ PostAt A H p S o ∧ ¬ o a ∧ H a = some (.lst ws) ∧ RowsAt H ws rs ∧ rs.length ≤ 450 ∧ S.up.length + rs.length ≤ 899 ∧ Plays S rs ∧ ∀ H' o', PostAt A H' p (endP S rs) o' → Mv o H o' H' → Q (.bl true) H'
structure Lw (A : Cs) (H0 H : Hp) (p : Addr) (S : PS) (o : Own) : Prop where
  same : Same H0 H
  fr : ∀ x, o x → H0 x = none
  po : PostAt A H p S o
theorem Lw.new {A : Cs} {H0 H H' : Hp} {p : Addr} {S : PS} {o : Own} (h : Lw A H0 H p S o) (g : Same H H') : Lw A H0 H' p S o := ⟨h.same.trans g, h.fr, h.po.same g⟩
theorem Lw.step {A : Cs} {H0 H H' : Hp} {p : Addr} {S S' : PS} {o o' : Own} (h : Lw A H0 H p S o) (m : Mv o H o' H') (po : PostAt A H' p S' o') : Lw A H0 H' p S' o' := by
  refine ⟨fun x v e => m.1 x v (h.same x v e) (.inl fun z => by rw [h.fr x z] at e; cases e), fun x hx => ?_, po⟩
  rcases m.2 x hx with z | z
  · exact h.fr x z
  · exact h.same.none z
theorem Wf.hand {S : PS} {f : Fr} (h : Wf S) (hf : FrN f) : Wf { S with wt := S.wt ++ [f] } := by
  refine ⟨h.vt, fun g hg => ?_, ?_⟩
  · rcases List.mem_append.mp hg with z | z
    · exact h.wt g z
    · rw [List.mem_singleton.mp z]; exact hf
  · have hn := h.now
    have hne : S.wt ++ [f] ≠ [] := by intro z; have := (List.append_eq_nil_iff.mp z).2; cases this
    show Stc.Wf (S.wt ++ [f]) S.now
    revert hn
    cases S.now with
    | speaks n ds k => exact fun ⟨a, b, c, d⟩ => ⟨a, b, c, hne⟩
    | tlS v c => exact fun _ => hne
    | free k => exact fun z => z
    | reads h => exact fun z => z
    | tlR n ds v c => exact fun z => z
    | flag l m => exact fun z => z
    | settles m => exact fun z => z
    | rests l => exact fun z => z
    | off => exact fun z => z
theorem PostAt.hand {A : Cs} {H : Hp} {p : Addr} {S : PS} {o : Own} (h : PostAt A H p S o) : ∃ nw ob, Bd A H p nw S ob ∧ ∀ {n : Int} {ds : List Int}, FrOk n ds → ∀ H' d, H d = none → Bd A H' p nw { S with wt := S.wt ++ [(n.toNat, ds)] } (Or2 ob fun x => x = d) → Keep ob H H' → ∃ o', PostAt A H' p { S with wt := S.wt ++ [(n.toNat, ds)] } o' ∧ Mv o H o' H' := by
  obtain ⟨nw, ob, os, bd, st, dj, wf, inc, al⟩ := h
  refine ⟨nw, ob, bd, fun {n ds} ok H' d hd b' k => ?_⟩
  have hb := byt_iff.mp ok.1
  have hf : FrN (n.toNat, ds) := ⟨by show n.toNat < 256; omega, ok.2.1, ok.2.2⟩
  have s' : StW A H' nw S os := st.move fun x v e z => k x v e (z.imp_left fun y w => dj x w y)
  refine ⟨Or2 o fun x => x = d, ⟨nw, Or2 ob fun x => x = d, os, b', ⟨s'.at_, s'.on, s'.al⟩, ?_, wf.hand hf, ?_, ?_⟩, k.le fun x hx => inc x (.inl hx), fun x hx => ?_⟩
  · rintro x (hx | hx) hy
    · exact dj x hx hy
    · have hx' : x = d := hx
      rw [hx'] at hy
      exact al d (inc d (.inr hy)) hd
  · rintro x ((hx | hx) | hx)
    · exact .inl (inc x (.inl hx))
    · exact .inr hx
    · exact .inl (inc x (.inr hx))
  · rintro x (hx | hx)
    · rcases Classical.em (ob x) with c | c
      · exact b'.al x (.inl c)
      · cases e : H x with
        | none => exact absurd e (al x hx)
        | some v => rw [k x v e (.inl c)]; simp
    · exact b'.al x (.inr hx)
  · rcases hx with hx | hx
    · exact .inl hx
    · have hx' : x = d := hx
      rw [hx']; exact .inr hd
theorem post_lw {A : Cs} {H H1 H' : Hp} {p dp : Addr} {v : HO} {S : PS} {o : Own} (g : Same H H1) (hp : H1 p = none) (hdp : H1 dp = none) (hP : PostAt A H' p S o) (hin : ∀ x, o x → x = p ∨ upd (upd H1 dp (.own p)) p v x = none) (hk : ∀ x u, x ≠ p → upd (upd H1 dp (.own p)) p v x = some u → H' x = some u) : Lw A H H' p S o ∧ Same H1 H' := by
  have s1 : Same H1 H' := fun x u e => hk x u (ne_of_none e hp) (by rw [upd_ne (ne_of_none e hp), upd_ne (ne_of_none e hdp)]; exact e)
  refine ⟨⟨g.trans s1, fun x hx => ?_, hP⟩, s1⟩
  rcases hin x hx with h | h
  · rw [h]; exact g.none hp
  · refine g.none ?_
    by_cases c : x = p
    · rw [c, upd_same] at h; cases h
    · rw [upd_ne c] at h
      by_cases d : x = dp
      · rw [d, upd_same] at h; cases h
      · rw [upd_ne d] at h; exact h
theorem PostAt.bd {A : Cs} {H : Hp} {p : Addr} {S : PS} {o : Own} (h : PostAt A H p S o) : ∃ nw ob, Bd A H p nw S ob := let ⟨nw, ob, _, bd, _⟩ := h; ⟨nw, ob, bd⟩
theorem PostAt.cell {A : Cs} {H : Hp} {p : Addr} {S : PS} {o : Own} (h : PostAt A H p S o) : ∃ dx ch vt wl ul ct nw, H p = some (.ins A.post dx (pF ch vt wl ul ct nw)) := let ⟨nw, _, _, ⟨dx, ch, wl, ul, ct, _, _, b⟩, _⟩ := h; ⟨dx, ch, _, wl, ul, ct, nw, b.e⟩
theorem FrsNew.at_ {H H' : Hp} : ∀ {ts : List V} {fs : List Fr}, FrsNew H H' ts fs → FrsAt H' (fun _ => True) ts fs
  | _, _, .nil => .nil
  | _, _, .cons _ _ a3 a4 r => .cons ⟨_, a3, a4, trivial⟩ r.at_
def spAlikeF (K : PySem.W.Frag) : Sp := fun vs H Q _ => ∃ (a b : Addr) (xs ys : List V) (fs : List Fr) (o1 o2 : Own), vs = [.ref a, .ref b] ∧ H a = some (.lst xs) ∧ FrsAt H o1 xs fs ∧ H b = some (.lst ys) ∧ FrsAt H o2 ys fs ∧ fs.length ≤ 900 ∧ (∀ f ∈ fs, f.2.length ≤ 900) ∧ ∀ H', Same H H' → Q (.bl true) H'
def spPoShown0 (A : Cs) : Sp := fun vs H Q _ => ∃ p S o k, vs = [.ref p] ∧ S.now = .free k ∧ PostAt A H p S o ∧ ∀ t H', H t = none → Same H H' → H' t = some (.tup [.str "free", .int ((k : Nat) : Int)]) → Q (.ref t) H'
def spPoSays0 (A : Cs) : Sp := fun vs H Q _ => ∃ p S o k, vs = [.ref p] ∧ S.now = .free k ∧ PostAt A H p S o ∧ Q (.int (saysP S)) H
theorem not_byt {z : Int} (h : z < 0 ∨ 256 ≤ z) : ¬ byt z = true := fun q => by
  have := byt_iff.mp q
  omega
def spFar (K : PySem.W.Frag) : Sp := fun vs H Q _ => ∃ (a : Addr) (ns : List Int) (k : Nat), vs = [.ref a, .int ((k : Nat) : Int)] ∧ SqL K H a (ns.map V.int) ∧ ns.length ≤ 63 ∧ k ≤ 1000 ∧ ∀ (z : Int) H', (z < 0 ∨ 256 ≤ z) → Same H H' → Q (.int z) H'
def spOther2 (C D : Addr) : Sp := fun vs H Q _ => ∃ (a X : Addr), vs = [.ref a] ∧ (X = C ∨ X = D) ∧ (∃ od, H a = some (excO (.ref X) a od)) ∧ ∀ H', Same H H' → Q (.bl false) H'
def spNoPost (K : PySem.W.Frag) : Sp := fun vs H Q _ => ∃ (ch : Addr) (m1 m2 v : Int), vs = [.ref ch, .int v] ∧ H ch = some (.tup [.int m1, .int m2]) ∧ ¬ PoOk m1 m2 v ∧ ∀ H', Same H H' → Q (.bl true) H'
def spNoFrame (K : PySem.W.Frag) (A : Cs) : Sp := fun vs H Q _ => ∃ (p nwf : Addr) (S : PS) (o : Own) (n : Int) (a : Addr) (ds : List Int), vs = [.ref p, .int n, .ref a] ∧ Bd A H p nwf S o ∧ SqL K H a (ds.map V.int) ∧ ds.length ≤ 500 ∧ S.wt.length < 900 ∧ ¬ FrOk n ds ∧ ∀ H', Same H H' → Q (.bl true) H'
def spNewP (A : Cs) : Sp := fun vs H Q _ => ∃ p S o, vs = [.ref p] ∧ PostAt A H p S o ∧ S.now = .free 0 ∧ S.wt = [] ∧ S.up = [] ∧ S.tot = 0 ∧ ∀ H', Same H H' → Q (.bl true) H'
def spData (K : PySem.W.Frag) : Sp := fun vs H Q _ => ∃ (a : Addr) (ns : List Int) (k : Nat), vs = [.ref a, .int ((k : Nat) : Int)] ∧ SqL K H a (ns.map V.int) ∧ ns.length ≤ 63 ∧ k ≤ 1000 ∧ ∀ (p : Addr) (ds : List Int) (H' : Hp), H p = none → Same H H' → H' p = some (.lst (ds.map V.int)) → ds.length ≤ 7 → ds.all byt = true → Q (.ref p) H'
def spSpoil (K : PySem.W.Frag) (A : Cs) : Sp := fun vs H Q _ => ∃ (a : Addr) (ns : List Int) (p nwf : Addr) (S : PS) (o : Own) (k : Nat) (t d : Addr) (f : Fr), vs = [.ref a, .ref p, .int ((k : Nat) : Int), .ref t] ∧ SqL K H a (ns.map V.int) ∧ ns.length ≤ 63 ∧ Bd A H p nwf S o ∧ S.wt.length < 900 ∧ H t = some (.tup [.int ((f.1 : Nat) : Int), .ref d]) ∧ H d = some (.lst (f.2.map V.int)) ∧ FrN f ∧ k ≤ 900 ∧ ∀ H', Same H H' → Q (.bl true) H'
theorem dv_free {K : PySem.W.Frag} {H : Hp} {t : Addr} {s : Str} {k : Int} (e : H t = some (.tup [.str s, .int k])) : DV K H (.ref t) (.tuple [.str s, .int k]) := .tup (SqT.of e) (.cons (.str _) (.cons (.int _) .nil))
theorem shaped_free {s : Str} (hs : PyData.strOk s = true) (n : Int) : SeqAt.shaped (.tuple [.str s, .int n]) = true := by
  unfold SeqAt.shaped
  rw [Bool.and_eq_true]
  refine ⟨by simp only [PyData.canLay0, PyData.canLayAll0, hs, Bool.and_self], decide_eq_true ?_⟩
  simp only [PyData.depth, PyData.depthAll]
  decide
abbrev FB (P : Program) (w : World) (K : PySem.W.Frag) (mg : Str → Option Value) (base : Heap) (CX : CXT) (k : Nat) (nm : Str) (a : Addr) (d : FuncData) (ps : List Str) (sp : Sp) : Prop := FnOk P w K mg base CX k a d ps sp ∧ Binds K d ps [] ∧ PySem.W.keepIn K (.ref a) = true ∧ mg nm = some (.ref a)
abbrev NB (P : Program) (w : World) (K : PySem.W.Frag) (mg : Str → Option Value) (base : Heap) (CX : CXT) (k : Nat) (nm : Str) (a : Addr) (d : FuncData) (ps : List Str) (sp : Sp) : Prop := FnOkN P w K mg base CX k a d ps sp ∧ Binds K d ps [] ∧ PySem.W.keepIn K (.ref a) = true ∧ mg nm = some (.ref a)
abbrev MB (P : Program) (w : World) (K : PySem.W.Frag) (mg : Str → Option Value) (base : Heap) (CX : CXT) (k : Nat) (a : Addr) (d : FuncData) (ps : List Str) (sp : Sp) : Prop := FnOk P w K mg base CX k a d ps sp ∧ Binds K d ps []
abbrev FL (K : PySem.W.Frag) (f : Addr) (n q : Str) (st : Stmt) (oc : Value) (od : Option Addr) (kV dc pm : Value) (an : Option Addr) (cd ct : Value) (sl : Array (Option Value)) : Prop := K.lookup f = some ⟨oc, od, .func (PySem.W.fnOf n q (defArgs st) (defBody st) (defScope st) .none kV dc pm an cd ct), sl⟩
structure GFm (K : PySem.W.Frag) (mg : Str → Option Value) (nm : Str) (st : Stmt) (f : Addr) (d : FuncData) : Prop where
  F : Fun K nm nm st f d
  m : mg nm = some (.ref f)
def GF (K : PySem.W.Frag) (mg : Str → Option Value) (nm : Str) (st : Stmt) (f : Addr) : Prop := ∃ d, GFm K mg nm st f d
def MF (K : PySem.W.Frag) (C : Addr) (x q : Str) (st : Stmt) (f : Addr) : Prop := PySem.W.findIn K (.ref C) x = some (some (.ref f)) ∧ ∃ d, Fun K x q st f d
theorem gf_mk {K : PySem.W.Frag} {h : Heap} {mg : Str → Option Value} {nm : Str} {st : Stmt} {f : Addr} {oc kV dc pm cd ct : Value} {od an : Option Addr} {sl : Array (Option Value)} (X : K.In h) (G : h.Ns mainGlobals mg) (a : PySem.W.nsIn K mainGlobals nm = some (some (.ref f))) (l : FL K f nm nm st oc od kV dc pm an cd ct sl) (c : PySem.W.codeIn K cd nm = true) (k : PySem.W.keepIn K (.ref f) = true) : GF K mg nm st f := ⟨_, fun_mk l c k, PySem.W.mg_of X G a⟩
theorem mf_mk {K : PySem.W.Frag} {C : Addr} {x q : Str} {st : Stmt} {f : Addr} {oc kV dc pm cd ct : Value} {od an : Option Addr} {sl : Array (Option Value)} (a : PySem.W.findIn K (.ref C) x = some (some (.ref f))) (l : FL K f x q st oc od kV dc pm an cd ct sl) (c : PySem.W.codeIn K cd q = true) (k : PySem.W.keepIn K (.ref f) = true) : MF K C x q st f := ⟨a, _, fun_mk l c k⟩
abbrev HB (x q : Str) (st : Stmt) (ps : List Str) : Prop := ∀ (kV doc pm : Value) (an : Option Addr) (cdv ct : Value) (us : List Value), us.length = ps.length → bindArgs (PySem.W.fnOf x q (defArgs st) (defBody st) (defScope st) .none kV doc pm an cdv ct) ⟨us, []⟩ = pure (ps.zip us)
theorem bi1 {d : FuncData} {a : Str} (h : ∀ u, bindArgs d ⟨[u], []⟩ = pure [(a, u)]) : ∀ us : List Value, us.length = [a].length → bindArgs d ⟨us, []⟩ = pure ([a].zip us) | [u], _ => h u
theorem bi2 {d : FuncData} {a b : Str} (h : ∀ u v, bindArgs d ⟨[u, v], []⟩ = pure [(a, u), (b, v)]) : ∀ us : List Value, us.length = [a, b].length → bindArgs d ⟨us, []⟩ = pure ([a, b].zip us) | [u, v], _ => h u v
theorem bi3 {d : FuncData} {a b c : Str} (h : ∀ u v x, bindArgs d ⟨[u, v, x], []⟩ = pure [(a, u), (b, v), (c, x)]) : ∀ us : List Value, us.length = [a, b, c].length → bindArgs d ⟨us, []⟩ = pure ([a, b, c].zip us) | [u, v, x], _ => h u v x
theorem bi4 {d : FuncData} {a b c e : Str} (h : ∀ u v x y, bindArgs d ⟨[u, v, x, y], []⟩ = pure [(a, u), (b, v), (c, x), (e, y)]) : ∀ us : List Value, us.length = [a, b, c, e].length → bindArgs d ⟨us, []⟩ = pure ([a, b, c, e].zip us) | [u, v, x, y], _ => h u v x y
theorem sco {N ps : List Str} {sc : Scope} (h1 : sc.kind = .function ∧ sc.isCoroutine = false ∧ sc.isGenerator = false) (h2 : N.Nodup ∧ N.take ps.length = ps ∧ (∀ x ∈ ps, sc.names.lookup x = some .local ∨ sc.names.lookup x = some .cell) ∧ ∀ y ∈ sc.names, y.2 ≠ .free) : FnScope N ps sc := ⟨h1.1, h1.2.1, h1.2.2, h2.1, h2.2.1, h2.2.2.1, h2.2.2.2⟩
section
variable {P : Program} {w : World} {K : PySem.W.Frag} {mg : Str → Option Value} {base : Heap} {CX : CXT} {x q : Str} {st : Stmt} {f : Addr} {fd : FuncData} {ps : List Str} {k : Nat} {sp : Sp}
theorem mbM (N : List Str) (F : Fun K x q st f fd) (g : FnScope N ps (defScope st) → FnOk P w K mg base CX k f fd ps sp) (S : FnScope N ps (defScope st) := by exact sco ⟨rfl, rfl, rfl⟩ (by decide +kernel))
    (hb : HB x q st ps := by first | exact fun _ _ _ _ _ _ => bi1 fun _ => rfl | exact fun _ _ _ _ _ _ => bi2 fun _ _ => rfl | exact fun _ _ _ _ _ _ => bi3 fun _ _ _ => rfl | exact fun _ _ _ _ _ _ => bi4 fun _ _ _ _ => rfl | exact fun _ _ _ _ _ _ => bi5 fun _ _ _ _ _ => rfl | exact fun _ _ _ _ _ _ => bi6 fun _ _ _ _ _ _ => rfl | exact fun _ _ _ _ _ _ => bi0 rfl) : MB P w K mg base CX k f fd ps sp := ⟨g S, F.binds hb⟩
theorem fbM (N : List Str) (F : GFm K mg x st f fd) (g : FnScope N ps (defScope st) → FnOk P w K mg base CX k f fd ps sp) (S : FnScope N ps (defScope st) := by exact sco ⟨rfl, rfl, rfl⟩ (by decide +kernel))
    (hb : HB x x st ps := by first | exact fun _ _ _ _ _ _ => bi1 fun _ => rfl | exact fun _ _ _ _ _ _ => bi2 fun _ _ => rfl | exact fun _ _ _ _ _ _ => bi3 fun _ _ _ => rfl | exact fun _ _ _ _ _ _ => bi4 fun _ _ _ _ => rfl | exact fun _ _ _ _ _ _ => bi5 fun _ _ _ _ _ => rfl | exact fun _ _ _ _ _ _ => bi6 fun _ _ _ _ _ _ => rfl | exact fun _ _ _ _ _ _ => bi0 rfl) : FB P w K mg base CX k x f fd ps sp := ⟨g S, F.F.binds hb, F.F.kp, F.m⟩
end
theorem nbM {P : Program} {w : World} {K : PySem.W.Frag} {mg : Str → Option Value} {base : Heap} {CX : CXT} {x : Str} {st : Stmt} {f : Addr} {fd : FuncData} {ps : List Str} {k : Nat} {sp : Sp} (N : List Str) (F : GFm K mg x st f fd) (g : FnScope N ps (defScope st) → FnOkN P w K mg base CX k f fd ps sp) (S : FnScope N ps (defScope st) := by exact sco ⟨rfl, rfl, rfl⟩ (by decide +kernel))
    (hb : HB x x st ps := by first | exact fun _ _ _ _ _ _ => bi1 fun _ => rfl | exact fun _ _ _ _ _ _ => bi2 fun _ _ => rfl | exact fun _ _ _ _ _ _ => bi3 fun _ _ _ => rfl | exact fun _ _ _ _ _ _ => bi4 fun _ _ _ _ => rfl) : NB P w K mg base CX k x f fd ps sp := ⟨g S, F.F.binds hb, F.F.kp, F.m⟩
section
variable (P : Program) (w : World) {K : PySem.W.Frag} (mg : Str → Option Value) (base : Heap) {CA : Cs}
variable {ZbT Zcq Zbo ZaV Zan Zaz ZaA Zbd Zav ZaI ZaH Zbf ZcU ZaX Zbq Zbp Zbc Zbg Zao ZaW Zbe ZaJ Zbh ZbS Zcb ZaY Zba ZaZ Zau Zcc ZbR Zbb ZdF ZbQ Zb7 Zb8 Zcx Zp Zt ZbB ZbA Zb9 Zca Zcy Zdb : Addr}
variable {ZcK Zdj Zci Zcr Zbv ZbU ZbV ZcD ZbC Zcg Zcf ZcF Zdq Zct ZcZ Zcj ZbY ZcG Zbw Zcs ZcE Zch ZcH ZcJ Zc0 ZbD ZbW ZbE Za3 Zc1 ZcI ZbX ZdJ : FuncData}
variable {Zdh ZdB ZdH Zdi ZdA Zdo : Tok}
variable (ZaF : mg "HIGHEST_BYTE" = some (.int 255 Zdh))
variable (ZaG : mg "HIGHEST_NAME" = some (.int 255 Zdi))
variable (Zq : mg "NoFrame" = some (.ref Zp))
variable (Za1 : mg "MOST_BYTES" = some (.int 7 ZdA))
variable (Za2 : mg "QUIET_FROM" = some (.int 12 ZdB))
variable (Zbr : mg "OFF_FROM" = some (.int 18 ZdH))
variable (Zas : mg "VOTES" = some (.ref Zdb))
variable (Zw : mg "NoPost" = some (.ref Zt))
variable (Zcz : mg "Count" = some (.ref CA.count))
variable (Zc2 : mg "Free" = some (.ref CA.free))
variable (ZaO : mg "QUIET_TURNS" = some (.int 8 Zdo))
variable (Zay : mg "NoWire" = some (.ref Zca))
variable (Zam : mg "NoThing" = some (.ref ZbB))
variable (Zal : mg "NoStrip" = some (.ref ZbA))
variable (ZaR : mg "NoRow" = some (.ref Zcy))
variable (Zax : mg "NoRail" = some (.ref Zb9))
variable (Zaw : mg "NoName" = some (.ref Zb8))
variable (Zar : mg "NoKey" = some (.ref Zcx))
variable (Zah : mg "NoBits" = some (.ref Zb7))
variable (Zbi : mg "Post" = some (.ref CA.post))
variable (ZG : mg "RailError" = some (.ref ZbQ))
variable (Zdp : mg "all" = none)
variable (ZL : mg "len" = none)
variable (ZU : mg "list" = none)
variable (Ze : mg "isinstance" = none)
variable (Zaa : mg "ValueError" = none)
variable (Z9 : mg "range" = none)
variable (ZcA : mg "tuple" = none)
variable (Zbx : mg "bool" = none)
variable (Zcd : mg "int" = none)
variable (ZaD : TupK K Zdb [1, 3, 5])
variable (ZI : ExcC K Zt)
variable (ZF : ExcC K Zp)
variable (Zd : Cls K CA.count)
variable (Zm : Cls K CA.free)
variable (Za : Cls K CA.post)
variable (ZaL : Mk K CA.count ZaV)
variable (Za0 : Mk K CA.free Zbd)
variable (Z1 : Mk K CA.post Zbg)
variable (ZQ : Meth K CA.count "is_quiet" Zan)
variable (ZZ : Meth K CA.count "is_off" Zaz)
variable (Z0 : Meth K CA.count "number" ZaA)
variable (ZR : Meth K CA.post "has_frame" Zao)
variable (Zr : Meth K CA.post "is_quiet" Zav)
variable (Z4 : Meth K CA.free "shown" ZaW)
variable (Zab : Meth K CA.free "says" Zbe)
variable (ZA : Meth K CA.post "hand" Zbf)
variable (ZB : Meth K CA.post "says" Zbh)
variable (ZC : Meth K CA.post "got" Zbq)
variable (Zn : Meth K CA.post "waits" ZaX)
variable (Zx : Meth K CA.post "stance" ZaJ)
variable (Z2 : Meth K CA.post "faults" ZaH)
variable (Z3 : Meth K CA.post "is_off" ZaI)
variable (Zh : NoAttr K CA.count "total")
variable (Zo : NoAttr K CA.free "since")
variable (Zj : NoAttr K CA.post "tally")
variable (Zf : NoAttr K CA.post "waiting")
variable (Zu : NoAttr K CA.post "handed_up")
variable (Zac : NoAttr K CA.post "choice")
variable (Zag : NoAttr K CA.post "votes")
variable (Zv : NoAttr K CA.post "now")
variable (ZX : PySem.W.excIn K Zp [.type "ValueError", .type "Exception", .type "BaseException", .type "object"] "ValueError.__new__" = true)
variable (ZP : PySem.W.excIn K Zt [.type "ValueError", .type "Exception", .type "BaseException", .type "object"] "ValueError.__new__" = true)
variable (Zaf : PySem.W.kitAny K (.ref Zt) [.ref Zb7, .ref Zcx, .ref Zb8, .ref Zb9, .ref Zcy, .ref ZbA, .ref ZbB, .ref Zca] = some false)
variable (Z8 : PySem.W.kitAny K (.ref Zp) [.ref Zb7, .ref Zcx, .ref Zb8, .ref Zb9, .ref Zcy, .ref ZbA, .ref ZbB, .ref Zca] = some false)
variable (ZaN : PySem.W.kitOne K (.ref Zt) (.type "ValueError") = some true)
variable (ZaM : PySem.W.kitOne K (.ref Zt) (.ref Zp) = some false)
variable (ZaE : PySem.W.kitOne K (.ref Zp) (.type "ValueError") = some true)
variable (ZaC : PySem.W.kitOne K (.ref Zp) (.ref Zt) = some false)
variable (ZaK : PySem.W.exmOne K (.ref Zt) (.ref ZbQ) = some true)
variable (ZaB : PySem.W.exmOne K (.ref Zp) (.ref ZbQ) = some true)
set_option maxHeartbeats 4000000
variable (Zz : FB P w K mg base (CX0) 1 "are_bytes" ZbT ZcK ["numbers"] (spBytes K))
include ZaF Zdp in
theorem Zdy (F0 : GFm K mg "are_bytes" ZcS ZbT ZcK) : type_of% Zz := by
  refine fbM ["numbers"] F0 fun Sc0 => F0.F.ok Sc0 (fun vs H Q E h => ?_) fun cdv A outer s H vs Q E hr h => ?_
  · obtain ⟨a, ns, rfl, _⟩ := h
    rfl
  obtain ⟨a, ns, rfl, hS, hl, q⟩ := h
  have nd := Sc0.nd
  refine ⟨_, (pss_one (ps_ret (pe_callB (z_all rfl) rfl Zdp bt_all (pa_cons (pe_comp rfl (ix := []) (mi_seq (dv 0)) (fun C fp s0 H0 at0 => pts_nil) (fun C fp s0 H0 at0 => (md_chain z_le z_le pe_int (dv 0) (pe_glob (v := .int 255) rfl ZaF ⟨_, rfl⟩))) rfl rfl (by rfl) (show ([".0", "number"] : List Str).Nodup by decide +kernel)) pa_nil)))), ?_⟩
  refine comp_seq hS (fun i ys => ys = ((ns.take i).map byt).map V.bl) ?_ rfl ?_ ?_
  · rintro i ys hi rfl
    refine small1 ?_
    rw [List.length_map, List.length_map, List.length_take]
    omega
  · rintro i x ys hx rfl
    obtain ⟨hi, rfl⟩ := get_int hx
    conv => whnf
    refine ite2 (fun c => ⟨?_, rfl⟩) (fun c => ⟨?_, rfl⟩)
    · have c1 : (0 : Int) ≤ ns[i] := dec_true c
      rw [List.take_succ_eq_append_getElem hi, List.map_append, List.map_append]
      show _ ++ [V.bl (decide (ns[i] ≤ 255))] = _ ++ [V.bl (byt ns[i])]
      unfold byt
      rw [decide_eq_true c1, Bool.true_and]
    · have c1 : ¬ (0 : Int) ≤ ns[i] := dec_false c
      rw [List.take_succ_eq_append_getElem hi, List.map_append, List.map_append]
      show _ ++ [V.bl false] = _ ++ [V.bl (byt ns[i])]
      unfold byt
      rw [decide_eq_false c1, Bool.false_and]
  rintro ys rfl p hp
  rw [List.length_map, List.take_of_length_le (Nat.le_refl _)]
  refine ⟨ns.map byt, SqL.of upd_same, ?_⟩
  have e : (ns.map byt).all id = ns.all byt := by rw [List.all_map]; rfl
  rw [e]
  exact q _ (same_new hp _)
variable (Zak : FB P w K mg base (CX0) 1 "is_name" Zcq Zdj ["number"] (spByt))
include ZaG in
theorem ZdG (F0 : GFm K mg "is_name" Zdk Zcq Zdj) : type_of% Zak := by
  refine fbM ["number"] F0 fun Sc0 => F0.F.ok Sc0 (fun vs H Q E h => ?_) fun cdv A outer s H vs Q E hr h => ?_
  · obtain ⟨n, rfl, _⟩ := h
    rfl
  obtain ⟨n, rfl, q⟩ := h
  have nd := Sc0.nd
  refine ⟨_, (pss_one (ps_ret (md_chain z_le z_le pe_int (dv 0) (pe_glob (v := .int 255) rfl ZaG ⟨_, rfl⟩)))), ?_⟩
  conv => whnf
  refine ite2 (fun c => ?_) (fun c => ?_)
  · have c1 : (0 : Int) ≤ n := dec_true c
    show Q (.bl (decide (n ≤ 255))) H
    have e : decide (n ≤ 255) = byt n := by unfold byt; rw [decide_eq_true c1, Bool.true_and]
    rw [e]; exact q
  · have c1 : ¬ (0 : Int) ≤ n := dec_false c
    show Q (.bl false) H
    have e : false = byt n := by unfold byt; rw [decide_eq_false c1, Bool.false_and]
    rw [e]; exact q
variable (ZS : FB P w K mg base (CXR P w) 2 "check_frame" Zbo Zci ["name", "data"] (spChkF K Zp))
include Zq Za1 ZL ZX Zz Zak in
theorem Zdf (F0 : GFm K mg "check_frame" Zcn Zbo Zci) : type_of% ZS := by
  refine fbM ["name", "data"] F0 fun Sc0 => F0.F.okR Sc0 (fun vs H Q E h => ?_) fun cdv A outer s H vs Q E hr h => ?_
  · obtain ⟨n, a, ds, rfl, _⟩ := h
    rfl
  obtain ⟨n, a, ds, rfl, hS, hl, q1, q2⟩ := h
  have nd := Sc0.nd
  refine ⟨_, (pss_cons (ps_if (pt_not (md_val (pe_call Zak.1 (hr.mono (by decide)) rfl Zak.2.2.2 Zak.2.2.1 Zak.2.1 .nil pass0 (pa_cons (dv 0) pa_nil)))) (pss_one (ps_raise F.excBase_ValueError Zq ZX (pa_cons pe_str pa_nil))) pss_nil) (pss_cons (ps_if (md_cmp z_gt (pe_callB z_len rfl ZL bt_len (pa_cons (dv 1) pa_nil)) (pe_glob (v := .int 7) rfl Za1 ⟨_, rfl⟩) (nomark _)) (pss_one (ps_raise F.excBase_ValueError Zq ZX (pa_cons pe_str pa_nil))) pss_nil) (pss_one (ps_if (pt_not (md_val (pe_call Zz.1 (hr.mono (by decide)) rfl Zz.2.2.2 Zz.2.2.1 Zz.2.1 .nil pass0 (pa_cons (dv 1) pa_nil)))) (pss_one (ps_raise F.excBase_ValueError Zq ZX (pa_cons pe_str pa_nil))) pss_nil)))), ?_⟩
  refine ⟨n, rfl, ?_⟩
  conv => whnf
  refine ite2 (fun c => ?_) (fun c => ?_)
  · have c1 : ¬ byt n = true := fun z => by
      have : (!byt n) = true := c
      rw [z] at this; cases this
    exact ⟨small_lit rfl, q2 (not_fr (.inl c1)) _ (Same.refl _)⟩
  have c1 : byt n = true := by
    cases e : byt n with
    | true => rfl
    | false => exact absurd (show (!byt n) = true by rw [e]; rfl) c
  refine ⟨_, .inl hS, ?_⟩
  rw [List.length_map]
  conv => whnf
  refine ite2 (fun z => ?_) (fun z => ?_)
  · have z1 : (7 : Int) < ((ds.length : Nat) : Int) := dec_true z
    exact ⟨small_lit rfl, q2 (not_fr (.inr (.inl (by omega)))) _ (Same.refl _)⟩
  have z1 : ¬ (7 : Int) < ((ds.length : Nat) : Int) := dec_false z
  refine ⟨a, ds, rfl, .inl hS, hl, fun H1 g1 => ?_⟩
  conv => whnf
  refine ite2 (fun y => ?_) (fun y => ?_)
  · have y1 : ¬ ds.all byt = true := fun z => by
      have : (!ds.all byt) = true := y
      rw [z] at this; cases this
    exact ⟨small_lit rfl, q2 (fun h => y1 h.2.2) _ g1⟩
  · have y1 : ds.all byt = true := by
      cases e : ds.all byt with
      | true => rfl
      | false => exact absurd (show (!ds.all byt) = true by rw [e]; rfl) y
    exact q1 ⟨c1, by omega, y1⟩ _ g1
variable (Zai : MB P w K mg base (CX0) 1 ZaV Zcr ["self"] (spCtInit CA.count))
include Zd Zh in
theorem Zdl (F0 : Fun K "__init__" "Count.__init__" Zcu ZaV Zcr) : type_of% Zai := by
  refine mbM ["self"] F0 fun Sc0 => F0.ok Sc0 (fun vs H Q E h => ?_) fun cdv A outer s H vs Q E hr h => ?_
  · obtain ⟨a, dx, rfl, _⟩ := h
    rfl
  obtain ⟨a, dx, rfl, ha, q⟩ := h
  have nd := Sc0.nd
  refine ⟨_, (pss_one (md_set Zd Zh (dv 0) pe_int)), ?_⟩
  exact ⟨dx, [], ha, by decide, q⟩
variable (ZV : MB P w K mg base (CX0) 1 Zan Zbv ["self"] (spCtB CA.count 12))
include Za2 Zd Zh in
theorem ZcB (F0 : Fun K "is_quiet" "Count.is_quiet" Zby Zan Zbv) : type_of% ZV := by
  refine mbM ["self"] F0 fun Sc0 => F0.ok Sc0 (fun vs H Q E h => ?_) fun cdv A outer s H vs Q E hr h => ?_
  · obtain ⟨a, n, rfl, _⟩ := h
    rfl
  obtain ⟨a, n, rfl, ⟨dx, ha⟩, q⟩ := h
  have nd := Sc0.nd
  refine ⟨_, (pss_one (ps_ret (pe_cmpR z_ge (md_fld Zd Zh (dv 0)) (pe_glob (v := .int 12) rfl Za2 ⟨_, rfl⟩) (nomark _)))), ?_⟩
  exact ⟨dx, _, .int n, ha, rfl, q⟩
variable (Z6 : MB P w K mg base (CX0) 1 Zaz ZbU ["self"] (spCtB CA.count 18))
include Zbr Zd Zh in
theorem Zc3 (F0 : Fun K "is_off" "Count.is_off" ZbZ Zaz ZbU) : type_of% Z6 := by
  refine mbM ["self"] F0 fun Sc0 => F0.ok Sc0 (fun vs H Q E h => ?_) fun cdv A outer s H vs Q E hr h => ?_
  · obtain ⟨a, n, rfl, _⟩ := h
    rfl
  obtain ⟨a, n, rfl, ⟨dx, ha⟩, q⟩ := h
  have nd := Sc0.nd
  refine ⟨_, (pss_one (ps_ret (pe_cmpR z_ge (md_fld Zd Zh (dv 0)) (pe_glob (v := .int 18) rfl Zbr ⟨_, rfl⟩) (nomark _)))), ?_⟩
  exact ⟨dx, _, .int n, ha, rfl, q⟩
variable (Z7 : MB P w K mg base (CX0) 1 ZaA ZbV ["self"] (spCtN CA.count))
include Zd Zh in
theorem Zc4 (F0 : Fun K "number" "Count.number" Zb0 ZaA ZbV) : type_of% Z7 := by
  refine mbM ["self"] F0 fun Sc0 => F0.ok Sc0 (fun vs H Q E h => ?_) fun cdv A outer s H vs Q E hr h => ?_
  · obtain ⟨a, n, rfl, _⟩ := h
    rfl
  obtain ⟨a, n, rfl, ⟨dx, ha⟩, q⟩ := h
  have nd := Sc0.nd
  refine ⟨_, (pss_one (ps_ret (md_fld Zd Zh (dv 0)))), ?_⟩
  exact ⟨dx, _, .int n, ha, rfl, q⟩
variable (Zap : MB P w K mg base (CX0) 1 Zbd ZcD ["self", "since"] (spIni1 CA.free "since"))
include Zm Zo in
theorem Zdr (F0 : Fun K "__init__" "Free.__init__" ZcL Zbd ZcD) : type_of% Zap := by
  refine mbM ["self", "since"] F0 fun Sc0 => F0.ok Sc0 (fun vs H Q E h => ?_) fun cdv A outer s H vs Q E hr h => ?_
  · obtain ⟨a, dx, v, rfl, _⟩ := h
    rfl
  obtain ⟨a, dx, v, rfl, e, q⟩ := h
  have nd := Sc0.nd
  refine ⟨_, (pss_one (md_set Zm Zo (dv 0) (dv 1))), ?_⟩
  exact ⟨dx, [], e, by decide, q _ rfl⟩
variable (Zy : MB P w K mg base (CX0) 2 Zav ZbC ["self"] (spBdB CA 12))
include Zd Za ZQ Zj ZV in
theorem ZcV (F0 : Fun K "is_quiet" "Post.is_quiet" ZbF Zav ZbC) : type_of% Zy := by
  refine mbM ["self"] F0 fun Sc0 => F0.ok Sc0 (fun vs H Q E h => ?_) fun cdv A outer s H vs Q E hr h => ?_
  · obtain ⟨p, nwf, S, o, rfl, _⟩ := h
    rfl
  obtain ⟨p, nwf, S, o, rfl, ⟨dx, ch, wl, ul, ct, ws, us, b⟩, q⟩ := h
  have nd := Sc0.nd
  refine ⟨_, (pss_one (ps_ret (md_meth0 Zd ZQ ZV.1 (hr.mono (by decide)) ZV.2 .nil pass0 (md_fld Za Zj (dv 0))))), ?_⟩
  obtain ⟨dc, ec⟩ := b.et
  exact ⟨dx, _, .ref ct, b.e, rfl, ⟨dc, _, ec, rfl⟩, ct, S.tot, rfl, ⟨dc, ec⟩, q⟩
variable (Zae : MB P w K mg base (CX0) 2 ZaI Zcg ["self"] (spBdB CA 18))
include Zd Za ZZ Zj Z6 in
theorem Zdd (F0 : Fun K "is_off" "Post.is_off" Zcl ZaI Zcg) : type_of% Zae := by
  refine mbM ["self"] F0 fun Sc0 => F0.ok Sc0 (fun vs H Q E h => ?_) fun cdv A outer s H vs Q E hr h => ?_
  · obtain ⟨p, nwf, S, o, rfl, _⟩ := h
    rfl
  obtain ⟨p, nwf, S, o, rfl, ⟨dx, ch, wl, ul, ct, ws, us, b⟩, q⟩ := h
  have nd := Sc0.nd
  refine ⟨_, (pss_one (ps_ret (md_meth0 Zd ZZ Z6.1 (hr.mono (by decide)) Z6.2 .nil pass0 (md_fld Za Zj (dv 0))))), ?_⟩
  obtain ⟨dc, ec⟩ := b.et
  exact ⟨dx, _, .ref ct, b.e, rfl, ⟨dc, _, ec, rfl⟩, ct, S.tot, rfl, ⟨dc, ec⟩, q⟩
variable (Zad : MB P w K mg base (CX0) 2 ZaH Zcf ["self"] (spBdN CA))
include Zd Za Z0 Zj Z7 in
theorem Zdc (F0 : Fun K "faults" "Post.faults" Zck ZaH Zcf) : type_of% Zad := by
  refine mbM ["self"] F0 fun Sc0 => F0.ok Sc0 (fun vs H Q E h => ?_) fun cdv A outer s H vs Q E hr h => ?_
  · obtain ⟨p, nwf, S, o, rfl, _⟩ := h
    rfl
  obtain ⟨p, nwf, S, o, rfl, ⟨dx, ch, wl, ul, ct, ws, us, b⟩, q⟩ := h
  have nd := Sc0.nd
  refine ⟨_, (pss_one (ps_ret (md_meth0 Zd Z0 Z7.1 (hr.mono (by decide)) Z7.2 .nil pass0 (md_fld Za Zj (dv 0))))), ?_⟩
  obtain ⟨dc, ec⟩ := b.et
  exact ⟨dx, _, .ref ct, b.e, rfl, ⟨dc, _, ec, rfl⟩, ct, S.tot, rfl, ⟨dc, ec⟩, q⟩
variable (ZM : MB P w K mg base (CXR P w) 3 Zbf ZcF ["self", "name", "data"] (spHand K CA Zp))
include Zq ZU Za Zf ZS in
theorem Zdt (F0 : Fun K "hand" "Post.hand" ZcN Zbf ZcF) : type_of% ZM := by
  refine mbM ["self", "name", "data"] F0 fun Sc0 => F0.okR Sc0 (fun vs H Q E h => ?_) fun cdv A outer s H vs Q E hr h => ?_
  · obtain ⟨p, nwf, S, o, n, a, ds, rfl, _⟩ := h
    rfl
  obtain ⟨p, nwf, S, o, n, a, ds, rfl, bd, hS, hl, hw, q1, q2⟩ := h
  have nd := Sc0.nd
  refine ⟨_, (pss_cons (ps_expr (pe_call ZS.1 (hr.mono (by decide)) rfl ZS.2.2.2 ZS.2.2.1 ZS.2.1 .nil (passR fun _ _ _ z => z) (pa_cons (dv 1) (pa_cons (dv 2) pa_nil)))) (pss_one (ps_expr (md_append (md_fld Za Zf (dv 0)) (pa_cons (pe_tup (pa_cons (dv 1) (pa_cons (pe_callTy z_listOf rfl ZU bt_list (pa_cons (dv 2) pa_nil)) pa_nil))) pa_nil))))), ?_⟩
  refine ⟨n, a, ds, rfl, hS, hl, fun ok H1 g1 => ?_, fun no H1 g1 => q2 no H1 g1⟩
  obtain ⟨dx, ch, wl, ul, ct, ws, us, b⟩ := bd.move (H' := H1) fun x v e _ => g1 x v e
  refine ⟨dx, _, .ref wl, b.e, rfl, ⟨_, SqL.of b.ew⟩, _, .inl (g1.seq hS), fun d hd => ?_⟩
  have g2 := same_new hd (.lst (ds.map V.int))
  have e2 := upd_same (H := H1) (a := d) (o := .lst (ds.map V.int))
  generalize upd H1 d (.lst (ds.map V.int)) = H2 at g2 e2
  refine ⟨small_lit rfl, fun t ht => ?_⟩
  have g3 := same_new ht (.tup [.int n, .ref d])
  have e3 := upd_same (H := H2) (a := t) (o := .tup [.int n, .ref d])
  generalize upd H2 t (.tup [.int n, .ref d]) = H3 at g3 e3
  have g13 := g2.trans g3
  have nd_ : ¬ o d := fun z => b.al d z hd
  have b3 := b.move (H' := H3) fun x v e _ => g13 x v e
  have hwl := b.fw.len
  refine ⟨_, b3.ew, small1 (by omega), ?_⟩
  obtain ⟨k1, k2, k3, k4, k5, k6⟩ := list_put (ys := ws ++ [.ref t]) b3 (.inl rfl)
  have nwl : d ≠ wl := fun z => nd_ (z ▸ b.ow)
  have nul : d ≠ ul := fun z => nd_ (z ▸ b.ou)
  have en : ((n.toNat : Nat) : Int) = n := by
    have := byt_iff.mp ok.1
    omega
  refine q1 ok _ d (g1.none hd) ⟨dx, ch, wl, ul, ct, ws ++ [.ref t], us, k2.trans b3.e, k3.trans b3.ec, upd_same, ?_, by rw [upd_ne (Ne.symm b.ne)]; exact b3.eu, (k5 b3.fu).imp (fun x v e _ => e) (fun x z => ⟨.inl z.1, z.2⟩), (let ⟨d, e⟩ := b3.et; ⟨d, k4.trans e⟩), .inl b.op, .inl b.ow, .inl b.ou, .inl b.ot, b.ne, fun x hx => ?_⟩ (fun x v e z => k1 x v (g13 x v (g1 x v e)) z)
  · refine ((k5 b3.fw).imp (fun x v e _ => e) (fun x z => ⟨.inl z.1, z.2⟩)).snoc ⟨d, ?_, by rw [upd_ne nwl]; exact g3 _ _ e2, .inr rfl, nwl, nul⟩
    show _ = some (HO.tup [.int ((n.toNat : Nat) : Int), .ref d])
    rw [en]
    exact k1.tup e3
  · rcases hx with hx | hx
    · exact k6 x hx
    · have hx' : x = d := hx
      rw [hx', upd_ne nwl, g3 _ _ e2]; simp
variable (ZO : FB P w K mg base (CX0) 1 "copies" ZcU Zdq ["frames"] (spCopies K))
include ZU in
theorem ZdI (F0 : GFm K mg "copies" Zdz ZcU Zdq) : type_of% ZO := by
  refine fbM ["frames"] F0 fun Sc0 => F0.F.ok Sc0 (fun vs H Q E h => ?_) fun cdv A outer s H vs Q E hr h => ?_
  · obtain ⟨a, ts, fs, o, rfl, _⟩ := h
    rfl
  obtain ⟨a, ts, fs, o, rfl, e, hF, hl, q⟩ := h
  have nd := Sc0.nd
  refine ⟨_, (pss_one (ps_ret (pe_comp rfl (ix := []) (mi_list (dv 0)) (fun C fp s0 H0 at0 => pts_nil) (fun C fp s0 H0 at0 => (pe_tup (pa_cons (pe_ix (z_ixTK (K := K)) (dv 0) pe_int (fun _ _ => rfl)) (pa_cons (pe_callTy (z_listOfK (K := K)) rfl ZU bt_list (pa_cons (pe_ix (z_ixTK (K := K)) (dv 0) pe_int (fun _ _ => rfl)) pa_nil)) pa_nil)))) rfl rfl (by rfl) (show ([".0", "frame"] : List Str).Nodup by decide +kernel)))), ?_⟩
  have tl := hF.len
  refine ⟨⟨_, SqL.of e⟩, comp_list (xs := ts) (fun i ys H' => Same H H' ∧ FrsNew H H' ys (fs.take i)) ?_ ⟨Same.refl _, .nil⟩ (fun i ys H' _ z => SqL.of (z.1 _ _ e)) ?_ ?_⟩
  · rintro i ys H' hi ⟨_, n⟩
    refine small1 ?_
    rw [n.len, List.length_take]
    omega
  · rintro i x ys H' hx ⟨g, n⟩
    obtain ⟨t, f, rfl, hf, d, e1, e2, e3⟩ := hF.get hx
    refine ⟨_, _, SqT.of (g _ _ e1), rfl, _, _, SqT.of (g _ _ e1), rfl, _, .inl (SqL.of (g _ _ e2)), fun d' hd' => ?_⟩
    have g2 := same_new hd' (.lst (f.2.map V.int))
    have e5 := upd_same (H := H') (a := d') (o := .lst (f.2.map V.int))
    generalize upd H' d' (.lst (f.2.map V.int)) = H2 at g2 e5
    refine ⟨small_lit rfl, fun t' ht' => ?_⟩
    have g3 := same_new ht' (.tup [.int ((f.1 : Nat) : Int), .ref d'])
    refine ⟨g.trans (g2.trans g3), ?_⟩
    have hi : i < fs.length := (List.getElem?_eq_some_iff.mp hf).1
    have ef : fs[i] = f := (List.getElem?_eq_some_iff.mp hf).2
    rw [List.take_succ_eq_append_getElem hi, ef]
    exact FrsNew.snoc ((g.trans g2).none ht') (g.none hd') upd_same (g3 _ _ e5) (n.same (g2.trans g3))
  rintro ys H' ⟨g, n⟩ l hl'
  have g2 := same_new hl' (.lst ys)
  rw [tl, List.take_of_length_le (Nat.le_refl _)] at n
  exact q l ys _ (g.none hl') (g.trans g2) upd_same (n.same g2)
variable (Zs : MB P w K mg base (CX0) 2 ZaX Zct ["self"] (spWaits CA))
include Za Zf ZO in
theorem Zdn (F0 : Fun K "waits" "Post.waits" Zcw ZaX Zct) : type_of% Zs := by
  refine mbM ["self"] F0 fun Sc0 => F0.ok Sc0 (fun vs H Q E h => ?_) fun cdv A outer s H vs Q E hr h => ?_
  · obtain ⟨p, nwf, S, o, rfl, _⟩ := h
    rfl
  obtain ⟨p, nwf, S, o, rfl, ⟨dx, ch, wl, ul, ct, ws, us, b⟩, hl, q⟩ := h
  have nd := Sc0.nd
  refine ⟨_, (pss_one (ps_ret (pe_call ZO.1 (hr.mono (by decide)) rfl ZO.2.2.2 ZO.2.2.1 ZO.2.1 .nil pass0 (pa_cons (md_fld Za Zf (dv 0)) pa_nil)))), ?_⟩
  exact ⟨dx, _, .ref wl, b.e, rfl, wl, ws, S.wt, _, rfl, b.ew, b.fw, hl, q⟩
variable (ZY : MB P w K mg base (CX0) 2 Zbq ZcZ ["self"] (spGot CA))
include Za Zu ZO in
theorem ZdC (F0 : Fun K "got" "Post.got" Zc8 Zbq ZcZ) : type_of% ZY := by
  refine mbM ["self"] F0 fun Sc0 => F0.ok Sc0 (fun vs H Q E h => ?_) fun cdv A outer s H vs Q E hr h => ?_
  · obtain ⟨p, nwf, S, o, rfl, _⟩ := h
    rfl
  obtain ⟨p, nwf, S, o, rfl, ⟨dx, ch, wl, ul, ct, ws, us, b⟩, hl, q⟩ := h
  have nd := Sc0.nd
  refine ⟨_, (pss_one (ps_ret (pe_call ZO.1 (hr.mono (by decide)) rfl ZO.2.2.2 ZO.2.2.1 ZO.2.1 .nil pass0 (pa_cons (md_fld Za Zu (dv 0)) pa_nil)))), ?_⟩
  exact ⟨dx, _, .ref ul, b.e, rfl, ul, us, S.up, _, rfl, b.eu, b.fu, hl, q⟩
variable (ZT : FB P w K mg base (CXR P w) 1 "check_votes" Zbp Zcj ["votes"] (spVotes Zt))
include Zas Zw ZaD ZP in
theorem Zdg (F0 : GFm K mg "check_votes" Zco Zbp Zcj) : type_of% ZT := by
  refine fbM ["votes"] F0 fun Sc0 => F0.F.okR Sc0 (fun vs H Q E h => ?_) fun cdv A outer s H vs Q E hr h => ?_
  · obtain ⟨v, rfl, _⟩ := h
    rfl
  obtain ⟨v, rfl, q1, q2⟩ := h
  have nd := Sc0.nd
  refine ⟨_, (pss_one (ps_if (md_cmp z_notInI (dv 0) (pe_glob (v := .ref Zdb) rfl Zas rfl) rfl) (pss_one (ps_raise F.excBase_ValueError Zw ZP (pa_cons pe_str pa_nil))) pss_nil)), ?_⟩
  refine ⟨[1, 3, 5], .inr (ZaD.sq H), ?_⟩
  conv => whnf
  refine ite2 (fun c => ?_) (fun c => ?_)
  · refine ⟨small_lit rfl, q2 fun z => ?_⟩
    have c1 : (!decide (v ∈ [(1 : Int), 3, 5])) = true := c
    rw [(mem_votes v).mpr z] at c1
    cases c1
  · refine q1 ((mem_votes v).mp ?_)
    cases e : decide (v ∈ [(1 : Int), 3, 5]) with
    | true => rfl
    | false => exact absurd (show (!decide (v ∈ [(1 : Int), 3, 5])) = true by rw [e]; rfl) c
variable (ZK : FB P w K mg base (CXR P w) 2 "check_choice" Zbc ZbY ["choice"] (spChoice K Zt))
include Zw ZP Zz in
theorem Zc7 (F0 : GFm K mg "check_choice" Zb3 Zbc ZbY) : type_of% ZK := by
  refine fbM ["choice"] F0 fun Sc0 => F0.F.okR Sc0 (fun vs H Q E h => ?_) fun cdv A outer s H vs Q E hr h => ?_
  · obtain ⟨a, ns, rfl, _⟩ := h
    rfl
  obtain ⟨a, ns, rfl, hS, hl, q1, q2⟩ := h
  have nd := Sc0.nd
  refine ⟨_, (pss_one (ps_if (pt_not (md_val (pe_call Zz.1 (hr.mono (by decide)) rfl Zz.2.2.2 Zz.2.2.1 Zz.2.1 .nil pass0 (pa_cons (dv 0) pa_nil)))) (pss_one (ps_raise F.excBase_ValueError Zw ZP (pa_cons pe_str pa_nil))) pss_nil)), ?_⟩
  refine ⟨a, ns, rfl, .inr hS, hl, fun H1 g1 => ?_⟩
  conv => whnf
  refine ite2 (fun c => ?_) (fun c => ?_)
  · have c1 : ¬ ns.all byt = true := fun z => by
      have : (!ns.all byt) = true := c
      rw [z] at this; cases this
    exact ⟨small_lit rfl, q2 c1 _ g1⟩
  · have c1 : ns.all byt = true := by
      cases e : ns.all byt with
      | true => rfl
      | false => exact absurd (show (!ns.all byt) = true by rw [e]; rfl) c
    exact q1 c1 _ g1
variable (ZD : MB P w K mg base (CXR P w) 4 Zbg ZcG ["self", "choice", "votes"] (spPostInit K CA Zt))
include Zas Zw Zcz Zc2 Za ZaL Za0 Zj Zf Zu Zac Zag Zv Zai Zap ZT ZK in
theorem Zdu (F0 : Fun K "__init__" "Post.__init__" ZcO Zbg ZcG) : type_of% ZD := by
  refine mbM ["self", "choice", "votes"] F0 fun Sc0 => F0.okR Sc0 (fun vs H Q E h => ?_) fun cdv A outer s H vs Q E hr h => ?_
  · obtain ⟨a, dx, ch, m1, m2, v, rfl, _⟩ := h
    rfl
  obtain ⟨a, dx, ch, m1, m2, v, rfl, e, ec, q1, q2⟩ := h
  have nd := Sc0.nd
  refine ⟨_, (pss_cons (ps_expr (pe_call ZK.1 (hr.mono (by decide)) rfl ZK.2.2.2 ZK.2.2.1 ZK.2.1 .nil (passR fun _ _ _ z => z) (pa_cons (dv 1) pa_nil))) (pss_cons (ps_expr (pe_call ZT.1 (hr.mono (by decide)) rfl ZT.2.2.2 ZT.2.2.1 ZT.2.1 .nil (passR fun _ _ _ z => z) (pa_cons (dv 2) pa_nil))) (pss_cons (md_set Za Zac (dv 0) (dv 1)) (pss_cons (md_set Za Zag (dv 0) (dv 2)) (pss_cons (md_set Za Zf (dv 0) (pe_lst pa_nil)) (pss_cons (md_set Za Zu (dv 0) (pe_lst pa_nil)) (pss_cons (md_set Za Zj (dv 0) (pe_make0 ZaL Zai.1 (hr.mono (by decide)) rfl Zcz Zai.2 .nil pass0)) (pss_one (md_set Za Zv (dv 0) (pe_make Za0 Zap.1 (hr.mono (by decide)) rfl Zc2 Zap.2 .nil pass0 (pa_cons pe_int pa_nil))))))))))), ?_⟩
  refine ⟨ch, [m1, m2], rfl, SqT.of ec, (show 2 ≤ 500 by decide), fun hm H1 g1 => ?_, fun no H1 g1 => ?_⟩
  rotate_left
  · refine q2 (fun ok => no ?_) H1 fun x u _ h => g1 x u h
    rw [List.all_cons, List.all_cons, List.all_nil, ok.1, ok.2.1]; rfl
  rw [List.all_cons, List.all_cons, List.all_nil, Bool.and_true, Bool.and_eq_true] at hm
  refine ⟨v, rfl, fun hv => ?_, fun no => q2 (fun ok => no ok.2.2) H1 fun x u _ h => g1 x u h⟩
  have ea := g1 _ _ e
  refine ⟨dx, [], ea, by decide, ?_⟩
  refine ⟨dx, _, upd_same, (show 1 < 1000 by decide), ?_⟩
  rw [upd_upd]
  have m1_ : Mid H a (.ins CA.post dx [("choice", .ref ch), ("votes", .int v)]) [] (upd H1 a (.ins CA.post dx (putF "votes" (.int v) (putF "choice" (.ref ch) [])))) := ⟨upd_same, fun x u hx h => by rw [upd_ne hx]; exact g1 x u h, (fun _ z => nomatch z), List.nodup_nil⟩
  generalize upd H1 a _ = Ha at m1_
  refine ⟨small_lit rfl, fun wl hwl => ?_⟩
  have m2_ := m1_.add hwl (same_new hwl (.lst [])) upd_same
  generalize upd Ha wl (.lst []) = Hb at m2_
  refine ⟨dx, _, m2_.ea, (show 2 < 1000 by decide), ?_⟩
  have m3_ : Mid H a (.ins CA.post dx [("choice", .ref ch), ("votes", .int v), ("waiting", .ref wl)]) _ (upd Hb a (.ins CA.post dx (putF "waiting" (.ref wl) [("choice", .ref ch), ("votes", .int v)]))) := m2_.set _
  generalize upd Hb a _ = Hb2 at m3_
  refine ⟨small_lit rfl, fun ul hul => ?_⟩
  have m4_ := m3_.add hul (same_new hul (.lst [])) upd_same
  generalize upd Hb2 ul (.lst []) = Hc at m4_
  refine ⟨dx, _, m4_.ea, (show 3 < 1000 by decide), ?_⟩
  have m5_ : Mid H a (.ins CA.post dx [("choice", .ref ch), ("votes", .int v), ("waiting", .ref wl), ("handed_up", .ref ul)]) _ (upd Hc a (.ins CA.post dx (putF "handed_up" (.ref ul) [("choice", .ref ch), ("votes", .int v), ("waiting", .ref wl)]))) := m4_.set _
  generalize upd Hc a _ = Hc2 at m5_
  refine fun ct dc hct hdc hne => ⟨ct, dc, rfl, upd_same, rfl, ?_⟩
  have m6_ := m5_.add hct (same_made (C := CA.count) (fs := ctF 0) hct hdc) upd_same
  generalize upd (upd (upd Hc2 dc (.own ct)) ct (.ins CA.count dc [])) ct (.ins CA.count dc (ctF 0)) = Hd at m6_
  refine ⟨dx, _, m6_.ea, (show 4 < 1000 by decide), ?_⟩
  have m7_ : Mid H a (.ins CA.post dx [("choice", .ref ch), ("votes", .int v), ("waiting", .ref wl), ("handed_up", .ref ul), ("tally", .ref ct)]) _ (upd Hd a (.ins CA.post dx (putF "tally" (.ref ct) [("choice", .ref ch), ("votes", .int v), ("waiting", .ref wl), ("handed_up", .ref ul)]))) := m6_.set _
  generalize upd Hd a _ = Hd2 at m7_
  refine fun nw dn hnw hdn hne2 => ⟨nw, dn, _, rfl, upd_same, fun H2 eH => ⟨rfl, ?_⟩⟩
  have m8_ := m7_.add (Hy := H2) hnw (by rw [eH]; exact same_made hnw hdn) (by rw [eH]; exact upd_same)
  clear eH
  refine ⟨dx, _, m8_.ea, (show 5 < 1000 by decide), ?_⟩
  have m9_ := m8_.set (.ins CA.post dx (pF ch v.toNat wl ul ct nw))
  have ev : v = ((v.toNat : Nat) : Int) := by omega
  have eF : (HO.ins CA.post dx (putF "now" (.ref nw) [("choice", .ref ch), ("votes", .int v), ("waiting", .ref wl), ("handed_up", .ref ul), ("tally", .ref ct)])) = .ins CA.post dx (pF ch v.toNat wl ul ct nw) := by
    show HO.ins CA.post dx [("choice", .ref ch), ("votes", .int v), ("waiting", .ref wl), ("handed_up", .ref ul), ("tally", .ref ct), ("now", .ref nw)] = _
    rw [ev, Int.toNat_natCast]
  rw [eF]
  generalize upd H2 a _ = Hz at m9_
  have hnw' := m9_.nw (nw, _) (.head _)
  have hct' := m9_.nw (ct, _) (.tail _ (.head _))
  have hul' := m9_.nw (ul, _) (.tail _ (.tail _ (.head _)))
  have hwl' := m9_.nw (wl, _) (.tail _ (.tail _ (.tail _ (.head _))))
  have nd9 := m9_.nd
  have nwu : wl ≠ ul := fun z => by
    rw [z] at nd9
    exact absurd nd9 (by simp)
  have nch : ch ≠ a := fun z => by rw [z, e] at ec; cases ec
  have hb1 := byt_iff.mp hm.1
  have hb2 := byt_iff.mp hm.2
  have ec1 : ((m1.toNat : Nat) : Int) = m1 := by omega
  have ec2 : ((m2.toNat : Nat) : Int) = m2 := by omega
  refine q1 ⟨hm.1, hm.2, hv⟩ Hz (fun x => (x = a ∨ x = wl ∨ x = ul ∨ x = ct) ∨ x = nw) ⟨nw, fun x => x = a ∨ x = wl ∨ x = ul ∨ x = ct, fun x => x = nw, ⟨dx, ch, wl, ul, ct, [], [], m9_.ea, ?_, hwl'.2.2, .nil, hul'.2.2, .nil, ⟨dc, hct'.2.2⟩, .inl rfl, .inr (.inl rfl), .inr (.inr (.inl rfl)), .inr (.inr (.inr rfl)), nwu, ?_⟩, stw_one hnw'.2.2 ⟨dn, hnw'.2.2⟩, ?_, ⟨?_, (fun _ z => nomatch z), trivial⟩, fun x hx => hx, ?_⟩ ?_ ?_
  · show Hz ch = some (.tup [.int ((m1.toNat : Nat) : Int), .int ((m2.toNat : Nat) : Int)])
    rw [ec1, ec2]
    exact m9_.kp ch _ nch ec
  · rintro x (rfl | rfl | rfl | rfl)
    · rw [m9_.ea]; simp
    · rw [hwl'.2.2]; simp
    · rw [hul'.2.2]; simp
    · rw [hct'.2.2]; simp
  · rintro x hx hy
    have hy' : x = nw := hy
    rcases hx with rfl | rfl | rfl | rfl
    · exact hnw'.2.1 hy'.symm
    · rw [hy'] at nd9; exact absurd nd9 (by simp)
    · rw [hy'] at nd9; exact absurd nd9 (by simp)
    · rw [hy'] at nd9; exact absurd nd9 (by simp)
  · show v.toNat ≤ 5
    omega
  · rintro x ((rfl | rfl | rfl | rfl) | rfl)
    · rw [m9_.ea]; simp
    · rw [hwl'.2.2]; simp
    · rw [hul'.2.2]; simp
    · rw [hct'.2.2]; simp
    · rw [hnw'.2.2]; simp
  · rintro x ((rfl | rfl | rfl | rfl) | rfl)
    · exact .inl rfl
    · exact .inr hwl'.1
    · exact .inr hul'.1
    · exact .inr hct'.1
    · exact .inr hnw'.1
  · exact m9_.kp
variable (ZW : MB P w K mg base (CX0) 1 Zao Zbw ["self"] (spHas CA))
include ZL Za Zf in
theorem ZcC (F0 : Fun K "has_frame" "Post.has_frame" Zbz Zao Zbw) : type_of% ZW := by
  refine mbM ["self"] F0 fun Sc0 => F0.ok Sc0 (fun vs H Q E h => ?_) fun cdv A outer s H vs Q E hr h => ?_
  · obtain ⟨p, nwf, S, o, rfl, _⟩ := h
    rfl
  obtain ⟨p, nwf, S, o, rfl, ⟨dx, ch, wl, ul, ct, ws, us, b⟩, q⟩ := h
  have nd := Sc0.nd
  refine ⟨_, (pss_one (ps_ret (pe_cmpR z_gt (pe_callB z_len rfl ZL bt_len (pa_cons (md_fld Za Zf (dv 0)) pa_nil)) pe_int (nomark _)))), ?_⟩
  refine ⟨dx, _, .ref wl, b.e, rfl, _, .inl (SqL.of b.ew), ?_⟩
  rw [b.fw.len]
  exact q
variable (Zaj : MB P w K mg base (CX0) 1 ZaW Zcs ["self"] (spShown CA 0))
include Zm Zo in
theorem Zdm (F0 : Fun K "shown" "Free.shown" Zcv ZaW Zcs) : type_of% Zaj := by
  refine mbM ["self"] F0 fun Sc0 => F0.ok Sc0 (fun vs H Q E h => ?_) fun cdv A outer s H vs Q E hr h => ?_
  · obtain ⟨nw, S, o, rfl, _⟩ := h
    rfl
  obtain ⟨nw, S, o, rfl, tg, st, q⟩ := h
  have nd := Sc0.nd
  refine ⟨_, (pss_one (ps_ret (pe_tup (pa_cons pe_str (pa_cons (md_fld Zm Zo (dv 0)) pa_nil))))), ?_⟩
  obtain ⟨sa, on, al⟩ := id st
  cases en : S.now with
  | free k =>
    rw [en] at sa
    obtain ⟨dx, e⟩ := sa
    refine ⟨dx, _, _, e, rfl, small_lit rfl, fun t ht => q t _ ht (same_new ht _) ?_⟩
    rw [upd_same, en]
    rfl
  | speaks n ds k => rw [en] at tg; cases tg
  | reads h => rw [en] at tg; cases tg
  | tlS v c => rw [en] at tg; cases tg
  | tlR n ds v c => rw [en] at tg; cases tg
  | flag l m => rw [en] at tg; cases tg
  | settles m => rw [en] at tg; cases tg
  | rests l => rw [en] at tg; cases tg
  | off  => rw [en] at tg; cases tg
variable (Zaq : MB P w K mg base (CX0) 3 Zbe ZcE ["self", "post"] (spStSays CA 0))
include ZaO Zm Za ZR Zr Zo Zy ZW in
theorem Zds (F0 : Fun K "says" "Free.says" ZcM Zbe ZcE) : type_of% Zaq := by
  refine mbM ["self", "post"] F0 fun Sc0 => F0.ok Sc0 (fun vs H Q E h => ?_) fun cdv A outer s H vs Q E hr h => ?_
  · obtain ⟨nw, p, nwf, S, ob, os, rfl, _⟩ := h
    rfl
  obtain ⟨nw, p, nwf, S, ob, os, rfl, tg, bd, st, wf, q⟩ := h
  have nd := Sc0.nd
  refine ⟨_, (pss_cons (ps_if (pt_not (md_val (md_meth0 Za ZR ZW.1 (hr.mono (by decide)) ZW.2 .nil pass0 (dv 1)))) (pss_one (ps_ret pe_int)) pss_nil) (pss_one (ps_ret (pe_cut (pe_ifExp (PW.pt (pw_and (md_val (md_meth0 Za Zr Zy.1 (hr.mono (by decide)) Zy.2 .nil pass0 (dv 1))) (pw_and1 (md_cmp z_lt (md_fld Zm Zo (dv 0)) (pe_glob (v := .int 8) rfl ZaO ⟨_, rfl⟩) (nomark _))))) pe_int pe_int))))), ?_⟩
  obtain ⟨sa, on, al⟩ := id st
  cases en : S.now with
  | free k =>
    rw [en] at sa
    obtain ⟨dx, e⟩ := sa
    obtain ⟨dp, ch, wl, ul, ct, ws, us, b⟩ := id bd
    have hs := say_free en
    refine ⟨⟨dp, _, b.e, rfl⟩, p, nwf, S, ob, rfl, bd, ?_⟩
    conv => whnf
    refine ite2 (fun c => ?_) (fun c => ?_)
    · have c1 : S.wt = [] := by
        have : (!decide (0 < (S.wt.length : Int))) = true := c
        cases ew : S.wt with
        | nil => rfl
        | cons f r =>
          rw [ew, decide_eq_true (by rw [List.length_cons]; omega)] at this
          cases this
      rw [if_pos c1] at hs
      rw [hs] at q
      exact q
    have c1 : ¬ S.wt = [] := fun z => c (by
      show (!decide (0 < (S.wt.length : Int))) = true
      rw [z]; rfl)
    rw [if_neg c1] at hs
    refine ⟨fun x H' => x = .int (saysP S) ∧ H' = H, ?_, fun x H' z => by rw [z.1, z.2]; exact q⟩
    refine ⟨⟨dp, _, b.e, rfl⟩, p, nwf, S, ob, rfl, bd, ?_⟩
    conv => whnf
    refine ite2 (fun y => ?_) (fun y => ?_)
    · have y1 : 12 ≤ S.tot := dec_true y
      refine ⟨dx, _, _, e, rfl, ?_⟩
      conv => whnf
      refine ite2 (fun z => ?_) (fun z => ?_)
      · have z1 : ((k : Nat) : Int) < 8 := dec_true z
        rw [hs, if_pos ⟨y1, by omega⟩]
        exact ⟨rfl, rfl⟩
      · have z1 : ¬ ((k : Nat) : Int) < 8 := dec_false z
        rw [hs, if_neg fun w => z1 (by omega)]
        exact ⟨rfl, rfl⟩
    · have y1 : ¬ 12 ≤ S.tot := dec_false y
      refine iteF ⟨?_, rfl⟩
      rw [hs, if_neg fun w => y1 w.1]
  | speaks n ds k => rw [en] at tg; cases tg
  | reads h => rw [en] at tg; cases tg
  | tlS v c => rw [en] at tg; cases tg
  | tlR n ds v c => rw [en] at tg; cases tg
  | flag l m => rw [en] at tg; cases tg
  | settles m => rw [en] at tg; cases tg
  | rests l => rw [en] at tg; cases tg
  | off  => rw [en] at tg; cases tg
variable (ZE : MB P w K mg base (CX0) 3 ZaJ Zch ["self"] (spPoShown0 CA))
include Zm Za Z4 Zv Zaj in
theorem Zde (F0 : Fun K "stance" "Post.stance" Zcm ZaJ Zch) : type_of% ZE := by
  refine mbM ["self"] F0 fun Sc0 => F0.ok Sc0 (fun vs H Q E h => ?_) fun cdv A outer s H vs Q E hr h => ?_
  · obtain ⟨p, S, o, k, rfl, _⟩ := h
    rfl
  obtain ⟨p, S, o, k, rfl, en, ⟨nw, ob, os, bd, st, dj, wf, inc, al⟩, q⟩ := h
  have nd := Sc0.nd
  refine ⟨_, (pss_one (ps_ret (md_meth0 Zm Z4 Zaj.1 (hr.mono (by decide)) Zaj.2 .nil pass0 (md_fld Za Zv (dv 0))))), ?_⟩
  obtain ⟨dp, ch, wl, ul, ct, ws, us, b⟩ := id bd
  have sa := st.at_
  rw [en] at sa
  obtain ⟨dd, hS⟩ := sa
  exact ⟨dp, _, .ref nw, b.e, rfl, ⟨dd, _, hS, rfl⟩, nw, S, os, rfl, (by rw [en]; rfl), st, fun t H' h1 h2 h3 => q t H' h1 h2 (by rw [en] at h3; exact h3)⟩
variable (ZN : MB P w K mg base (CX0) 4 Zbh ZcH ["self"] (spPoSays0 CA))
include Zm Za Zab Zv Zaq in
theorem Zdv (F0 : Fun K "says" "Post.says" ZcP Zbh ZcH) : type_of% ZN := by
  refine mbM ["self"] F0 fun Sc0 => F0.ok Sc0 (fun vs H Q E h => ?_) fun cdv A outer s H vs Q E hr h => ?_
  · obtain ⟨p, S, o, k, rfl, _⟩ := h
    rfl
  obtain ⟨p, S, o, k, rfl, en, ⟨nw, ob, os, bd, st, dj, wf, inc, al⟩, q⟩ := h
  have nd := Sc0.nd
  refine ⟨_, (pss_one (ps_ret (md_meth Zm Zab Zaq.1 (hr.mono (by decide)) Zaq.2 .nil pass0 (md_fld Za Zv (dv 0)) (pa_cons (dv 0) pa_nil)))), ?_⟩
  obtain ⟨dp, ch, wl, ul, ct, ws, us, b⟩ := id bd
  have sa := st.at_
  rw [en] at sa
  obtain ⟨dd, hS⟩ := sa
  exact ⟨dp, _, .ref nw, b.e, rfl, ⟨dd, _, hS, rfl⟩, nw, p, nw, S, ob, os, rfl, (by rw [en]; rfl), bd, st, wf, q⟩
variable (Zb : FB P w K mg base (CX0) 1 "_law_draw" ZbS ZcJ ["_law_script", "_law_k", "_law_many"] (spDraw K))
include ZL in
theorem Zdx (F0 : GFm K mg "_law_draw" ZcR ZbS ZcJ) : type_of% Zb := by
  refine fbM ["_law_script", "_law_k", "_law_many", "_law_cell", "_law_seed"] F0 fun Sc0 => F0.F.ok Sc0 (fun vs H Q E h => ?_) fun cdv A outer s H vs Q E hr h => ?_
  · obtain ⟨a, ns, k, m, rfl, _⟩ := h
    rfl
  obtain ⟨a, ns, k, m, rfl, hS, h63, k0, k1, m0, q⟩ := h
  have nd := Sc0.nd
  refine ⟨_, (pss_cons (ps_set (i := 3) nd rfl (Or.inl rfl) (pe_cut (pe_ifExp (md_cmp z_gt (pe_callB z_len rfl ZL bt_len (pa_cons (dv 0) pa_nil)) pe_int (nomark _)) (pe_ix z_ixL (dv 0) (pe_op z_mod (dv 1) (pe_callB z_len rfl ZL bt_len (pa_cons (dv 0) pa_nil))) (fun _ _ => rfl)) pe_int))) (pss_cons (ps_set (i := 4) nd rfl (Or.inl rfl) (pe_op z_add (pe_op z_add (pe_op z_mod (dv 3) pe_int) (pe_op z_mul (pe_op z_mul pe_int (dv 1)) (dv 1))) pe_int)) (pss_one (ps_ret (pe_op z_mod (pe_op z_mod (pe_op z_mul (pe_op z_mod (pe_op z_mul (dv 4) pe_int) pe_int) pe_int) pe_int) (dv 2)))))), ?_⟩
  refine ⟨fun x H' => (∃ v, x = .int v) ∧ H' = H, ?_, ?_⟩
  · have hlen : (ns.map V.int).length = ns.length := List.length_map _
    refine ⟨_, .inl hS, ?_⟩
    conv => whnf
    refine ite2 (fun c => ?_) (fun c => ⟨⟨_, rfl⟩, rfl⟩)
    have c1 : (0 : Int) < (((ns.map V.int).length : Nat) : Int) := dec_true c
    obtain ⟨v, hv⟩ := at_mod (ns := ns) (k := k) (by rw [hlen] at c1; omega)
    exact ⟨_, .inl hS, c1, _, _, hS, hv, ⟨v, rfl⟩, rfl⟩
  rintro x H' ⟨⟨v, rfl⟩, rfl⟩
  have k2 : 31 * k * k ≤ 31 * 100000 * 100000 := Int.mul_le_mul (by omega) k1 k0 (by decide)
  have k3 : 0 ≤ 31 * k * k := Int.mul_nonneg (by omega) k0
  refine ⟨(by show (0 : Int) < _; decide), ⟨big64 (by decide) (by decide), big64 (by omega) (by omega)⟩, ⟨big64 (by omega) (by omega), big64 (by omega) (by omega)⟩, ?_⟩
  have s0 : 0 ≤ v % 1000003 := Int.emod_nonneg _ (by decide)
  have s1 : v % 1000003 < 1000003 := Int.emod_lt_of_pos _ (by decide)
  refine ⟨⟨big64 (by omega) (by omega), big64 (by decide) (by decide)⟩, (by show (0 : Int) < _; decide), ?_⟩
  have t0 : 0 ≤ (v % 1000003 + 31 * k * k + 1) * 48271 % 999983 := Int.emod_nonneg _ (by decide)
  have t1 : (v % 1000003 + 31 * k * k + 1) * 48271 % 999983 < 999983 := Int.emod_lt_of_pos _ (by decide)
  refine ⟨⟨big64 (by omega) (by omega), big64 (by decide) (by decide)⟩, (by show (0 : Int) < _; decide), m0, ?_⟩
  exact q _ (Int.emod_nonneg _ (by omega)) (Int.emod_lt_of_pos _ m0)
variable (Zg : FB P w K mg base (CX0) 2 "_law_far" Zcb Zc0 ["_law_script", "_law_k"] (spFar K))
include ZL Zb in
theorem ZdD (F0 : GFm K mg "_law_far" Zc9 Zcb Zc0) : type_of% Zg := by
  refine fbM ["_law_script", "_law_k", "_law_cell"] F0 fun Sc0 => F0.F.ok Sc0 (fun vs H Q E h => ?_) fun cdv A outer s H vs Q E hr h => ?_
  · obtain ⟨a, ns, k, rfl, _⟩ := h
    rfl
  obtain ⟨a, ns, kk, rfl, hS, h63, hk, q⟩ := h
  have nd := Sc0.nd
  refine ⟨_, (pss_cons (ps_set (i := 2) nd rfl (Or.inl rfl) (pe_cut (pe_ifExp (md_cmp z_gt (pe_callB z_len rfl ZL bt_len (pa_cons (dv 0) pa_nil)) pe_int (nomark _)) (pe_ix z_ixL (dv 0) (pe_op z_mod (dv 1) (pe_callB z_len rfl ZL bt_len (pa_cons (dv 0) pa_nil))) (fun _ _ => rfl)) pe_int))) (pss_one (ps_ret (pe_ix z_ixL (pe_lst (pa_cons (pe_un z_neg pe_int) (pa_cons pe_int (pa_cons (pe_op z_add pe_int (pe_op z_mod (dv 2) (pe_op z_pow pe_int pe_int))) (pa_cons (pe_op z_sub (pe_un z_neg pe_int) (pe_op z_mod (dv 2) (pe_op z_pow pe_int pe_int))) pa_nil))))) (pe_call Zb.1 (hr.mono (by decide)) rfl Zb.2.2.2 Zb.2.2.1 Zb.2.1 .nil pass0 (pa_cons (dv 0) (pa_cons (pe_op z_add (dv 1) pe_int) (pa_cons pe_int pa_nil)))) (fun _ _ => rfl))))), ?_⟩
  refine ⟨fun x H' => (∃ v, x = .int v) ∧ H' = H, ?_, ?_⟩
  · have hlen : (ns.map V.int).length = ns.length := List.length_map _
    refine ⟨_, .inl hS, ?_⟩
    conv => whnf
    refine ite2 (fun c => ?_) (fun c => ⟨⟨_, rfl⟩, rfl⟩)
    have c1 : (0 : Int) < (((ns.map V.int).length : Nat) : Int) := dec_true c
    obtain ⟨v, hv⟩ := at_mod (ns := ns) (k := ((kk : Nat) : Int)) (by rw [hlen] at c1; omega)
    exact ⟨_, .inl hS, c1, _, _, hS, hv, ⟨v, rfl⟩, rfl⟩
  rintro x H' ⟨⟨v, rfl⟩, rfl⟩
  have p18 : (0 : Int) < 10 ^ (18 : Int).toNat := by decide
  refine ⟨⟨by decide, by decide, by decide⟩, p18, ⟨by decide, by decide, by decide⟩, p18, ?_⟩
  have b0 : 0 ≤ v % 10 ^ (18 : Int).toNat := Int.emod_nonneg _ (Int.ne_of_gt p18)
  refine ⟨small_lit rfl, fun p hp => ?_⟩
  have g1 := same_new hp (.lst [.int (-1), .int 256, .int (256 + v % 10 ^ (18 : Int).toNat), .int (-1 - v % 10 ^ (18 : Int).toNat)])
  have e1 := upd_same (H := H') (a := p) (o := .lst [.int (-1), .int 256, .int (256 + v % 10 ^ (18 : Int).toNat), .int (-1 - v % 10 ^ (18 : Int).toNat)])
  generalize upd H' p _ = H1 at g1 e1
  refine ⟨a, ns, _, 4, rfl, g1.seq hS, h63, (by show (0 : Int) ≤ ((kk : Nat) : Int) + 1; omega), (by show ((kk : Nat) : Int) + 1 ≤ 100000; omega), by decide, fun d d0 d1 => ?_⟩
  have h4 : d = 0 ∨ d = 1 ∨ d = 2 ∨ d = 3 := by omega
  rcases h4 with rfl | rfl | rfl | rfl
  · exact ⟨_, _, SqL.of e1, rfl, q _ _ (by omega) g1⟩
  · exact ⟨_, _, SqL.of e1, rfl, q _ _ (by omega) g1⟩
  · exact ⟨_, _, SqL.of e1, rfl, q _ _ (by omega) g1⟩
  · exact ⟨_, _, SqL.of e1, rfl, q _ _ (by omega) g1⟩
variable (Zl : NB P w K mg base (CX0) 1 "_law_is_other" ZaY ZbD ["_law_e"] (spOther2 Zt Zp))
include Zq Zw Zay Zam Zal ZaR Zax Zaw Zar Zah Ze ZI ZF Zaf Z8 in
theorem ZcW (F0 : GFm K mg "_law_is_other" ZbG ZaY ZbD) : type_of% Zl := by
  refine nbM ["_law_e"] F0 fun Sc0 => F0.F.okN Sc0 (fun vs H Q E h => ?_) fun cdv A outer s H vs Q E hr h => ?_
  · obtain ⟨a, X, rfl, _⟩ := h
    rfl
  obtain ⟨a, X, rfl, hX, ⟨od, ha⟩, q⟩ := h
  have nd := Sc0.nd
  refine ⟨_, (pss_one (ps_ret (pe_callB call_isiXT rfl Ze bt_isinstance (pa_cons (dv 0) (pa_cons (pe_tup (pa_cons (pe_glob (v := .ref Zb7) rfl Zah rfl) (pa_cons (pe_glob (v := .ref Zcx) rfl Zar rfl) (pa_cons (pe_glob (v := .ref Zb8) rfl Zaw rfl) (pa_cons (pe_glob (v := .ref Zb9) rfl Zax rfl) (pa_cons (pe_glob (v := .ref Zcy) rfl ZaR rfl) (pa_cons (pe_glob (v := .ref ZbA) rfl Zal rfl) (pa_cons (pe_glob (v := .ref ZbB) rfl Zam rfl) (pa_cons (pe_glob (v := .ref Zca) rfl Zay rfl) pa_nil))))))))) pa_nil))))), ?_⟩
  refine ⟨(small_lit rfl), fun p hp => ?_⟩
  rcases hX with rfl | rfl
  · exact ⟨a, p, _, _, X, false, rfl, upd_same, rfl, ⟨od, by rw [upd_ne (ne_of_none ha hp)]; exact ha⟩, ZI, Zaf, q _ (same_new hp _)⟩
  · exact ⟨a, p, _, _, X, false, rfl, upd_same, rfl, ⟨od, by rw [upd_ne (ne_of_none ha hp)]; exact ha⟩, ZF, Z8, q _ (same_new hp _)⟩
variable (Zk : FB P w K mg base (CX0) 6 "_law_no_post" Zba ZbW ["_law_choice", "_law_votes"] (spNoPost K))
include Zq Zas Zw Zay Zam Zal ZaR Zax Zaw Zar Zah Zbi ZG Ze Zaa ZI Z1 Zaf ZaN ZaM ZaK ZD Zl in
theorem Zc5 (F0 : GFm K mg "_law_no_post" Zb1 Zba ZbW) : type_of% Zk := by
  refine fbM ["_law_choice", "_law_votes", "_law_good", "_law_e"] F0 fun Sc0 => F0.F.ok Sc0 (fun vs H Q E h => ?_) fun cdv A outer s H vs Q E hr h => ?_
  · obtain ⟨ch, m1, m2, v, rfl, _⟩ := h
    rfl
  obtain ⟨ch, m1, m2, v, rfl, ec, no, q⟩ := h
  have nd := Sc0.nd
  refine ⟨_, (pss_cons (ps_set (i := 2) nd rfl (Or.inl rfl) pe_bl) (pss_cons (ps_tryH (fun pins0 σ0 EX => (pss_one (ps_expr (md_makeT Z1 ZD.1 (hr.mono (by decide)) rfl Zbi ZD.2 .nil (pa_cons (dv 0) (pa_cons (dv 1) pa_nil)))))) (ph_as (i := 3) rfl ZG nd rfl rfl (fun ev => (pss_cons (ps_set (i := 2) nd rfl (Or.inl rfl) (md_and (pe_callB (call_isiXK (K := K)) rfl Ze bt_isinstance (pa_cons (dv 3) (pa_cons (pe_glob (v := .ref Zt) rfl Zw rfl) pa_nil))) (pe_one (pe_callB (call_isiXK (K := K)) rfl Ze bt_isinstance (pa_cons (dv 3) (pa_cons (pe_bltn (v := .ty "ValueError") rfl Zaa bt_ValueError rfl) pa_nil)))))) (pss_one (ps_set (i := 2) nd rfl (Or.inl rfl) (md_and (dv 2) (md_and (md_not (pe_callB (call_isiXK (K := K)) rfl Ze bt_isinstance (pa_cons (dv 3) (pa_cons (pe_glob (v := .ref Zp) rfl Zq rfl) pa_nil)))) (pe_one (md_not (pe_callN Zl.1 ((hr.toN.mono (by decide)).marked _) rfl Zl.2.2.2 Zl.2.2.1 Zl.2.1 .nil pass0 (pa_cons (dv 3) pa_nil)))))))))) ph_nil) rfl rfl) (pss_one (ps_ret (dv 2))))), ?_⟩
  refine ⟨rfl, fun y dx hy hdx hne => ⟨y, dx, ch, m1, m2, v, rfl, upd_same, (by rw [upd_ne (ne_of_none ec hy), upd_ne (ne_of_none ec hdx)]; exact ec), fun ok => absurd ok no, fun _ H1 k1 => .inl ⟨ZaK, fun x hx => ?_⟩⟩⟩
  have g1 : Same H H1 := fun z u e => k1 z u (ne_of_none e hy) (by rw [upd_ne (ne_of_none e hy), upd_ne (ne_of_none e hdx)]; exact e)
  have e2 := upd_same (H := H1) (a := x) (o := excO (.ref Zt) x none)
  have g2 := same_new hx (excO (.ref Zt) x none)
  generalize upd H1 x (excO (.ref Zt) x none) = H2 at g2 e2
  refine ⟨x, _, _, Zt, _, rfl, rfl, ⟨_, e2⟩, ZI, kit_self, ?_⟩
  refine ⟨x, _, _, Zt, _, rfl, rfl, ⟨_, e2⟩, ZI, ZaN, ?_⟩
  refine ⟨x, _, _, Zt, _, rfl, rfl, ⟨_, e2⟩, ZI, ZaM, ?_⟩
  exact ⟨x, Zt, rfl, .inl rfl, ⟨_, e2⟩, fun H3 g3 => q _ (g1.trans (g2.trans g3))⟩
variable (Zi : FB P w K mg base (CX0) 5 "_law_no_frame" ZaZ ZbE ["_law_post", "_law_name", "_law_data_here"] (spNoFrame K CA))
include Zq Zw Zay Zam Zal ZaR Zax Zaw Zar Zah ZG Ze Zaa ZF Za ZA Z8 ZaE ZaC ZaB ZM Zl in
theorem ZcX (F0 : GFm K mg "_law_no_frame" ZbH ZaZ ZbE) : type_of% Zi := by
  refine fbM ["_law_post", "_law_name", "_law_data_here", "_law_good", "_law_e"] F0 fun Sc0 => F0.F.ok Sc0 (fun vs H Q E h => ?_) fun cdv A outer s H vs Q E hr h => ?_
  · obtain ⟨p, nwf, S, o, n, a, ds, rfl, _⟩ := h
    rfl
  obtain ⟨p, nwf, S, o, n, a, ds, rfl, bd, hS, hl, hw, no, q⟩ := h
  have nd := Sc0.nd
  refine ⟨_, (pss_cons (ps_set (i := 3) nd rfl (Or.inl rfl) pe_bl) (pss_cons (ps_tryH (fun pins0 σ0 EX => (pss_one (ps_expr (md_methT Za ZA ZM.1 (hr.mono (by decide)) ZM.2 .nil (dv 0) (pa_cons (dv 1) (pa_cons (dv 2) pa_nil)))))) (ph_as (i := 4) rfl ZG nd rfl rfl (fun ev => (pss_cons (ps_set (i := 3) nd rfl (Or.inl rfl) (md_and (pe_callB (call_isiXK (K := K)) rfl Ze bt_isinstance (pa_cons (dv 4) (pa_cons (pe_glob (v := .ref Zp) rfl Zq rfl) pa_nil))) (pe_one (pe_callB (call_isiXK (K := K)) rfl Ze bt_isinstance (pa_cons (dv 4) (pa_cons (pe_bltn (v := .ty "ValueError") rfl Zaa bt_ValueError rfl) pa_nil)))))) (pss_one (ps_set (i := 3) nd rfl (Or.inl rfl) (md_and (dv 3) (md_and (md_not (pe_callB (call_isiXK (K := K)) rfl Ze bt_isinstance (pa_cons (dv 4) (pa_cons (pe_glob (v := .ref Zt) rfl Zw rfl) pa_nil)))) (pe_one (md_not (pe_callN Zl.1 ((hr.toN.mono (by decide)).marked _) rfl Zl.2.2.2 Zl.2.2.1 Zl.2.1 .nil pass0 (pa_cons (dv 4) pa_nil)))))))))) ph_nil) rfl rfl) (pss_one (ps_ret (dv 3))))), ?_⟩
  obtain ⟨dp, ch, wl, ul, ct, ws, us, b⟩ := id bd
  refine ⟨⟨dp, _, b.e, rfl⟩, rfl, p, nwf, S, o, n, a, ds, rfl, bd, hS, hl, hw, fun ok => absurd ok no, fun _ H1 g1 => .inl ⟨ZaB, fun x hx => ?_⟩⟩
  have e2 := upd_same (H := H1) (a := x) (o := excO (.ref Zp) x none)
  have g2 := same_new hx (excO (.ref Zp) x none)
  generalize upd H1 x (excO (.ref Zp) x none) = H2 at g2 e2
  refine ⟨x, _, _, Zp, _, rfl, rfl, ⟨_, e2⟩, ZF, kit_self, ?_⟩
  refine ⟨x, _, _, Zp, _, rfl, rfl, ⟨_, e2⟩, ZF, ZaE, ?_⟩
  refine ⟨x, _, _, Zp, _, rfl, rfl, ⟨_, e2⟩, ZF, ZaC, ?_⟩
  exact ⟨x, Zp, rfl, .inr rfl, ⟨_, e2⟩, fun H3 g3 => q _ (g1.trans (g2.trans g3))⟩
variable (Zc : FB P w K mg base (CX0) 1 "_law_frames_alike" Zau Za3 ["_law_found", "_law_due"] (spAlikeF K))
include ZL ZU Ze Z9 ZcA Zbx Zcd in
theorem Zce (F0 : GFm K mg "_law_frames_alike" Za4 Zau Za3) : type_of% Zc := by
  refine fbM ["_law_found", "_law_due", "_law_k", "_law_one", "_law_number"] F0 fun Sc0 => F0.F.ok Sc0 (fun vs H Q E h => ?_) fun cdv A outer s H vs Q E hr h => ?_
  · obtain ⟨a, b, xs, ys, fs, o1, o2, rfl, _⟩ := h
    rfl
  obtain ⟨a, b, xs, ys, fs, o1, o2, rfl, ea, fa, eb, fb_, hl, hd, q⟩ := h
  have nd := Sc0.nd
  refine ⟨_, (pss_cons (ps_if (PW.pt (pw_or (pt_not (md_val (pe_callB z_isi_list rfl Ze bt_isinstance (pa_cons (dv 0) (pa_cons (pe_bltn (v := .ty "list") rfl ZU bt_list rfl) pa_nil))))) (pw_or1 (md_cmp z_ne (pe_callB z_len rfl ZL bt_len (pa_cons (dv 0) pa_nil)) (pe_callB z_len rfl ZL bt_len (pa_cons (dv 1) pa_nil)) (nomark _))))) (pss_one (ps_ret pe_bl)) pss_nil) (pss_cons (ps_for PassesOwn.never rfl (mi_range1 rfl Z9 (pa_cons (pe_callB z_len rfl ZL bt_len (pa_cons (dv 1) pa_nil)) pa_nil)) (pg_name (i := 2) nd rfl (Or.inl rfl)) (pss_cons (ps_set (i := 3) nd rfl (Or.inl rfl) (pe_ix z_ixL (dv 0) (dv 2) (fun _ _ => rfl))) (pss_cons (ps_if (PW.pt (pw_or (pt_not (md_val (pe_callB z_isi_tuple rfl Ze bt_isinstance (pa_cons (dv 3) (pa_cons (pe_bltn (v := .ty "tuple") rfl ZcA bt_tuple rfl) pa_nil))))) (pw_or (md_cmp z_ne (pe_callB z_len rfl ZL bt_len (pa_cons (dv 3) pa_nil)) pe_int (nomark _)) (pw_or1 (pt_not (md_val (pe_callB z_isi_list rfl Ze bt_isinstance (pa_cons (pe_ix z_ixT (dv 3) pe_int (fun _ _ => rfl)) (pa_cons (pe_bltn (v := .ty "list") rfl ZU bt_list rfl) pa_nil))))))))) (pss_one (ps_ret pe_bl)) pss_nil) (pss_cons (ps_for PassesOwn.never rfl (mi_list (pe_op z_cat (pe_lst (pa_cons (pe_ix z_ixT (dv 3) pe_int (fun _ _ => rfl)) pa_nil)) (pe_ix z_ixT (dv 3) pe_int (fun _ _ => rfl)))) (pg_name (i := 4) nd rfl (Or.inl rfl)) (pss_one (ps_if (PW.pt (pw_or (pt_not (md_val (pe_callB z_isi_int rfl Ze bt_isinstance (pa_cons (dv 4) (pa_cons (pe_bltn (v := .ty "int") rfl Zcd bt_int rfl) pa_nil))))) (pw_or1 (md_val (pe_callB z_isi_bool rfl Ze bt_isinstance (pa_cons (dv 4) (pa_cons (pe_bltn (v := .ty "bool") rfl Zbx bt_bool rfl) pa_nil))))))) (pss_one (ps_ret pe_bl)) pss_nil))) (pss_one (ps_if (PW.pt (pw_or (md_cmp z_ne (pe_ix z_ixT (dv 3) pe_int (fun _ _ => rfl)) (pe_ix z_ixT (pe_ix z_ixL (dv 1) (dv 2) (fun _ _ => rfl)) pe_int (fun _ _ => rfl)) (nomark _)) (pw_or1 (md_cmp (z_neL hr.units) (pe_ix z_ixT (dv 3) pe_int (fun _ _ => rfl)) (pe_ix z_ixT (pe_ix z_ixL (dv 1) (dv 2) (fun _ _ => rfl)) pe_int (fun _ _ => rfl)) (nomark _))))) (pss_one (ps_ret pe_bl)) pss_nil)))))) (pss_one (ps_ret pe_bl)))), ?_⟩
  have la := fa.len
  have lb := fb_.len
  refine ⟨rfl, ⟨_, ea⟩, _, .inl (SqL.of ea), _, .inl (SqL.of eb), ?_⟩
  rw [la, lb]
  conv => whnf
  refine iteNS rfl ?_
  refine ⟨_, .inl (SqL.of eb), ?_⟩
  rw [lb]
  have em : ((fs.length : Nat) : Int).toNat = fs.length := Int.toNat_natCast _
  refine ⟨⟨by omega, by omega⟩, for_range (fun i σ H' => (∃ x y z, σ = [some (.ref a), some (.ref b), x, y, z]) ∧ Same H H') ⟨⟨_, _, _, rfl⟩, Same.refl _⟩ ?_ ?_⟩
  · rintro i σ H' hi ⟨⟨x, y, z, rfl⟩, g⟩
    rw [em] at hi
    have e0 : (0 : Int) + (i : Int) = ((i : Nat) : Int) := Int.zero_add _
    rw [e0]
    have hxa : xs[i]? = some xs[i] := List.getElem?_eq_getElem (by omega)
    have hxb : ys[i]? = some ys[i] := List.getElem?_eq_getElem (by omega)
    obtain ⟨t, f, ev, hf, d, et, ed, _⟩ := fa.get hxa
    obtain ⟨t2, f2, ev2, hf2, d2, et2, ed2, _⟩ := fb_.get hxb
    rw [hf] at hf2
    cases hf2
    have hf9 := hd f (List.mem_of_getElem? hf)
    have hata : atI xs ((i : Nat) : Int) = some (.ref t) := atI_nat (by rw [hxa, ev])
    have hatb : atI ys ((i : Nat) : Int) = some (.ref t2) := atI_nat (by rw [hxb, ev2])
    refine ⟨_, _, SqL.of (g _ _ ea), hata, ?_⟩
    refine ⟨rfl, ⟨_, g _ _ et⟩, _, .inr (SqT.of (g _ _ et)), _, _, SqT.of (g _ _ et), rfl, rfl, ⟨_, g _ _ ed⟩, ?_⟩
    refine ⟨_, _, SqT.of (g _ _ et), rfl, small_lit rfl, fun p1 hp1 => ?_⟩
    have k1 := same_new hp1 (.lst [.int ((f.1 : Nat) : Int)])
    have f1 := upd_same (H := H') (a := p1) (o := .lst [.int ((f.1 : Nat) : Int)])
    generalize upd H' p1 _ = H1 at k1 f1
    have g1 := g.trans k1
    refine ⟨_, _, SqT.of (g1 _ _ et), rfl, _, _, f1, g1 _ _ ed, (by rw [List.length_map]; exact small (by show 1 + f.2.length ≤ 1000; omega)), fun p2 hp2 => ?_⟩
    have k2 := same_new hp2 (.lst ([.int ((f.1 : Nat) : Int)] ++ f.2.map V.int))
    have e2 : upd H1 p2 (.lst ([.int ((f.1 : Nat) : Int)] ++ f.2.map V.int)) p2 = some (.lst ((((f.1 : Nat) : Int) :: f.2).map V.int)) := upd_same
    generalize upd H1 p2 _ = H2 at k2 e2
    have g2 := g1.trans k2
    refine ⟨⟨_, SqL.of e2⟩, for_list (xs := (((f.1 : Nat) : Int) :: f.2).map V.int) (fun _ σ H3 => (∃ z, σ = [some (.ref a), some (.ref b), some (.int ((i : Nat) : Int)), some (.ref t), z]) ∧ H3 = H2) ⟨⟨_, rfl⟩, rfl⟩ (fun _ σ H3 _ w => by rw [w.2]; exact SqL.of e2) ?_ ?_⟩
    · rintro j x σ H3 hx ⟨⟨z, rfl⟩, rfl⟩
      obtain ⟨hj, rfl⟩ := get_int hx
      exact ⟨rfl, rfl, ⟨_, rfl⟩, rfl⟩
    rintro σ H3 ⟨⟨z, rfl⟩, rfl⟩
    refine ⟨_, _, SqT.of (g2 _ _ et), rfl, _, _, SqL.of (g2 _ _ eb), hatb, _, _, SqT.of (g2 _ _ et2), rfl, ?_⟩
    conv => whnf
    refine ite2 (fun c => ?_) (fun c => ?_)
    · have c' : (!decide (((f.1 : Nat) : Int) = ((f.1 : Nat) : Int))) = true := c
      rw [decide_eq_true rfl] at c'
      cases c'
    refine ⟨_, _, SqT.of (g2 _ _ et), rfl, _, _, SqL.of (g2 _ _ eb), hatb, _, _, SqT.of (g2 _ _ et2), rfl, f.2, f.2, SqL.of (g2 _ _ ed), SqL.of (g2 _ _ ed2), ?_⟩
    conv => whnf
    refine iteNS rfl ?_
    exact ⟨⟨_, _, _, rfl⟩, g2⟩
  rintro σ H' ⟨⟨x, y, z, rfl⟩, g⟩
  exact q _ g
variable (ZH : FB P w K mg base (CX0) 5 "_law_new" Zcc Zc1 ["_law_post"] (spNewP CA))
include Ze Zbx Zcd Za Zr ZB ZC Zn Zx Z2 Z3 Zy Zae Zad Zs ZY ZE ZN in
theorem ZdE (F0 : GFm K mg "_law_new" Zda Zcc Zc1) : type_of% ZH := by
  refine fbM ["_law_post", "_law_number"] F0 fun Sc0 => F0.F.ok Sc0 (fun vs H Q E h => ?_) fun cdv A outer s H vs Q E hr h => ?_
  · obtain ⟨p, S, o, rfl, _⟩ := h
    rfl
  obtain ⟨p, S, o, rfl, hP, h1, h2, h3, h4, q⟩ := h
  have nd := Sc0.nd
  refine ⟨_, (pss_cons (ps_if (PW.pt (pw_or (md_cmp (z_neS hr.units) (md_meth0 Za Zx ZE.1 (hr.mono (by decide)) ZE.2 .nil pass0 (dv 0)) (pe_tup (pa_cons pe_str (pa_cons pe_int pa_nil))) (nomark _)) (pw_or (md_cmp (z_neL hr.units) (md_meth0 Za Zn Zs.1 (hr.mono (by decide)) Zs.2 .nil pass0 (dv 0)) (pe_lst pa_nil) (nomark _)) (pw_or (md_cmp (z_neL hr.units) (md_meth0 Za ZC ZY.1 (hr.mono (by decide)) ZY.2 .nil pass0 (dv 0)) (pe_lst pa_nil) (nomark _)) (pw_or1 (md_cmp z_ne (md_meth0 Za ZB ZN.1 (hr.mono (by decide)) ZN.2 .nil pass0 (dv 0)) pe_int (nomark _))))))) (pss_one (ps_ret pe_bl)) pss_nil) (pss_cons (ps_set (i := 1) nd rfl (Or.inl rfl) (md_meth0 Za Z2 Zad.1 (hr.mono (by decide)) Zad.2 .nil pass0 (dv 0))) (pss_cons (ps_if (PW.pt (pw_or (pt_not (md_val (pe_callB z_isi_int rfl Ze bt_isinstance (pa_cons (dv 1) (pa_cons (pe_bltn (v := .ty "int") rfl Zcd bt_int rfl) pa_nil))))) (pw_or (md_val (pe_callB z_isi_bool rfl Ze bt_isinstance (pa_cons (dv 1) (pa_cons (pe_bltn (v := .ty "bool") rfl Zbx bt_bool rfl) pa_nil)))) (pw_or1 (md_cmp z_ne (dv 1) pe_int (nomark _)))))) (pss_one (ps_ret pe_bl)) pss_nil) (pss_one (ps_ret (md_and (pe_cmpR z_isB (md_meth0 Za Zr Zy.1 (hr.mono (by decide)) Zy.2 .nil pass0 (dv 0)) pe_bl (nomark _)) (pe_one (pe_cmpR z_isB (md_meth0 Za Z3 Zae.1 (hr.mono (by decide)) Zae.2 .nil pass0 (dv 0)) pe_bl (nomark _))))))))), ?_⟩
  obtain ⟨dp, ch, vt, wl, ul, ct, nw, ep⟩ := hP.cell
  have hs : saysP S = 1 := by rw [say_free h1]; exact if_pos h2
  refine ⟨⟨dp, _, ep, rfl⟩, p, S, o, 0, rfl, h1, hP, fun t H1 ht g1 e1 => ?_⟩
  refine ⟨small_lit rfl, fun t2 ht2 => ?_⟩
  have g2 := same_new ht2 (.tup [.str "free", .int 0])
  have e2 := upd_same (H := H1) (a := t2) (o := .tup [.str "free", .int 0])
  generalize upd H1 t2 _ = H2 at g2 e2
  refine ⟨_, dv_free (g2 _ _ e1), dv_free e2, shaped_free (by decide +kernel) _, ?_⟩
  have gs2 := g1.trans g2
  obtain ⟨nw2, ob2, bd2⟩ := (hP.same gs2).bd
  refine ⟨⟨dp, _, gs2 _ _ ep, rfl⟩, p, nw2, S, ob2, rfl, bd2, (by rw [h2]; show 0 ≤ 900; decide), fun l xs H3 hl g3 e3 fn => ?_⟩
  rw [h2] at fn
  have hx0 : xs = [] := List.eq_nil_of_length_eq_zero fn.len
  rw [hx0] at e3
  refine ⟨small_lit rfl, fun le hle => ?_⟩
  have g4 := same_new hle (.lst [])
  have e4 := upd_same (H := H3) (a := le) (o := .lst [])
  generalize upd H3 le (.lst []) = H4 at g4 e4
  refine ⟨[], [], SqL.of (g4 _ _ e3), SqL.of e4, ?_⟩
  have gs4 := gs2.trans (g3.trans g4)
  obtain ⟨nw4, ob4, bd4⟩ := (hP.same gs4).bd
  refine ⟨⟨dp, _, gs4 _ _ ep, rfl⟩, p, nw4, S, ob4, rfl, bd4, (by rw [h3]; show 0 ≤ 900; decide), fun l2 xs2 H5 hl2 g5 e5 fn2 => ?_⟩
  rw [h3] at fn2
  have hx1 : xs2 = [] := List.eq_nil_of_length_eq_zero fn2.len
  rw [hx1] at e5
  refine ⟨small_lit rfl, fun le2 hle2 => ?_⟩
  have g6 := same_new hle2 (.lst [])
  have e6 := upd_same (H := H5) (a := le2) (o := .lst [])
  generalize upd H5 le2 (.lst []) = H6 at g6 e6
  refine ⟨[], [], SqL.of (g6 _ _ e5), SqL.of e6, ?_⟩
  have gs6 := gs4.trans (g5.trans g6)
  have hP6 := hP.same gs6
  refine ⟨⟨dp, _, gs6 _ _ ep, rfl⟩, p, S, o, 0, rfl, h1, hP6, ?_⟩
  rw [hs]
  obtain ⟨nw6, ob6, bd6⟩ := hP6.bd
  refine ⟨⟨dp, _, gs6 _ _ ep, rfl⟩, p, nw6, S, ob6, rfl, bd6, ?_⟩
  rw [h4]
  refine ⟨rfl, rfl, ?_⟩
  refine ⟨⟨dp, _, gs6 _ _ ep, rfl⟩, p, nw6, S, ob6, rfl, bd6, ?_⟩
  rw [h4]
  refine ⟨⟨dp, _, gs6 _ _ ep, rfl⟩, p, nw6, S, ob6, rfl, bd6, ?_⟩
  rw [h4]
  exact q _ gs6
variable (Z5 : FB P w K mg base (CX0) 2 "_law_data" ZbR ZcI ["_law_script", "_law_base"] (spData K))
include Z9 Zb in
theorem Zdw (F0 : GFm K mg "_law_data" ZcQ ZbR ZcI) : type_of% Z5 := by
  refine fbM ["_law_script", "_law_base"] F0 fun Sc0 => F0.F.ok Sc0 (fun vs H Q E h => ?_) fun cdv A outer s H vs Q E hr h => ?_
  · obtain ⟨a, ns, k, rfl, _⟩ := h
    rfl
  obtain ⟨a, ns, k, rfl, hS, h63, hk, q⟩ := h
  have nd := Sc0.nd
  refine ⟨_, (pss_one (ps_ret (pe_comp rfl (ix := [0, 1]) (mi_range1 rfl Z9 (pa_cons (pe_call Zb.1 (hr.mono (by decide)) rfl Zb.2.2.2 Zb.2.2.1 Zb.2.1 .nil pass0 (pa_cons (dv 0) (pa_cons (dv 1) (pa_cons pe_int pa_nil)))) pa_nil)) (fun C fp s0 H0 at0 => pts_nil) (fun C fp s0 H0 at0 => (pe_call Zb.1 (hr.mono (by decide)) rfl Zb.2.2.2 Zb.2.2.1 Zb.2.1 .nil pass0 (pa_cons (dv 1) (pa_cons (pe_op z_add (pe_op z_add (dv 2) pe_int) (dv 0)) (pa_cons pe_int pa_nil))))) rfl rfl (by rfl) (show ([".0", "_law_k", "_law_script", "_law_base"] : List Str).Nodup by decide +kernel)))), ?_⟩
  refine ⟨a, ns, _, 8, rfl, hS, h63, (by show (0 : Int) ≤ ((k : Nat) : Int); omega), (by show ((k : Nat) : Int) ≤ 100000; omega), by decide, fun m0 m0a m0b => ?_⟩
  obtain ⟨m, rfl⟩ := Int.eq_ofNat_of_zero_le m0a
  have em : ((m : Nat) : Int).toNat = m := Int.toNat_natCast m
  refine ⟨⟨by omega, by omega⟩, comp_range (fun i ys H' => (∃ ds : List Int, ds.all byt = true ∧ ds.length = i ∧ ys = ds.map V.int) ∧ H' = H) ?_ ⟨⟨[], rfl, rfl, rfl⟩, rfl⟩ ?_ ?_⟩
  · rintro i ys H' hi ⟨⟨ds, _, hdl, rfl⟩, _⟩
    refine small1 ?_
    rw [List.length_map]
    omega
  · rintro i ys H' hi ⟨⟨ds, hd, hdl, rfl⟩, rfl⟩
    refine ⟨a, ns, _, 256, rfl, hS, h63, (by show (0 : Int) ≤ ((k : Nat) : Int) + 1 + (0 + (i : Int)); omega), (by show ((k : Nat) : Int) + 1 + (0 + (i : Int)) ≤ 100000; omega), by decide, fun d d0 d1 => ⟨⟨ds ++ [d], ?_, ?_, ?_⟩, rfl⟩⟩
    · rw [List.all_append, hd, Bool.true_and, List.all_cons, List.all_nil, Bool.and_true]; exact byt_iff.mpr (by omega)
    · rw [List.length_append, List.length_singleton, hdl]
    · rw [List.map_append]; rfl
  rintro ys H1 ⟨⟨ds, hds, hdl, rfl⟩, rfl⟩ pd hpd
  rw [em] at hdl
  exact q pd ds _ hpd (same_new hpd _) upd_same (by omega) hds
variable (ZJ : FB P w K mg base (CX0) 6 "_law_spoiled" Zbb ZbX ["_law_script", "_law_post", "_law_base", "_law_frame"] (spSpoil K CA))
include Zq Zw ZG ZL ZU Z9 Zb Zg Zi in
theorem Zc6 (F0 : GFm K mg "_law_spoiled" Zb2 Zbb ZbX) : type_of% ZJ := by
  refine fbM ["_law_script", "_law_post", "_law_base", "_law_frame", "_law_way", "_law_data_here"] F0 fun Sc0 => F0.F.ok Sc0 (fun vs H Q E h => ?_) fun cdv A outer s H vs Q E hr h => ?_
  · obtain ⟨a, ns, p, nwf, S, o, k, t, d, f, rfl, _⟩ := h
    rfl
  obtain ⟨a, ns, p, nwf, S, o, k, t, d, f, rfl, hS, h63, bd, hw, et, ed, hf, hk, q⟩ := h
  have nd := Sc0.nd
  refine ⟨_, (pss_cons (ps_set (i := 4) nd rfl (Or.inl rfl) (pe_call Zb.1 (hr.mono (by decide)) rfl Zb.2.2.2 Zb.2.2.1 Zb.2.1 .nil pass0 (pa_cons (dv 0) (pa_cons (dv 2) (pa_cons pe_int pa_nil))))) (pss_cons (ps_if (md_cmp z_eq (dv 4) pe_int (nomark _)) (pss_one (ps_ret (pe_call Zi.1 (hr.mono (by decide)) rfl Zi.2.2.2 Zi.2.2.1 Zi.2.1 .nil pass0 (pa_cons (dv 1) (pa_cons (pe_call Zg.1 (hr.mono (by decide)) rfl Zg.2.2.2 Zg.2.2.1 Zg.2.1 .nil pass0 (pa_cons (dv 0) (pa_cons (pe_op z_add (dv 2) pe_int) pa_nil))) (pa_cons (pe_callTy z_listOf rfl ZU bt_list (pa_cons (pe_ix z_ixT (dv 3) pe_int (fun _ _ => rfl)) pa_nil)) pa_nil)))))) pss_nil) (pss_cons (ps_if (md_cmp z_eq (dv 4) pe_int (nomark _)) (pss_one (ps_ret (pe_call Zi.1 (hr.mono (by decide)) rfl Zi.2.2.2 Zi.2.2.1 Zi.2.1 .nil pass0 (pa_cons (dv 1) (pa_cons (pe_ix z_ixT (dv 3) pe_int (fun _ _ => rfl)) (pa_cons (pe_comp rfl (ix := [0, 2]) (mi_range1 rfl Z9 (pa_cons (pe_op z_add pe_int (pe_op z_mod (dv 2) pe_int)) pa_nil)) (fun C fp s0 H0 at0 => pts_nil) (fun C fp s0 H0 at0 => (pe_call Zb.1 (hr.mono (by decide)) rfl Zb.2.2.2 Zb.2.2.1 Zb.2.1 .nil pass0 (pa_cons (dv 1) (pa_cons (pe_op z_add (dv 2) (dv 0)) (pa_cons pe_int pa_nil))))) rfl rfl (by rfl) (show ([".0", "_law_k", "_law_script", "_law_base"] : List Str).Nodup by decide +kernel)) pa_nil)))))) pss_nil) (pss_cons (ps_set (i := 5) nd rfl (Or.inl rfl) (pe_callTy z_listOf rfl ZU bt_list (pa_cons (pe_slice z_slL (pe_ix z_ixT (dv 3) pe_int (fun _ _ => rfl)) po_none (md_part pe_int)) pa_nil))) (pss_cons (ps_expr (md_insert (dv 5) (pa_cons (pe_call Zb.1 (hr.mono (by decide)) rfl Zb.2.2.2 Zb.2.2.1 Zb.2.1 .nil pass0 (pa_cons (dv 0) (pa_cons (pe_op z_add (dv 2) pe_int) (pa_cons (pe_op z_add (pe_callB z_len rfl ZL bt_len (pa_cons (dv 5) pa_nil)) pe_int) pa_nil)))) (pa_cons (pe_call Zg.1 (hr.mono (by decide)) rfl Zg.2.2.2 Zg.2.2.1 Zg.2.1 .nil pass0 (pa_cons (dv 0) (pa_cons (pe_op z_add (dv 2) pe_int) pa_nil))) pa_nil)))) (pss_one (ps_ret (pe_call Zi.1 (hr.mono (by decide)) rfl Zi.2.2.2 Zi.2.2.1 Zi.2.1 .nil pass0 (pa_cons (dv 1) (pa_cons (pe_ix z_ixT (dv 3) pe_int (fun _ _ => rfl)) (pa_cons (dv 5) pa_nil))))))))))), ?_⟩
  have hk0 : (0 : Int) ≤ ((k : Nat) : Int) := by omega
  refine ⟨a, ns, _, 3, rfl, hS, h63, hk0, (by show ((k : Nat) : Int) ≤ 100000; omega), by decide, fun w w0 w1 => ?_⟩
  conv => whnf
  refine ite2 (fun c => ?_) (fun c => ?_)
  · refine ⟨a, ns, k + 1, rfl, hS, h63, by omega, fun z H1 hz g1 => ?_⟩
    have bd1 := bd.move (H' := H1) fun x v e _ => g1 x v e
    refine ⟨_, _, SqT.of (g1 _ _ et), rfl, _, .inl (SqL.of (g1 _ _ ed)), fun l hl => ?_⟩
    have g2 := same_new hl (.lst (f.2.map V.int))
    have e2 := upd_same (H := H1) (a := l) (o := .lst (f.2.map V.int))
    generalize upd H1 l (.lst (f.2.map V.int)) = H2 at g2 e2
    have h7 := hf.2.1
    exact ⟨p, nwf, S, o, z, l, f.2, rfl, bd1.move fun x v e _ => g2 x v e, SqL.of e2, by omega, hw, not_fr (.inl (not_byt hz)), fun H3 g3 => q _ (g1.trans (g2.trans g3))⟩
  conv => whnf
  refine ite2 (fun c2 => ?_) (fun c2 => ?_)
  · refine ⟨_, _, SqT.of et, rfl, (by show (0 : Int) < 5; decide), ?_⟩
    have hm5 : 0 ≤ ((k : Nat) : Int) % 5 ∧ ((k : Nat) : Int) % 5 < 5 := by omega
    generalize ((k : Nat) : Int) % 5 = m5 at hm5
    obtain ⟨m, hm⟩ := Int.eq_ofNat_of_zero_le (show 0 ≤ 8 + m5 by omega)
    have em : (8 + m5).toNat = m := by omega
    refine ⟨⟨by omega, by omega⟩, comp_range (fun i ys H' => (∃ ds : List Int, ds.length = i ∧ ys = ds.map V.int) ∧ H' = H) ?_ ⟨⟨[], rfl, rfl⟩, rfl⟩ ?_ ?_⟩
    · rintro i ys H' hi ⟨⟨ds, hdl, rfl⟩, _⟩
      refine small1 ?_
      rw [List.length_map]
      omega
    · rintro i ys H' hi ⟨⟨ds, hdl, rfl⟩, rfl⟩
      refine ⟨a, ns, _, 256, rfl, hS, h63, (by show (0 : Int) ≤ ((k : Nat) : Int) + (0 + (i : Int)); omega), (by show ((k : Nat) : Int) + (0 + (i : Int)) ≤ 100000; omega), by decide, fun d d0 d1 => ⟨⟨ds ++ [d], ?_, ?_⟩, rfl⟩⟩
      · rw [List.length_append, List.length_singleton, hdl]
      · rw [List.map_append]; rfl
    rintro ys H1 ⟨⟨ds, hdl, rfl⟩, rfl⟩ pd hpd
    have g2 := same_new hpd (.lst (ds.map V.int))
    have e2 := upd_same (H := H1) (a := pd) (o := .lst (ds.map V.int))
    generalize upd H1 pd (.lst (ds.map V.int)) = H2 at g2 e2
    exact ⟨p, nwf, S, o, _, pd, ds, rfl, bd.move fun x v e _ => g2 x v e, SqL.of e2, by omega, hw, not_fr (.inr (.inl (by omega))), fun H3 g3 => q _ (g2.trans g3)⟩
  refine ⟨_, _, SqT.of et, rfl, _, SqL.of ed, fun p1 hp1 => ?_⟩
  have ec : cutV (f.2.map V.int) none (some (6 : Int)) = (f.2.take 6).map V.int := cut_take _ 6
  rw [ec]
  have g1 := same_new hp1 (.lst ((f.2.take 6).map V.int))
  have e1 := upd_same (H := H) (a := p1) (o := .lst ((f.2.take 6).map V.int))
  generalize upd H p1 (.lst ((f.2.take 6).map V.int)) = H1 at g1 e1
  refine ⟨_, .inl (SqL.of e1), fun l hl => ?_⟩
  have g2 := same_new hl (.lst ((f.2.take 6).map V.int))
  have e2 := upd_same (H := H1) (a := l) (o := .lst ((f.2.take 6).map V.int))
  have nl := g1.none hl
  generalize upd H1 l (.lst ((f.2.take 6).map V.int)) = H2 at g2 e2
  have gs2 := g1.trans g2
  have l6 : (f.2.take 6).length ≤ 6 := by rw [List.length_take]; omega
  generalize f.2.take 6 = ds at e2 l6
  refine ⟨⟨_, SqL.of e2⟩, _, .inl (SqL.of e2), ?_⟩
  rw [List.length_map]
  refine ⟨a, ns, _, _, rfl, gs2.seq hS, h63, (by show (0 : Int) ≤ ((k : Nat) : Int) + 3; omega), (by show ((k : Nat) : Int) + 3 ≤ 100000; omega), (by show (0 : Int) < ((ds.length : Nat) : Int) + 1; omega), fun u u0 u1 => ?_⟩
  obtain ⟨u, rfl⟩ := Int.eq_ofNat_of_zero_le u0
  refine ⟨a, ns, k + 4, rfl, gs2.seq hS, h63, by omega, fun z H3 hz g3 => ?_⟩
  refine ⟨u, _, rfl, g3 _ _ e2, (by rw [List.length_map]; omega), small1 (by rw [List.length_map]; omega), (by omega), ?_⟩
  have g4 : Same H (upd H3 l (.lst ((ds.map V.int).take u ++ V.int z :: (ds.map V.int).drop u))) := (gs2.trans g3).put nl
  have e4 : upd H3 l (.lst ((ds.map V.int).take u ++ V.int z :: (ds.map V.int).drop u)) l = some (.lst ((ds.take u ++ z :: ds.drop u).map V.int)) := by rw [upd_same, List.map_append, List.map_take, List.map_cons, List.map_drop]
  generalize upd H3 l _ = H4 at g4 e4
  refine ⟨_, _, SqT.of (g4 _ _ et), rfl, ?_⟩
  refine ⟨p, nwf, S, o, _, l, _, rfl, bd.move fun x v e _ => g4 x v e, SqL.of e4, (by rw [List.length_append, List.length_cons, List.length_take, List.length_drop]; omega), hw, not_fr (.inr (.inr ⟨z, by simp, not_byt hz⟩)), fun H5 g5 => q _ (g4.trans g5)⟩
theorem Lw.put {A : Cs} {H0 H : Hp} {p a : Addr} {S : PS} {o : Own} {xs ys : List V} (h : Lw A H0 H p S o) (e : H a = some (.lst xs)) (n : ¬ o a) (z : H0 a = none) : Lw A H0 (upd H a (.lst ys)) p S o := ⟨h.same.put z, h.fr, h.po.put e n⟩
def La (o : Own) (pf : Addr) (H : Hp) : Own := fun x => ¬ o x ∧ x ≠ pf ∧ H x ≠ none
theorem ne_none {H : Hp} {x : Addr} {v : HO} (e : H x = some v) : H x ≠ none := by rw [e]; simp
theorem La.same {o : Own} {pf : Addr} {H H' : Hp} {ts : List V} {fs : List Fr} (h : FrsAt H (La o pf H) ts fs) (g : Same H H') : FrsAt H' (La o pf H') ts fs :=
  h.imp (fun x v e _ => g x v e) fun x z => ⟨z.1, z.2.1, by
    cases e : H x with
    | none => exact absurd e z.2.2
    | some v => rw [g x v e]; simp⟩
theorem La.put' {o : Own} {pf a : Addr} {H H0 : Hp} {ts xs ys : List V} {fs : List Fr} (h : FrsAt H (fun x => La o pf H x ∧ H0 x ≠ none) ts fs) (e : H a = some (.lst xs)) (hn : H0 a = none ∨ a = pf) : FrsAt (upd H a (.lst ys)) (fun x => La o pf (upd H a (.lst ys)) x ∧ H0 x ≠ none) ts fs := by
  induction h with
  | nil => exact .nil
  | cons b _ ih =>
    obtain ⟨d, e1, e2, e3⟩ := b
    have nd : d ≠ a := by
      rcases hn with hn | hn
      · intro z; rw [z] at e3; exact e3.2 hn
      · rw [hn]; exact e3.1.2.1
    refine .cons ⟨d, ?_, by rw [upd_ne nd]; exact e2, ⟨e3.1.1, e3.1.2.1, by rw [upd_ne nd]; exact e3.1.2.2⟩, e3.2⟩ ih
    rw [upd_ne (fun z => by rw [z, e] at e1; cases e1)]
    exact e1
theorem FrsNew.get {H H' : Hp} : ∀ {ts : List V} {fs : List Fr}, FrsNew H H' ts fs → ∀ {i : Nat} {v : V}, ts[i]? = some v → ∃ t d f, v = .ref t ∧ H t = none ∧ H d = none ∧ H' t = some (.tup [.int ((f : Fr).1 : Int), .ref d]) ∧ H' d = some (.lst (f.2.map V.int)) ∧ f ∈ fs
  | _, _, .cons a1 a2 a3 a4 _, 0, _, rfl => ⟨_, _, _, rfl, a1, a2, a3, a4, List.mem_cons_self⟩
  | _, _, .cons _ _ _ _ r, i + 1, _, h => let ⟨t, d, f, b1, b2, b3, b4, b5, b6⟩ := r.get (i := i) h; ⟨t, d, f, b1, b2, b3, b4, b5, List.mem_cons_of_mem _ b6⟩
theorem wf_lens {S : PS} (h : Wf S) : ∀ f ∈ S.wt, f.2.length ≤ 900 := fun f hf => by
  have := (h.wt f hf).2.1
  omega
variable (ZdM : FB P w K mg base (CX0) 11 "law" ZdF ZdJ ["_law_script"] (spLaw K))
include Zq Zas Zw Zar Zah Zbi ZG ZU Z9 Za Z1 ZA ZB ZC Zn Zx ZM Zs ZY ZD ZE ZN Zb Zg Zk Zc ZH Z5 ZJ in
theorem ZdL (F0 : GFm K mg "law" ZdK ZdF ZdJ) : type_of% ZdM := by
  refine fbM ["_law_script", "_law_choice", "_law_votes", "_law_other", "_law_post", "_law_frames", "_law_k", "_law_frame", "_law_handed", "_law_found"] F0 fun Sc0 => F0.F.ok Sc0 (fun vs H Q E h => ?_) fun cdv A outer s H vs Q E hr h => ?_
  · obtain ⟨a, ns, rfl, _⟩ := h
    rfl
  obtain ⟨a, ns, rfl, hS, h63, q⟩ := h
  have nd := Sc0.nd
  refine ⟨_, (pss_cons (ps_set (i := 1) nd rfl (Or.inl rfl) (pe_tup (pa_cons (pe_call Zb.1 (hr.mono (by decide)) rfl Zb.2.2.2 Zb.2.2.1 Zb.2.1 .nil pass0 (pa_cons (dv 0) (pa_cons pe_int (pa_cons pe_int pa_nil)))) (pa_cons (pe_call Zb.1 (hr.mono (by decide)) rfl Zb.2.2.2 Zb.2.2.1 Zb.2.1 .nil pass0 (pa_cons (dv 0) (pa_cons pe_int (pa_cons pe_int pa_nil)))) pa_nil)))) (pss_cons (ps_set (i := 2) nd rfl (Or.inl rfl) (pe_ix z_ixL (pe_lst (pa_cons pe_int (pa_cons pe_int (pa_cons pe_int pa_nil)))) (pe_call Zb.1 (hr.mono (by decide)) rfl Zb.2.2.2 Zb.2.2.1 Zb.2.1 .nil pass0 (pa_cons (dv 0) (pa_cons pe_int (pa_cons pe_int pa_nil)))) (fun _ _ => rfl))) (pss_cons (ps_if (pt_not (md_val (pe_call Zk.1 (hr.mono (by decide)) rfl Zk.2.2.2 Zk.2.2.1 Zk.2.1 .nil pass0 (pa_cons (pe_tup (pa_cons (pe_call Zg.1 (hr.mono (by decide)) rfl Zg.2.2.2 Zg.2.2.1 Zg.2.1 .nil pass0 (pa_cons (dv 0) (pa_cons pe_int pa_nil))) (pa_cons (pe_ix z_ixT (dv 1) pe_int (fun _ _ => rfl)) pa_nil))) (pa_cons (dv 2) pa_nil))))) (pss_one (ps_ret pe_bl)) pss_nil) (pss_cons (ps_if (pt_not (md_val (pe_call Zk.1 (hr.mono (by decide)) rfl Zk.2.2.2 Zk.2.2.1 Zk.2.1 .nil pass0 (pa_cons (pe_tup (pa_cons (pe_ix z_ixT (dv 1) pe_int (fun _ _ => rfl)) (pa_cons (pe_call Zg.1 (hr.mono (by decide)) rfl Zg.2.2.2 Zg.2.2.1 Zg.2.1 .nil pass0 (pa_cons (dv 0) (pa_cons pe_int pa_nil))) pa_nil))) (pa_cons (dv 2) pa_nil))))) (pss_one (ps_ret pe_bl)) pss_nil) (pss_cons (ps_set (i := 3) nd rfl (Or.inl rfl) (pe_ix z_ixL (pe_lst (pa_cons pe_int (pa_cons pe_int (pa_cons pe_int (pa_cons pe_int (pa_cons (pe_call Zg.1 (hr.mono (by decide)) rfl Zg.2.2.2 Zg.2.2.1 Zg.2.1 .nil pass0 (pa_cons (dv 0) (pa_cons pe_int pa_nil))) pa_nil)))))) (pe_call Zb.1 (hr.mono (by decide)) rfl Zb.2.2.2 Zb.2.2.1 Zb.2.1 .nil pass0 (pa_cons (dv 0) (pa_cons pe_int (pa_cons pe_int pa_nil)))) (fun _ _ => rfl))) (pss_cons (ps_if (pt_not (md_val (pe_call Zk.1 (hr.mono (by decide)) rfl Zk.2.2.2 Zk.2.2.1 Zk.2.1 .nil pass0 (pa_cons (dv 1) (pa_cons (dv 3) pa_nil))))) (pss_one (ps_ret pe_bl)) pss_nil) (pss_cons (ps_set (i := 4) nd rfl (Or.inl rfl) (pe_make Z1 ZD.1 (hr.mono (by decide)) rfl Zbi ZD.2 .nil passR0 (pa_cons (dv 1) (pa_cons (dv 2) pa_nil)))) (pss_cons (ps_if (pt_not (md_val (pe_call ZH.1 (hr.mono (by decide)) rfl ZH.2.2.2 ZH.2.2.1 ZH.2.1 .nil pass0 (pa_cons (dv 4) pa_nil)))) (pss_one (ps_ret pe_bl)) pss_nil) (pss_cons (ps_set (i := 5) nd rfl (Or.inl rfl) (pe_lst pa_nil)) (pss_cons (ps_for PassesOwn.never rfl (mi_range1 rfl Z9 (pa_cons pe_int pa_nil)) (pg_name (i := 6) nd rfl (Or.inl rfl)) (pss_cons (ps_set (i := 7) nd rfl (Or.inl rfl) (pe_tup (pa_cons (pe_call Zb.1 (hr.mono (by decide)) rfl Zb.2.2.2 Zb.2.2.1 Zb.2.1 .nil pass0 (pa_cons (dv 0) (pa_cons (pe_op z_add pe_int (dv 6)) (pa_cons pe_int pa_nil)))) (pa_cons (pe_call Z5.1 (hr.mono (by decide)) rfl Z5.2.2.2 Z5.2.2.1 Z5.2.1 .nil pass0 (pa_cons (dv 0) (pa_cons (pe_op z_add pe_int (pe_op z_mul pe_int (dv 6))) pa_nil))) pa_nil)))) (pss_cons (ps_if (PW.pt (pw_or (pt_not (md_val (pe_call ZJ.1 (hr.mono (by decide)) rfl ZJ.2.2.2 ZJ.2.2.1 ZJ.2.1 .nil pass0 (pa_cons (dv 0) (pa_cons (dv 4) (pa_cons (pe_op z_add pe_int (pe_op z_mul pe_int (dv 6))) (pa_cons (dv 7) pa_nil))))))) (pw_or1 (pt_not (md_val (pe_call Zc.1 (hr.mono (by decide)) rfl Zc.2.2.2 Zc.2.2.1 Zc.2.1 .nil pass0 (pa_cons (md_meth0 Za Zn Zs.1 (hr.mono (by decide)) Zs.2 .nil pass0 (dv 4)) (pa_cons (dv 5) pa_nil)))))))) (pss_one (ps_ret pe_bl)) pss_nil) (pss_cons (ps_set (i := 8) nd rfl (Or.inl rfl) (pe_callTy z_listOf rfl ZU bt_list (pa_cons (pe_ix z_ixT (dv 7) pe_int (fun _ _ => rfl)) pa_nil))) (pss_cons (ps_expr (md_meth Za ZA ZM.1 (hr.mono (by decide)) ZM.2 .nil passR0 (dv 4) (pa_cons (pe_ix z_ixT (dv 7) pe_int (fun _ _ => rfl)) (pa_cons (dv 8) pa_nil)))) (pss_cons (ps_if (md_cmp (z_neL hr.units) (dv 8) (pe_ix z_ixT (dv 7) pe_int (fun _ _ => rfl)) (nomark _)) (pss_one (ps_ret pe_bl)) pss_nil) (pss_cons (ps_expr (md_append (dv 8) (pa_cons pe_int pa_nil))) (pss_cons (ps_expr (md_append (dv 5) (pa_cons (dv 7) pa_nil))) (pss_cons (ps_set (i := 9) nd rfl (Or.inl rfl) (md_meth0 Za Zn Zs.1 (hr.mono (by decide)) Zs.2 .nil pass0 (dv 4))) (pss_cons (ps_if (PW.pt (pw_or (pt_not (md_val (pe_call Zc.1 (hr.mono (by decide)) rfl Zc.2.2.2 Zc.2.2.1 Zc.2.1 .nil pass0 (pa_cons (dv 9) (pa_cons (dv 5) pa_nil))))) (pw_or (md_cmp z_ne (md_meth0 Za ZB ZN.1 (hr.mono (by decide)) ZN.2 .nil pass0 (dv 4)) pe_int (nomark _)) (pw_or1 (md_cmp (z_neS hr.units) (md_meth0 Za Zx ZE.1 (hr.mono (by decide)) ZE.2 .nil pass0 (dv 4)) (pe_tup (pa_cons pe_str (pa_cons pe_int pa_nil))) (nomark _)))))) (pss_one (ps_ret pe_bl)) pss_nil) (pss_cons (ps_expr (md_append (pe_ix z_ixT (pe_ix z_ixL (dv 9) (dv 6) (fun _ _ => rfl)) pe_int (fun _ _ => rfl)) (pa_cons pe_int pa_nil))) (pss_one (ps_expr (md_popAt (dv 9) (pa_cons pe_int pa_nil))))))))))))))) (pss_one (ps_ret (md_and (pe_call Zc.1 (hr.mono (by decide)) rfl Zc.2.2.2 Zc.2.2.1 Zc.2.1 .nil pass0 (pa_cons (md_meth0 Za Zn Zs.1 (hr.mono (by decide)) Zs.2 .nil pass0 (dv 4)) (pa_cons (dv 5) pa_nil))) (md_and (pe_call ZH.1 (hr.mono (by decide)) rfl ZH.2.2.2 ZH.2.2.1 ZH.2.1 .nil pass0 (pa_cons (pe_make Z1 ZD.1 (hr.mono (by decide)) rfl Zbi ZD.2 .nil passR0 (pa_cons (dv 1) (pa_cons (dv 2) pa_nil))) pa_nil)) (pe_one (pe_cmpR (z_eqL hr.units) (md_meth0 Za ZC ZY.1 (hr.mono (by decide)) ZY.2 .nil pass0 (dv 4)) (pe_lst pa_nil) (nomark _))))))))))))))))), ?_⟩
  refine ⟨a, ns, 0, 256, rfl, hS, h63, by decide, by decide, by decide, fun m1 m1a m1b => ?_⟩
  refine ⟨a, ns, 1, 256, rfl, hS, h63, by decide, by decide, by decide, fun m2 m2a m2b => ?_⟩
  refine ⟨small_lit rfl, fun tc htc => ?_⟩
  have g1 := same_new htc (.tup [.int m1, .int m2])
  have e1 := upd_same (H := H) (a := tc) (o := .tup [.int m1, .int m2])
  generalize upd H tc (.tup [.int m1, .int m2]) = H1 at g1 e1
  refine ⟨small_lit rfl, fun l hl => ?_⟩
  have g2 := same_new hl (.lst [.int 1, .int 3, .int 5])
  have e2 := upd_same (H := H1) (a := l) (o := .lst [.int 1, .int 3, .int 5])
  generalize upd H1 l (.lst [.int 1, .int 3, .int 5]) = H2 at g2 e2
  have gs2 := g1.trans g2
  refine ⟨a, ns, 2, 3, rfl, gs2.seq hS, h63, by decide, by decide, by decide, fun i i0 i1 => ?_⟩
  have hv : ∃ v : Int, atI [V.int 1, V.int 3, V.int 5] i = some (.int v) ∧ (v = 1 ∨ v = 3 ∨ v = 5) := by
    have : i = 0 ∨ i = 1 ∨ i = 2 := by omega
    rcases this with rfl | rfl | rfl
    · exact ⟨1, rfl, .inl rfl⟩
    · exact ⟨3, rfl, .inr (.inl rfl)⟩
    · exact ⟨5, rfl, .inr (.inr rfl)⟩
  obtain ⟨v, hat, hv⟩ := hv
  refine ⟨_, _, SqL.of e2, hat, ?_⟩
  have ec2 := g2 _ _ e1
  refine ⟨a, ns, 3, rfl, gs2.seq hS, h63, by decide, fun z3 H3 hz3 g3 => ?_⟩
  refine ⟨_, _, SqT.of (g3 _ _ ec2), rfl, small_lit rfl, fun t3 ht3 => ?_⟩
  have k3 := same_new ht3 (.tup [.int z3, .int m2])
  have f3 := upd_same (H := H3) (a := t3) (o := .tup [.int z3, .int m2])
  generalize upd H3 t3 _ = H4 at k3 f3
  refine ⟨t3, z3, m2, v, rfl, f3, fun ok => not_byt hz3 ok.1, fun H5 g5 => ?_⟩
  have gs5 := gs2.trans (g3.trans (k3.trans g5))
  have ec5 := (g3.trans (k3.trans g5)) _ _ ec2
  refine ⟨_, _, SqT.of ec5, rfl, a, ns, 5, rfl, gs5.seq hS, h63, by decide, fun z6 H6 hz6 g6 => ?_⟩
  refine ⟨small_lit rfl, fun t6 ht6 => ?_⟩
  have k6 := same_new ht6 (.tup [.int m1, .int z6])
  have f6 := upd_same (H := H6) (a := t6) (o := .tup [.int m1, .int z6])
  generalize upd H6 t6 _ = H7 at k6 f6
  refine ⟨t6, m1, z6, v, rfl, f6, fun ok => not_byt hz6 ok.2.1, fun H8 g8 => ?_⟩
  have gs8 := gs5.trans (g6.trans (k6.trans g8))
  have ec8 := (g6.trans (k6.trans g8)) _ _ ec5
  refine ⟨a, ns, 7, rfl, gs8.seq hS, h63, by decide, fun z9 H9 hz9 g9 => ?_⟩
  refine ⟨small_lit rfl, fun l9 hl9 => ?_⟩
  have k9 := same_new hl9 (.lst [.int 0, .int 2, .int 4, .int 6, .int z9])
  have f9 := upd_same (H := H9) (a := l9) (o := .lst [.int 0, .int 2, .int 4, .int 6, .int z9])
  generalize upd H9 l9 _ = H10 at k9 f9
  have gs10 := gs8.trans (g9.trans k9)
  have ec10 := (g9.trans k9) _ _ ec8
  refine ⟨a, ns, 9, 5, rfl, gs10.seq hS, h63, by decide, by decide, by decide, fun w w0 w1 => ?_⟩
  have hw : ∃ u : Int, atI [V.int 0, V.int 2, V.int 4, V.int 6, V.int z9] w = some (.int u) ∧ ¬ (u = 1 ∨ u = 3 ∨ u = 5) := by
    have : w = 0 ∨ w = 1 ∨ w = 2 ∨ w = 3 ∨ w = 4 := by omega
    rcases this with rfl | rfl | rfl | rfl | rfl
    · exact ⟨_, rfl, by decide⟩
    · exact ⟨_, rfl, by decide⟩
    · exact ⟨_, rfl, by decide⟩
    · exact ⟨_, rfl, by decide⟩
    · exact ⟨_, rfl, by omega⟩
  obtain ⟨u, hau, hu⟩ := hw
  refine ⟨_, _, SqL.of f9, hau, ?_⟩
  refine ⟨tc, m1, m2, u, rfl, ec10, fun ok => hu ok.2.2, fun H11 g11 => ?_⟩
  have gs11 := gs10.trans g11
  have ec11 := g11 _ _ ec10
  have hS11 := gs11.seq hS
  clear gs11 g11 ec10 gs10 f9 k9 ec8 gs8 g9 f6 k6 ec5 gs5 f3 k3 ec2 gs2
  have ok : PoOk m1 m2 v := ⟨byt_iff.mpr (by omega), byt_iff.mpr (by omega), hv⟩
  refine fun p dp hp hdp hne => ⟨p, dp, tc, m1, m2, v, rfl, upd_same, (by rw [upd_ne (ne_of_none ec11 hp), upd_ne (ne_of_none ec11 hdp)]; exact ec11), fun _ H12 o hP hin hk => ⟨rfl, ?_⟩, fun no => absurd ok no⟩
  obtain ⟨lw, g12⟩ := post_lw (Same.refl H11) hp hdp hP hin hk
  clear hin hk hP
  refine ⟨p, _, o, rfl, lw.po, rfl, rfl, rfl, rfl, fun H13 g13 => ?_⟩
  have lw13 := lw.new g13
  refine ⟨small_lit rfl, fun pf hpf => ?_⟩
  have npf := lw13.po.new hpf
  have zpf := lw13.same.none hpf
  have k14 := same_new hpf (.lst [])
  have f14 := upd_same (H := H13) (a := pf) (o := .lst [])
  generalize upd H13 pf (.lst []) = H14 at k14 f14
  have lw14 := lw13.new k14
  refine ⟨⟨by decide, by decide⟩, for_range (fun j σ H' => (∃ x1 x2 x3 x4, σ = [some (.ref a), some (.ref tc), some (.int v), some (.int u), some (.ref p), some (.ref pf), x1, x2, x3, x4]) ∧ ∃ o' S ts, Lw CA H11 H' p S o' ∧ S.wt.length = j ∧ S.now = .free 0 ∧ S.tot = 0 ∧ S.up = [] ∧ ¬ o' pf ∧ H' pf = some (.lst ts) ∧ FrsAt H' (La o' pf H') ts S.wt) ⟨⟨_, _, _, _, rfl⟩, o, _, [], lw14, rfl, rfl, rfl, rfl, npf, f14, .nil⟩ ?_ ?_⟩
  · clear lw14 f14 k14 hpf npf lw13 lw
    rintro j σ H' hj ⟨⟨x1, x2, x3, x4, rfl⟩, o, S, ts, lw, hw, hn, ht, hup, npf, epf, fF⟩
    have hj3 : j < 3 := hj
    have hS' := lw.same.seq hS11
    refine ⟨a, ns, _, 256, rfl, hS', h63, (by show (0 : Int) ≤ 20 + (0 + (j : Int)); omega), (by show 20 + (0 + (j : Int)) ≤ 100000; omega), by decide, fun n0 n0a n0b => ?_⟩
    obtain ⟨n, rfl⟩ := Int.eq_ofNat_of_zero_le n0a
    have ez : (30 : Int) + 10 * (0 + (j : Int)) = ((30 + 10 * j : Nat) : Int) := by omega
    refine ⟨⟨by decide, big64 (by omega) (by omega)⟩, a, ns, 30 + 10 * j, (by show [V.ref a, V.int (30 + 10 * (0 + (j : Int)))] = _; rw [ez]), hS', h63, by omega, fun pd ds H1 hpd g1 e1 hdl hds => ?_⟩
    refine ⟨small_lit rfl, fun t2 ht2 => ?_⟩
    have g2 := same_new ht2 (.tup [.int ((n : Nat) : Int), .ref pd])
    have e2 := upd_same (H := H1) (a := t2) (o := .tup [.int ((n : Nat) : Int), .ref pd])
    generalize upd H1 t2 _ = H2 at g2 e2
    have gs2 := g1.trans g2
    have lw2 := lw.new gs2
    have hf : FrN (n, ds) := ⟨by show n < 256; omega, hdl, hds⟩
    obtain ⟨nw2, ob2, bd2⟩ := lw2.po.bd
    have ez2 : (60 : Int) + 11 * (0 + (j : Int)) = ((60 + 11 * j : Nat) : Int) := by omega
    refine ⟨⟨by decide, big64 (by omega) (by omega)⟩, a, ns, p, nw2, S, ob2, 60 + 11 * j, t2, pd, (n, ds), (by show [V.ref a, V.ref p, V.int (60 + 11 * (0 + (j : Int))), V.ref t2] = _; rw [ez2]), lw2.same.seq hS11, h63, bd2, by omega, e2, g2 _ _ e1, hf, by omega, fun H3 g3 => ?_⟩
    have lw3 := lw2.new g3
    obtain ⟨nw3, ob3, bd3⟩ := lw3.po.bd
    obtain ⟨dq, ch, vt, wl, ul, cc, nw, ep⟩ := lw3.po.cell
    refine ⟨⟨dq, _, ep, rfl⟩, p, nw3, S, ob3, rfl, bd3, by omega, fun l4 xs4 H4 hl4 g4 e4 fn4 => ?_⟩
    have gs4 := gs2.trans (g3.trans g4)
    have fF4 := La.same fF gs4
    have epf4 := gs4 _ _ epf
    have lw4 := lw3.new g4
    refine ⟨l4, pf, xs4, ts, S.wt, _, _, rfl, e4, fn4.at_, epf4, fF4, by omega, wf_lens lw4.po.wf, fun H5 g5 => ?_⟩
    have lw5 := lw4.new g5
    have gs5 := gs4.trans g5
    have e2' := (g3.trans (g4.trans g5)) _ _ e2
    have e1' := (g2.trans (g3.trans (g4.trans g5))) _ _ e1
    refine ⟨_, _, SqT.of e2', rfl, _, .inl (SqL.of e1'), fun lh hlh => ?_⟩
    have nlh := lw5.po.new hlh
    have zlh := lw5.same.none hlh
    have g6 := same_new hlh (.lst (ds.map V.int))
    have e6 := upd_same (H := H5) (a := lh) (o := .lst (ds.map V.int))
    have fF5 := La.same fF gs5
    have npd5 := ne_none e1'
    have npd_lh : pd ≠ lh := fun z => by rw [z, hlh] at e1'; cases e1'
    have npf_lh : pf ≠ lh := fun z => by rw [← z, gs5 _ _ epf] at hlh; cases hlh
    have npd_pf : pd ≠ pf := fun z => by rw [z, epf] at hpd; cases hpd
    have nopd : ¬ o pd := lw.po.new hpd
    generalize hH6 : upd H5 lh (.lst (ds.map V.int)) = H6 at g6 e6
    have lw6 := lw5.new g6
    obtain ⟨nw7, ob7, bd7, fin7⟩ := lw6.po.hand
    obtain ⟨dq6, ch6, vt6, wl6, ul6, cc6, nw6, ep6⟩ := lw6.po.cell
    have e2'' := g6 _ _ e2'
    have okf : FrOk ((n : Nat) : Int) ds := hf.ok
    refine ⟨⟨dq6, _, ep6, rfl⟩, _, _, SqT.of e2'', rfl, p, nw7, S, ob7, ((n : Nat) : Int), lh, ds, rfl, bd7, SqL.of e6, by omega, by omega, fun _ H7 d7 hd7 b7 kk7 => ?_, fun no => absurd okf no⟩
    obtain ⟨o7, hP7, mv7⟩ := fin7 okf H7 d7 hd7 b7 kk7
    have lw7 := lw6.step mv7 hP7
    rw [Int.toNat_natCast] at lw7
    obtain ⟨S7, eS7⟩ : ∃ S7 : PS, S7 = { S with wt := S.wt ++ [(n, ds)] } := ⟨_, rfl⟩
    rw [← eS7] at lw7
    have hn7 : S7.now = .free 0 := by rw [eS7]; exact hn
    have ht7 : S7.tot = 0 := by rw [eS7]; exact ht
    have hup7 : S7.up = [] := by rw [eS7]; exact hup
    have hwt7 : S7.wt = S.wt ++ [(n, ds)] := by rw [eS7]
    have hw7 : S7.wt.length = j + 1 := by rw [hwt7, List.length_append, hw]; rfl
    clear eS7
    have e67 := mv7.1 lh _ e6 (.inl nlh)
    have e17 := mv7.1 pd _ (g6 _ _ e1') (.inl nopd)
    have e27 := mv7.1.tup e2''
    have epf7 := mv7.1 pf _ (g6 _ _ (gs5 _ _ epf)) (.inl npf)
    have npf7 := mv7.out (g6 _ _ (gs5 _ _ epf)) npf
    have nlh7 := mv7.out e6 nlh
    have nopd7 := mv7.out (g6 _ _ e1') nopd
    refine ⟨_, _, SqT.of e27, rfl, ds, ds, SqL.of e67, SqL.of e17, ?_⟩
    conv => whnf
    refine iteNS rfl ?_
    refine ⟨⟨_, SqL.of e67⟩, _, e67, small1 (by rw [List.length_map]; omega), ?_⟩
    have fF6 : FrsAt H6 (fun x => La o pf H6 x ∧ H5 x ≠ none) ts S.wt := fF5.imp (fun x v e _ => g6 x v e) fun x z => ⟨⟨z.1, z.2.1, by
      cases e : H5 x with
      | none => exact absurd e z.2.2
      | some v => rw [g6 x v e]; simp⟩, z.2.2⟩
    have fF7 : FrsAt H7 (fun x => La o7 pf H7 x ∧ H5 x ≠ none) ts S.wt := fF6.imp (fun x v e z => mv7.1 x v e (z.imp_left fun y => y.1.1)) fun x z => by
      cases e : H6 x with
      | none => exact absurd e z.1.2.2
      | some v => exact ⟨⟨mv7.out e z.1.1, z.1.2.1, ne_none (mv7.1 x v e (.inl z.1.1))⟩, z.2⟩
    have lw8 := lw7.put (ys := ds.map V.int ++ [.int 300]) e67 nlh7 zlh
    have fF8 := La.put' (ys := ds.map V.int ++ [.int 300]) fF7 e67 (.inl hlh)
    have epf8 : upd H7 lh (.lst (ds.map V.int ++ [.int 300])) pf = some (.lst ts) := by rw [upd_ne npf_lh]; exact epf7
    have e18 : upd H7 lh (.lst (ds.map V.int ++ [.int 300])) pd = some (.lst (ds.map V.int)) := by rw [upd_ne npd_lh]; exact e17
    have e28 : upd H7 lh (.lst (ds.map V.int ++ [.int 300])) t2 = some (.tup [.int ((n : Nat) : Int), .ref pd]) := by rw [upd_ne (fun z => by rw [z, e67] at e27; cases e27)]; exact e27
    generalize upd H7 lh (.lst (ds.map V.int ++ [.int 300])) = H8 at lw8 fF8 epf8 e18 e28
    have tsl := fF.len
    refine ⟨⟨_, SqL.of epf8⟩, _, epf8, small1 (by omega), ?_⟩
    have fF8' : FrsAt H8 (fun x => La o7 pf H8 x ∧ H8 x ≠ none) ts S.wt := fF8.imp (fun x v e _ => e) fun x z => ⟨z.1, z.1.2.2⟩
    have fF9 := (La.put' (ys := ts ++ [.ref t2]) fF8' epf8 (.inr rfl)).imp (o' := La o7 pf (upd H8 pf (.lst (ts ++ [.ref t2])))) (fun _ _ e _ => e) fun _ z => z.1
    have lw9 := lw8.put (ys := ts ++ [.ref t2]) epf8 npf7 zpf
    have e29 : upd H8 pf (.lst (ts ++ [.ref t2])) t2 = some (.tup [.int ((n : Nat) : Int), .ref pd]) := by rw [upd_ne (fun z => by rw [z, epf8] at e28; cases e28)]; exact e28
    have e19 : upd H8 pf (.lst (ts ++ [.ref t2])) pd = some (.lst (ds.map V.int)) := by rw [upd_ne npd_pf]; exact e18
    have epf9 : upd H8 pf (.lst (ts ++ [.ref t2])) pf = some (.lst (ts ++ [.ref t2])) := upd_same
    have fG9 := fF9.snoc (t := t2) (f := (n, ds)) ⟨pd, e29, e19, nopd7, npd_pf, ne_none e19⟩
    rw [← hwt7] at fG9
    generalize upd H8 pf (.lst (ts ++ [.ref t2])) = H9 at lw9 epf9 fG9
    clear fF9 fF8' e29 e19 e28 e18 epf8 fF8 lw8 fF7 fF6 fF5 e27 e17 e67 epf7 lw7 fin7 bd7 lw6 lw5
    obtain ⟨nw9, ob9, bd9⟩ := lw9.po.bd
    obtain ⟨dq9, ch9, vt9, wl9, ul9, cc9, nn9, ep9⟩ := lw9.po.cell
    refine ⟨⟨dq9, _, ep9, rfl⟩, p, nw9, _, ob9, rfl, bd9, by omega, fun l10 xs10 H10 hl10 g10 e10 fn10 => ?_⟩
    have lw10 := lw9.new g10
    have epf10 := g10 _ _ epf9
    have fG10 := La.same fG9 g10
    refine ⟨l10, pf, xs10, _, _, _, _, rfl, e10, fn10.at_, epf10, fG10, by omega, wf_lens lw10.po.wf, fun H11' g11 => ?_⟩
    have lw11 := lw10.new g11
    obtain ⟨dqb, chb, vtb, wlb, ulb, ccb, nnb, epb⟩ := lw11.po.cell
    have hs0 : saysP S7 = 0 := by
      rw [say_free hn7, if_neg (by rw [hwt7]; intro z; have := (List.append_eq_nil_iff.mp z).2; cases this), if_neg (by rw [ht7]; intro z; exact absurd z.1 (by decide))]
    refine ⟨⟨dqb, _, epb, rfl⟩, p, S7, o7, 0, rfl, hn7, lw11.po, ?_⟩
    rw [hs0]
    refine ⟨⟨dqb, _, epb, rfl⟩, p, S7, o7, 0, rfl, hn7, lw11.po, fun t12 H12' ht12 g12' e12 => ?_⟩
    refine ⟨small_lit rfl, fun t13 ht13 => ?_⟩
    have g13' := same_new ht13 (.tup [.str "free", .int 0])
    have e13 := upd_same (H := H12') (a := t13) (o := .tup [.str "free", .int 0])
    generalize upd H12' t13 _ = H13' at g13' e13
    refine ⟨_, dv_free (g13' _ _ e12), dv_free e13, shaped_free (by decide +kernel) _, ?_⟩
    have gs13 := g11.trans (g12'.trans g13')
    have lw13' := lw10.new gs13
    have hxl : xs10.length = j + 1 := by rw [fn10.len]; exact hw7
    have hxj : xs10[j]? = some xs10[j] := List.getElem?_eq_getElem (by omega)
    obtain ⟨t14, d14, f14', ev14, ht14, hd14, et14, ed14, hm14⟩ := fn10.get hxj
    have hl14 := (lw10.po.wf.wt f14' hm14).2.1
    have hat14 : atI xs10 (0 + (j : Int)) = some (.ref t14) := by rw [Int.zero_add]; exact atI_nat (by rw [hxj, ev14])
    have ed14' := gs13 _ _ ed14
    have e10' := gs13 _ _ e10
    have nl10 : ¬ o7 l10 := lw9.po.new hl10
    have nd14 : ¬ o7 d14 := lw9.po.new hd14
    have fG13 := fG9.imp (H' := H13') (o' := fun x => La o7 pf H13' x ∧ H9 x ≠ none) (fun x v e _ => gs13 x v (g10 x v e)) fun x z => ⟨⟨z.1, z.2.1, by
      cases e : H9 x with
      | none => exact absurd e z.2.2
      | some v => rw [gs13 x v (g10 x v e)]; simp⟩, z.2.2⟩
    refine ⟨_, _, SqL.of e10', hat14, _, _, SqT.of (gs13 _ _ et14), rfl, ⟨_, SqL.of ed14'⟩, _, ed14', ?_, ?_⟩
    · exact small1 (by rw [List.length_map]; omega)
    have nd14l : d14 ≠ l10 := fun z => by
      rw [z, e10] at ed14
      have hh : xs10 = f14'.2.map V.int := by injection (Option.some.inj ed14)
      rw [ev14, hh, List.getElem?_map] at hxj
      cases e : f14'.2[j]? with
      | none => rw [e] at hxj; cases hxj
      | some q => rw [e] at hxj; cases hxj
    have zd14 := lw9.same.none hd14
    have zl10 := lw9.same.none hl10
    have lwA := lw13'.put (ys := f14'.2.map V.int ++ [.int 1]) ed14' nd14 zd14
    have fGA := La.put' (ys := f14'.2.map V.int ++ [.int 1]) fG13 ed14' (.inl hd14)
    have e10A : upd H13' d14 (.lst (f14'.2.map V.int ++ [.int 1])) l10 = some (.lst xs10) := by rw [upd_ne (Ne.symm nd14l)]; exact e10'
    have epfA : upd H13' d14 (.lst (f14'.2.map V.int ++ [.int 1])) pf = some (.lst (ts ++ [.ref t2])) := by rw [upd_ne (fun z => by rw [z, hd14] at epf9; cases epf9)]; exact gs13 _ _ epf10
    generalize upd H13' d14 (.lst (f14'.2.map V.int ++ [.int 1])) = HA at lwA fGA e10A epfA
    obtain ⟨v0, r0, hx0⟩ : ∃ v r, xs10 = v :: r := by
      cases xs10 with
      | nil => cases hxl
      | cons v r => exact ⟨v, r, rfl⟩
    rw [hx0] at e10A
    refine ⟨⟨_, e10A⟩, _, 0, v0, e10A, ⟨by decide, by decide⟩, sq0, rfl, ?_⟩
    have lwB := lwA.put (ys := (v0 :: r0).eraseIdx 0) e10A nl10 zl10
    have fGB := (La.put' (ys := (v0 :: r0).eraseIdx 0) fGA e10A (.inl hl10)).imp (o' := La o7 pf (upd HA l10 (.lst ((v0 :: r0).eraseIdx 0)))) (fun _ _ e _ => e) fun _ z => z.1
    exact ⟨⟨_, _, _, _, rfl⟩, o7, S7, _, lwB, hw7, hn7, ht7, hup7, npf7, by rw [upd_ne (fun z => by rw [z, hl10] at epf9; cases epf9)]; exact epfA, fGB⟩
  rintro σ Hz ⟨⟨x1, x2, x3, x4, rfl⟩, o, S, ts, lw, hw, hn, ht, hup, npf, epf, fF⟩
  have hw3 : S.wt.length = 3 := hw
  obtain ⟨nw1, ob1, bd1⟩ := lw.po.bd
  obtain ⟨dq, ch, vt, wl, ul, cc, nw, ep⟩ := lw.po.cell
  refine ⟨⟨dq, _, ep, rfl⟩, p, nw1, S, ob1, rfl, bd1, by omega, fun l1 xs1 Hy hl1 gy ey fn1 => ?_⟩
  have lwy := lw.new gy
  refine ⟨l1, pf, xs1, ts, S.wt, _, _, rfl, ey, fn1.at_, gy _ _ epf, La.same fF gy, by omega, wf_lens lwy.po.wf, fun Hx gx => ?_⟩
  have lwx := lwy.new gx
  have ecx := lwx.same _ _ ec11
  refine fun p2 dp2 hp2 hdp2 hne2 => ⟨p2, dp2, tc, m1, m2, v, rfl, upd_same, (by rw [upd_ne (ne_of_none ecx hp2), upd_ne (ne_of_none ecx hdp2)]; exact ecx), fun _ Hw o2 hP2 hin2 hk2 => ⟨rfl, ?_⟩, fun no => absurd ok no⟩
  obtain ⟨lw2, gw⟩ := post_lw (Same.refl Hx) hp2 hdp2 hP2 hin2 hk2
  refine ⟨p2, _, o2, rfl, lw2.po, rfl, rfl, rfl, rfl, fun Hv gv => ?_⟩
  have lwv := lwx.new (gw.trans gv)
  obtain ⟨nwv, obv, bdv⟩ := lwv.po.bd
  obtain ⟨dqv, chv, vtv, wlv, ulv, ccv, nwv', epv⟩ := lwv.po.cell
  refine ⟨⟨dqv, _, epv, rfl⟩, p, nwv, S, obv, rfl, bdv, (by rw [hup]; show 0 ≤ 900; decide), fun lg ys2 Hu hlg gu eu fn2 => ?_⟩
  rw [hup] at fn2
  have hys : ys2 = [] := List.eq_nil_of_length_eq_zero fn2.len
  rw [hys] at eu
  refine ⟨small_lit rfl, fun le hle => ?_⟩
  have gle := same_new hle (.lst [])
  refine ⟨[], [], SqL.of (gle _ _ eu), SqL.of upd_same, ?_⟩
  exact q _
set_option maxHeartbeats 0 in
include ZaF ZaG Zq Za1 Za2 Zbr Zas Zw Zcz Zc2 ZaO Zay Zam Zal ZaR Zax Zaw Zar Zah Zbi ZG Zdp ZL ZU Ze Zaa Z9 ZcA Zbx Zcd ZaD ZI ZF Zd Zm Za ZaL Za0 Z1 ZQ ZZ Z0 ZR Zr Z4 Zab ZA ZB ZC Zn Zx Z2 Z3 Zh Zo Zj Zf Zu Zac Zag Zv ZX ZP Zaf Z8 ZaN ZaM ZaE ZaC ZaK ZaB in
theorem all_mk {l : PySem.W.OpenLaw} {fa : Addr} (hfa : mg "law" = some (.ref fa))
  (ZbP : GF K mg "are_bytes" ZcS ZbT)
  (Zcp : GF K mg "is_name" Zdk Zcq)
  (Zbm : GF K mg "check_frame" Zcn Zbo)
  (ZcT : GF K mg "copies" Zdz ZcU)
  (Zbn : GF K mg "check_votes" Zco Zbp)
  (Za9 : GF K mg "check_choice" Zb3 Zbc)
  (ZbO : GF K mg "_law_draw" ZcR ZbS)
  (Zb5 : GF K mg "_law_far" Zc9 Zcb)
  (ZaT : GF K mg "_law_is_other" ZbG ZaY)
  (Za7 : GF K mg "_law_no_post" Zb1 Zba)
  (ZaU : GF K mg "_law_no_frame" ZbH ZaZ)
  (Zat : GF K mg "_law_frames_alike" Za4 Zau)
  (Zb6 : GF K mg "_law_new" Zda Zcc)
  (ZbN : GF K mg "_law_data" ZcQ ZbR)
  (Za8 : GF K mg "_law_spoiled" Zb2 Zbb)
  (ZcY : GF K mg "law" ZdK ZdF)
  (Zbs : MF K CA.count "__init__" "Count.__init__" Zcu ZaV)
  (ZaP : MF K CA.count "is_quiet" "Count.is_quiet" Zby Zan)
  (Za5 : MF K CA.count "is_off" "Count.is_off" ZbZ Zaz)
  (Za6 : MF K CA.count "number" "Count.number" Zb0 ZaA)
  (ZbI : MF K CA.free "__init__" "Free.__init__" ZcL Zbd)
  (ZaS : MF K CA.post "is_quiet" "Post.is_quiet" ZbF Zav)
  (Zbk : MF K CA.post "is_off" "Post.is_off" Zcl ZaI)
  (Zbj : MF K CA.post "faults" "Post.faults" Zck ZaH)
  (ZbK : MF K CA.post "hand" "Post.hand" ZcN Zbf)
  (Zbu : MF K CA.post "waits" "Post.waits" Zcw ZaX)
  (Zb4 : MF K CA.post "got" "Post.got" Zc8 Zbq)
  (ZbL : MF K CA.post "__init__" "Post.__init__" ZcO Zbg)
  (ZaQ : MF K CA.post "has_frame" "Post.has_frame" Zbz Zao)
  (Zbt : MF K CA.free "shown" "Free.shown" Zcv ZaW)
  (ZbJ : MF K CA.free "says" "Free.says" ZcM Zbe)
  (Zbl : MF K CA.post "stance" "Post.stance" Zcm ZaJ)
  (ZbM : MF K CA.post "says" "Post.says" ZcP Zbh)
  : ∃ fd : FuncData, (∀ (s : Shared) (v : Value), BindsTo s fd ⟨[v], []⟩ [("_law_script", v)]) ∧ ∀ base : Heap, K.In base → base.Ns mainGlobals mg → FnOk l.prog w K mg base CX0 11 fa fd ["_law_script"] (spLaw K) := by
  obtain ⟨_, ZbP⟩ := ZbP
  obtain ⟨_, Zcp⟩ := Zcp
  obtain ⟨_, Zbm⟩ := Zbm
  obtain ⟨_, ZcT⟩ := ZcT
  obtain ⟨_, Zbn⟩ := Zbn
  obtain ⟨_, Za9⟩ := Za9
  obtain ⟨_, ZbO⟩ := ZbO
  obtain ⟨_, Zb5⟩ := Zb5
  obtain ⟨_, ZaT⟩ := ZaT
  obtain ⟨_, Za7⟩ := Za7
  obtain ⟨_, ZaU⟩ := ZaU
  obtain ⟨_, Zat⟩ := Zat
  obtain ⟨_, Zb6⟩ := Zb6
  obtain ⟨_, ZbN⟩ := ZbN
  obtain ⟨_, Za8⟩ := Za8
  obtain ⟨d0, ZcY⟩ := ZcY
  obtain ⟨_, _, Zbs⟩ := Zbs
  obtain ⟨_, _, ZaP⟩ := ZaP
  obtain ⟨_, _, Za5⟩ := Za5
  obtain ⟨_, _, Za6⟩ := Za6
  obtain ⟨_, _, ZbI⟩ := ZbI
  obtain ⟨_, _, ZaS⟩ := ZaS
  obtain ⟨_, _, Zbk⟩ := Zbk
  obtain ⟨_, _, Zbj⟩ := Zbj
  obtain ⟨_, _, ZbK⟩ := ZbK
  obtain ⟨_, _, Zbu⟩ := Zbu
  obtain ⟨_, _, Zb4⟩ := Zb4
  obtain ⟨_, _, ZbL⟩ := ZbL
  obtain ⟨_, _, ZaQ⟩ := ZaQ
  obtain ⟨_, _, Zbt⟩ := Zbt
  obtain ⟨_, _, ZbJ⟩ := ZbJ
  obtain ⟨_, _, Zbl⟩ := Zbl
  obtain ⟨_, _, ZbM⟩ := ZbM
  cases hfa.symm.trans ZcY.m
  refine ⟨d0, fun s v => ?_, fun base _ _ => ?_⟩
  · obtain ⟨_, _, _, _, _, _, _, _, _, rfl, _⟩ := ZcY.F.ex
    exact .of_eq rfl
  have Zz := Zdy l.prog w mg base ZaF Zdp ZbP
  have Zak := ZdG l.prog w mg base ZaG Zcp
  have ZS := Zdf l.prog w mg base Zq Za1 ZL ZX Zz Zak Zbm
  have Zai := Zdl l.prog w mg base (CA := CA) Zd Zh Zbs
  have ZV := ZcB l.prog w mg base (CA := CA) Za2 Zd Zh ZaP
  have Z6 := Zc3 l.prog w mg base (CA := CA) Zbr Zd Zh Za5
  have Z7 := Zc4 l.prog w mg base (CA := CA) Zd Zh Za6
  have Zap := Zdr l.prog w mg base (CA := CA) Zm Zo ZbI
  have Zy := ZcV l.prog w mg base (CA := CA) Zd Za ZQ Zj ZV ZaS
  have Zae := Zdd l.prog w mg base (CA := CA) Zd Za ZZ Zj Z6 Zbk
  have Zad := Zdc l.prog w mg base (CA := CA) Zd Za Z0 Zj Z7 Zbj
  have ZM := Zdt l.prog w mg base (CA := CA) Zq ZU Za Zf ZS ZbK
  have ZO := ZdI l.prog w mg base ZU ZcT
  have Zs := Zdn l.prog w mg base (CA := CA) Za Zf ZO Zbu
  have ZY := ZdC l.prog w mg base (CA := CA) Za Zu ZO Zb4
  have ZT := Zdg l.prog w mg base Zas Zw ZaD ZP Zbn
  have ZK := Zc7 l.prog w mg base Zw ZP Zz Za9
  have ZD := Zdu l.prog w mg base (CA := CA) Zas Zw Zcz Zc2 Za ZaL Za0 Zj Zf Zu Zac Zag Zv Zai Zap ZT ZK ZbL
  have ZW := ZcC l.prog w mg base (CA := CA) ZL Za Zf ZaQ
  have Zaj := Zdm l.prog w mg base (CA := CA) Zm Zo Zbt
  have Zaq := Zds l.prog w mg base (CA := CA) ZaO Zm Za ZR Zr Zo Zy ZW ZbJ
  have ZE := Zde l.prog w mg base (CA := CA) Zm Za Z4 Zv Zaj Zbl
  have ZN := Zdv l.prog w mg base (CA := CA) Zm Za Zab Zv Zaq ZbM
  have Zb := Zdx l.prog w mg base ZL ZbO
  have Zg := ZdD l.prog w mg base ZL Zb Zb5
  have Zl := ZcW l.prog w mg base Zq Zw Zay Zam Zal ZaR Zax Zaw Zar Zah Ze ZI ZF Zaf Z8 ZaT
  have Zk := Zc5 l.prog w mg base (CA := CA) Zq Zas Zw Zay Zam Zal ZaR Zax Zaw Zar Zah Zbi ZG Ze Zaa ZI Z1 Zaf ZaN ZaM ZaK ZD Zl Za7
  have Zi := ZcX l.prog w mg base (CA := CA) Zq Zw Zay Zam Zal ZaR Zax Zaw Zar Zah ZG Ze Zaa ZF Za ZA Z8 ZaE ZaC ZaB ZM Zl ZaU
  have Zc := Zce l.prog w mg base ZL ZU Ze Z9 ZcA Zbx Zcd Zat
  have ZH := ZdE l.prog w mg base (CA := CA) Ze Zbx Zcd Za Zr ZB ZC Zn Zx Z2 Z3 Zy Zae Zad Zs ZY ZE ZN Zb6
  have Z5 := Zdw l.prog w mg base Z9 Zb ZbN
  have ZJ := Zc6 l.prog w mg base (CA := CA) Zq Zw ZG ZL ZU Z9 Zb Zg Zi Za8
  exact (ZdL l.prog w mg base (CA := CA) Zq Zas Zw Zar Zah Zbi ZG ZU Z9 Za Z1 ZA ZB ZC Zn Zx ZM Zs ZY ZD ZE ZN Zb Zg Zk Zc ZH Z5 ZJ ZcY).1
end
theorem tupI_VOTES {K : PySem.W.Frag} {a : Addr} {od : Option Addr} {sl : Array (Option Value)} {n : Nat} {t0 t1 t2 : Tok} (h : K.lookup a = some ⟨.type "tuple", od, .seq #[.int 1 t0, .int 3 t1, .int 5 t2] n, sl⟩) : TupK K a [1, 3, 5] := TupK.of h (small_lit rfl) (.cons ⟨_, rfl⟩ (.cons ⟨_, rfl⟩ (.cons ⟨_, rfl⟩ .nil)))
abbrev csI {x_post x_count x_free : Addr} : Cs := ⟨x_post, x_count, x_free, 0, 0, 0, 0, 0, 0, 0, 0, 0, 0, 0⟩
theorem walk {l : PySem.W.OpenLaw} {q : Program} {loose : List Str} {XP : (Str → Option Value) → Heap → Prop} {YP : World → Heap → Prop} {d : DefRec} {K : Params → PySem.W.Frag} (hn : l.most = some 63) (hdf : d.params.defaults = [])
    (hY : ∀ (w : World) (h : Heap), YP w h → (K w.params).In h)
    (F : ∀ (w : World) (mg : Str → Option Value) (fa : Addr) (h : Heap), (K w.params).In h → h.Ns mainGlobals mg → mg d.name = some (.ref fa) →
      ∃ fd : FuncData, (∀ (s : Shared) (u : Value), BindsTo s fd ⟨[u], []⟩ [("_law_script", u)]) ∧ ∀ base : Heap, (K w.params).In base → base.Ns mainGlobals mg → FnOk l.prog w (K w.params) mg base CX0 11 fa fd ["_law_script"] (spLaw (K w.params))) :
    PySem.W.WalkO q loose XP YP l.row.toRowW d [] (fun f vs => PySem.call f vs) :=
  L2.walk_of (n := 63) (k := 11) (x := "_law_script") (CX := fun _ => CX0) (sp := fun w => spLaw (K w.params)) hn (by decide) hdf ⟨rfl, by decide, by decide⟩ hY F (fun _ _ a ns hl _ hS => ⟨a, ns, rfl, hS, hl, fun _ => rfl⟩) fun _ _ _ _ _ z => z
end My
open PySem PySem.W PyProof.Rows
set_option maxRecDepth 100000 in
set_option maxHeartbeats 0 in
theorem PySem.Challenge.cw_bitrail_k40_posts_and_frames_refused_holds : PySem.Challenge.rw_bitrail_k40_posts_and_frames_refused.Holds := by
  w_on; o_law
  refine holds_open (q := Hd.qv) (loose := Hd.loose) (XP := XL Hd.qv []) (YP := InK Hd.K) (d := Hd.dl) (kwd := []) Hd.left (InK.of Hd.K_as) InK.keeps (fun s e => xl_of s e) XL.keeps Hd.dl_1 Hd.dl_2 rfl (fun s _ => recFacts_nil rfl) rfl
    (by assumption) (by decide +kernel) ⟨rfl, rfl, rfl, rfl, rfl, by decide +kernel⟩ ?hw ?hc
  case hw => w_witness2
  k_fill
  refine My.walk (l := PySem.Challenge.rw_bitrail_k40_posts_and_frames_refused) rfl rfl (fun w h Y => Y) ?F
  case F =>
    intro w mg fa h KX G hmg
    refine' My.all_mk w mg (CA := My.csI) ?m0 ?m1 ?m2 ?m3 ?m4 ?m5 ?m6 ?m7 ?m8 ?m9 ?m10 ?m11 ?m12 ?m13 ?m14 ?m15 ?m16 ?m17 ?m18 ?m19 ?m20 ?m21 ?m22 ?m23 ?m24 ?m25 ?m26 ?m27 ?m28 ?m29 ?m30 ?m31 ?m32 ?m33 ?m34 ?m35 ?m36 ?m37 ?m38 ?m39 ?m40 ?m41 ?m42 ?m43 ?m44 ?m45 ?m46 ?m47 ?m48 ?m49 ?m50 ?m51 ?m52 ?m53 ?m54 ?m55 ?m56 ?m57 ?m58 ?m59 ?m60 ?m61 ?m62 ?m63 ?m64 ?m65 ?m66 ?m67 ?m68 ?m69 ?m70 hmg ?f0 ?f1 ?f2 ?f12 ?f15 ?f16 ?f23 ?f24 ?f25 ?f26 ?f27 ?f28 ?f29 ?f30 ?f31 ?f32 ?f3 ?f4 ?f5 ?f6 ?f7 ?f8 ?f9 ?f10 ?f11 ?f13 ?f14 ?f17 ?f18 ?f19 ?f20 ?f21 ?f22
    all_goals try dsimp only [My.csI]
    case m0 | m1 | m2 | m3 | m4 | m5 | m6 | m7 | m8 | m9 | m10 | m11 | m12 | m13 | m14 | m15 | m16 | m17 | m18 | m19 | m20 => refine' PySem.W.mg_of KX G ?_; k_is
    case m21 | m22 | m23 | m24 | m25 | m26 | m27 | m28 | m29 => refine' PySem.W.mg_none_of KX G ?_; k_is
    case f0 | f1 | f2 | f12 | f15 | f16 | f23 | f24 | f25 | f26 | f27 | f28 | f29 | f30 | f31 | f32 => (refine' My.gf_mk KX G ?a ?l ?c ?k; (case a => show _ = _; k_is); (case l => show _ = _; k_is); (case c => show _ = _; k_is); (case k => show _ = _; k_is))
    case f3 | f4 | f5 | f6 | f7 | f8 | f9 | f10 | f11 | f13 | f14 | f17 | f18 | f19 | f20 | f21 | f22 => (refine' My.mf_mk ?a ?l ?c ?k; (case a => show _ = _; k_is); (case l => show _ = _; k_is); (case c => show _ = _; k_is); (case k => show _ = _; k_is))
    case m30 => (refine' My.tupI_VOTES ?a; (case a => k_is))
    case m31 | m32 => (refine ⟨?_, ?_, ?_, ?_, ?_, ?_, ?_, ?_⟩; (show PySem.W.isClsIn _ _ = true; k_is); all_goals k_is)
    case m33 | m34 | m35 | m36 | m37 | m38 => (refine ⟨?_, ?_, ?_, ?_⟩ <;> k_is)
    case m39 | m40 | m41 | m42 | m43 | m44 | m45 | m46 | m47 | m48 | m49 | m50 | m51 | m52 => (refine ⟨?_, ?_, ?_⟩ <;> k_is)
    case m53 | m54 | m55 | m56 | m57 | m58 | m59 | m60 => (show PySem.W.findIn _ _ _ = _; k_is)
    case m61 | m62 => k_exc
    case m63 | m64 | m65 | m66 | m67 | m68 => kit_is
    case m69 | m70 => kts_exm
#print axioms PySem.Challenge.cw_bitrail_k40_posts_and_frames_refused_holds
