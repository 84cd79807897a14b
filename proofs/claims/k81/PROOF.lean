import PyProof.Rows.All
import Wide.All
import OpenK.AllK
import Wide.FinOn
import PyProof.EqAt
import PyProof.EqKinds
import PyProof.TupleCall
import Lean
import PySem.Challenge.RW_bitrail_k81_strips_read
set_option Elab.async false
set_option Elab.async false
set_option linter.all false
set_option maxRecDepth 100000
namespace L2
open PySem PySem.Spec PyProof.Rows
abbrev Key:=Sum Int Str
def keyIs:Key→Value→Bool
  | .inl k,v=>Value.isInt k v
  | .inr x,v=>Value.isStrOf x v
def keyH (w:World):Key→Int
  | .inl k=>hashInt k
  | .inr x=>hashStr w x
theorem keyIs_shape:∀{k:Key} {v:Value},keyIs k v = true→(∃i t,k = Sum.inl i∧v = Value.int i t)∨(∃x t,k = Sum.inr x∧v = Value.str x t)
  | .inl i,v,h=>by
    obtain⟨t,e⟩:=Value.isInt_shape (k:=i) (v:=v) h
    exact .inl ⟨i,t,rfl,e⟩
  | .inr x,v,h=>by
    obtain⟨t,e⟩:=Value.isStrOf_shape (x:=x) (v:=v) h
    exact .inr ⟨x,t,rfl,e⟩
theorem key_ll (a b:Int):decide ((Sum.inl a:Key) = Sum.inl b) = (a == b):=by
  by_cases e:a = b
  · subst e;simp
  · have h:¬ (Sum.inl a:Key) = Sum.inl b:=fun q=>e (Sum.inl.inj q)
    rw [decide_eq_false h]
    exact(beq_eq_false_iff_ne.mpr e).symm
theorem key_rr (a b:Str):decide ((Sum.inr a:Key) = Sum.inr b) = decide (a = b):=by
  by_cases e:a = b
  · subst e;simp
  · have h:¬ (Sum.inr a:Key) = Sum.inr b:=fun q=>e (Sum.inr.inj q)
    rw [decide_eq_false h,decide_eq_false e]
theorem key_lr (a:Int) (b:Str):decide ((Sum.inl a:Key) = Sum.inr b) = false:=decide_eq_false (fun q=>nomatch q)
theorem key_rl (a:Str) (b:Int):decide ((Sum.inr a:Key) = Sum.inl b) = false:=decide_eq_false (fun q=>nomatch q)
def mixKind (prog:Program) (w:World):PySem.KeyKind prog w Key where
  is:=keyIs
  hash:=keyH w
  inj :=fun v a b ha hb=>by
    rcases keyIs_shape ha with ⟨i,t,rfl,rfl⟩ | ⟨x,t,rfl,rfl⟩
    · rcases keyIs_shape hb with ⟨j,u,rfl,e⟩ | ⟨y,u,rfl,e⟩
      · injection e with e1 _;rw [e1]
      · exact nomatch e
    · rcases keyIs_shape hb with ⟨j,u,rfl,e⟩ | ⟨y,u,rfl,e⟩
      · exact nomatch e
      · injection e with e1 _;rw [e1]
  byValue:=fun k v h=>by
    rcases keyIs_shape h with ⟨i,t,rfl,rfl⟩ | ⟨x,t,rfl,rfl⟩ <;> rfl
  pyHash:=fun hv h=>by
    rcases keyIs_shape hv with ⟨i,t,rfl,rfl⟩ | ⟨x,t,rfl,rfl⟩
    · exact wpAny_pyHash_int h
    · exact wpAny_pyHash_str h
  eqBool:=fun hu hv h=>by
    rcases keyIs_shape hu with ⟨i,t,rfl,rfl⟩ | ⟨x,t,rfl,rfl⟩
    · rcases keyIs_shape hv with ⟨j,u,rfl,rfl⟩ | ⟨y,u,rfl,rfl⟩
      · rw [key_ll] at h;exact wpAny_eqBool_int h
      · rw [key_lr] at h;exact SeqAt.EqAt.int_str i t y u _ _ _ _ h
    · rcases keyIs_shape hv with ⟨j,u,rfl,rfl⟩ | ⟨y,u,rfl,rfl⟩
      · rw [key_rl] at h;exact SeqAt.EqAt.str_int x t j u _ _ _ _ h
      · rw [key_rr] at h;exact wpAny_eqBool_str h
  «strs»:=fun k x t v h=>by
    rcases keyIs_shape h with ⟨i,u,rfl,e⟩ | ⟨y,u,rfl,e⟩
    · exact nomatch e
    · injection e with e1 _
      subst e1
      cases v <;> rfl
end L2
namespace L2
open PySem PySem.Spec PyProof.Rows
inductive V where
  | non | bl (b:Bool) | int (i:Int) | str (x:Str) | byt (b:Array UInt8) | flt (b:UInt64) | ref (a:Addr) | ty (n:String)
  deriving DecidableEq
def RelV:V→Value→Prop
  | .non,u=>u = Value.none
  | .bl b,u=>u = Value.bool b
  | .int i,u=>∃t,u = Value.int i t
  | .str x,u=>∃t,u = Value.str x t
  | .byt b,u=>∃t,u = Value.bytes b t
  | .flt b,u=>∃t,u = Value.float b t
  | .ref a,u=>u = Value.ref a
  | .ty n,u=>u = Value.type n
abbrev Vals:List V→List Value→Prop:=Paired RelV
theorem Vals.length {xs:List V} {us:List Value} (r:Vals xs us):xs.length = us.length:=Paired.length r
theorem Vals.get:∀{xs:List V} {us:List Value} {i:Nat} {x:V},Vals xs us→xs[i]? = some x→∃u,us[i]? = some u∧RelV x u
  | _,_,_,_,.nil,e=>by simp at e
  | _,_,0,_,.cons r _,e=>by simp at e;subst e;exact⟨_,rfl,r⟩
  | _,_,i + 1,x,.cons _ t,e=>by
    obtain⟨u,h1,h2⟩:=Vals.get (i:=i) (x:=x) t (by simpa using e)
    exact⟨u,by simpa using h1,h2⟩
theorem Vals.set {x:V} {u:Value} (r:RelV x u):∀{xs:List V} {us:List Value} (i:Nat),Vals xs us→Vals (xs.set i x) (us.set i u)
  | _,_,_,.nil=> .nil
  | _,_,0,.cons _ t=> .cons r t
  | _,_,i + 1,.cons q t=> .cons q (Vals.set r i t)
theorem Vals.append:∀{xs ys:List V} {us ws:List Value},Vals xs us→Vals ys ws→Vals (xs ++ ys) (us ++ ws)
  | _,_,_,_,.nil,s=>s
  | _,_,_,_,.cons r t,s=> .cons r (Vals.append t s)
theorem Vals.take:∀{xs:List V} {us:List Value} (n:Nat),Vals xs us→Vals (xs.take n) (us.take n)
  | _,_,0,_=> .nil
  | _,_,_ + 1,.nil=> .nil
  | _,_,n + 1,.cons r t=> .cons r (Vals.take n t)
theorem Vals.drop:∀{xs:List V} {us:List Value} (n:Nat),Vals xs us→Vals (xs.drop n) (us.drop n)
  | _,_,0,r=>r
  | _,_,_ + 1,.nil=> .nil
  | _,_,n + 1,.cons _ t=>Vals.drop n t
def RelO:Option V→Option Value→Prop
  | some v,some u=>RelV v u
  | none,none=>True
  | _,_=>False
def KV {κ:Type}:List (κ×V)→List (κ×Value)→Prop:=Paired fun (p:κ×V) (q:κ×Value)=>p.1 = q.1∧RelV p.2 q.2
def kV:Key→V
  | .inl i=> .int i
  | .inr x=> .str x
inductive HO where
    | lst (xs:List V)
    | tup (xs:List V)
    | dK (kvs:List (Key×V)) | dT (kvs:List (List Key×V))
    | set (S:Int→Bool) (n:Nat)
    | ins (C dx:Addr) (fs:List (Str×V))
    | own (x:Addr)
    | xd (fs:List (Str×V))
    | met (f x:Addr)
    | rng (lo hi:Int)
    | frz (o:Obj) (u:HO)
    | tbl (ps:Array Value)
    | ext (φ:Heap→Prop)
abbrev Hp:=Addr→Option HO
def upd (H:Hp) (a:Addr) (o:HO):Hp:=fun b=>if b = a then some o else H b
theorem upd_same {H:Hp} {a:Addr} {o:HO}:upd H a o a = some o:=by unfold upd;rw [if_pos rfl]
theorem upd_ne {H:Hp} {a b:Addr} {o:HO} (h:b≠a):upd H a o b = H b:=by unfold upd;rw [if_neg h]
theorem ne_of_none {H:Hp} {a b:Addr} {o:HO} (h:H a = some o) (h':H b = none):a≠b:=by
  intro e;subst e;rw [h] at h';cases h'
section
variable (P:Program) (w:World)
def ObjOk (H:Hp) (h:Heap) (a:Addr):HO→Prop
  | .lst xs=>xs.length≤sizeLine∧∃(its:List Value) (n:Nat),Vals xs its∧h.get? a = some { cls:= .type "list",data:= .seq its.toArray n }
  | .tup xs=>xs.length≤sizeLine∧∃its:List Value,Vals xs its∧IsTup h a its.toArray
  | .dK kvs=>kvs.length≤sizeLine∧(a == sysModules) = false∧∃vs,KV kvs vs∧h.DictOf (mixKind P w) a vs
  | .dT kvs=>kvs.length≤sizeLine∧(a == sysModules) = false∧∃xs:List (List Key×Addr×Value),
      Paired (fun (p:List Key×V) (q:List Key×Addr×Value)=>p.1 = q.1∧H q.2.1 = some (.tup (p.1.map kV))∧RelV p.2 q.2.2) kvs xs∧
      ∃o es ep,h.get? a = some o∧o.ExactDict∧o.data = .dict es ep∧es.toList = xs.map (entryOfKey (tupleKind (mixKind P w)))∧(xs.map (·.1)).Nodup
  | .set S n=>h.SetOf (intKind P w) a S n
  | .ins C dx fs=>H dx = some (.own a)∧fs.length≤1000∧dx≠a∧h.get? a = some (PySem.W.instObj C dx)∧
      ∃mA,h.Ns1 dx mA∧(∀f,RelO (fs.lookup f) (mA f))∧PySem.Within mA (fs.map (·.1))
  | .own _=>∃o,h.get? a = some o
  | .xd fs=>∃mA,h.Ns1 a mA∧∀f,RelO (fs.lookup f) (mA f)
  | .rng lo hi=>∃t u v,h.get? a = some { cls:= .type "range",data:= .fields #[.int lo t,.int hi u,.int 1 v] }
  | .frz o u=>h.get? a = some o∧ObjOk H h a u
  | .tbl ps=>h.get? a = some { cls:= .none,data:= .fields ps }
  | .met f x=>h.get? a = some (PySem.W.methodObj (.ref f) (.ref x))
  | .ext φ=>φ h∧(∃o,h.get? a = some o)∧∀h1 h2:Heap,φ h1→(∀o,h1.get? a = some o→h2.get? a = some o)→φ h2
def HOk (H:Hp) (h:Heap):Prop:=∀a o,H a = some o→ObjOk P w H h a o
end
section
variable {P:Program} {w:World} {H H':Hp} {h h':Heap} {a:Addr} {o:HO}
theorem ObjOk.lt (x:ObjOk P w H h a o):a < h.objs.size:=by
  cases o with
  | lst xs=>obtain⟨_,_,_,_,e⟩:=x;exact Heap.lt_size e
  | tup xs=>obtain⟨_,_,_,p⟩:=x;exact p.lt
  | dK kvs=>obtain⟨_,_,_,_,o,_,_,e,_⟩:=x;exact Heap.lt_size e
  | dT kvs=>obtain⟨_,_,_,_,o,_,_,e,_⟩:=x;exact Heap.lt_size e
  | set S n=>obtain⟨o,_,_,_,e,_⟩:=x;exact Heap.lt_size e
  | ins C dx fs=>obtain⟨_,_,_,e,_⟩:=x;exact Heap.lt_size e
  | own y=>obtain⟨_,e⟩:=x;exact Heap.lt_size e
  | xd fs=>obtain⟨_,⟨_,_,_,e,_⟩,_⟩:=x;exact Heap.lt_size e
  | rng lo hi=>obtain⟨_,_,_,e⟩:=x;exact Heap.lt_size e
  | frz ob u=>obtain⟨e,_⟩:=x;exact Heap.lt_size e
  | tbl ps=>exact Heap.lt_size (show h.get? a = some _ from x)
  | met f y=>exact Heap.lt_size (show h.get? a = some _ from x)
  | ext φ=>obtain⟨_,⟨_,e⟩,_⟩:=x;exact Heap.lt_size e
theorem Paired.mapP {α β:Type} {F G:α→β→Prop}:∀{l₁:List α} {l₂:List β},Paired F l₁ l₂→(∀a b,F a b→G a b)→Paired G l₁ l₂
  | _,_,.nil,_=> .nil
  | _,_,.cons r t,f=> .cons (f _ _ r) (Paired.mapP t f)
theorem ObjOk.stay (x:ObjOk P w H h a o) (k:∀b u,(b = a∨H b = some (.own a))→h.get? b = some u→h'.get? b = some u)
    (ho:∀b,H b = some (.own a)→H' b = some (.own a)) (ht:∀b xs,H b = some (.tup xs)→H' b = some (.tup xs)):ObjOk P w H' h' a o:=by
  induction o with
  | lst xs=>obtain⟨z,its,n,r,e⟩:=x;exact⟨z,its,n,r,k _ _ (.inl rfl) e⟩
  | tup xs=>obtain⟨z,its,r,ob,e,c⟩:=x;exact⟨z,its,r,ob,k _ _ (.inl rfl) e,c⟩
  | dK kvs=>obtain⟨z,y,vs,r,ob,es,ep,e,c⟩:=x;exact⟨z,y,vs,r,ob,es,ep,k _ _ (.inl rfl) e,c⟩
  | dT kvs=>
    obtain⟨z,y,xs,r,ob,es,ep,e,c⟩:=x
    exact⟨z,y,xs,Paired.mapP r fun p q z=>⟨z.1,ht _ _ z.2.1,z.2.2⟩,ob,es,ep,k _ _ (.inl rfl) e,c⟩
  | set S n=>obtain⟨ob,es,ep,t,e,c⟩:=x;exact⟨ob,es,ep,t,k _ _ (.inl rfl) e,c⟩
  | ins C dx fs=>
    obtain⟨d,z,ne,e,mA,⟨od,es,ep,e2,c⟩,r⟩:=x
    exact⟨ho _ d,z,ne,k _ _ (.inl rfl) e,mA,⟨od,es,ep,k _ _ (.inr d) e2,c⟩,r⟩
  | own y=>obtain⟨ob,e⟩:=x;exact⟨ob,k _ _ (.inl rfl) e⟩
  | xd fs=>obtain⟨mA,⟨od,es,ep,e,c⟩,r⟩:=x;exact⟨mA,⟨od,es,ep,k _ _ (.inl rfl) e,c⟩,r⟩
  | rng lo hi=>obtain⟨t,u,v,e⟩:=x;exact⟨t,u,v,k _ _ (.inl rfl) e⟩
  | frz ob u ih=>obtain⟨e,q⟩:=x;exact⟨k _ _ (.inl rfl) e,ih q⟩
  | tbl ps=>
    have e:h.get? a = some { cls:= .none,data:= .fields ps }:=x
    show h'.get? a = some { cls:= .none,data:= .fields ps }
    exact k a _ (.inl rfl) e
  | met f y=>
    have e:h.get? a = some (PySem.W.methodObj (.ref f) (.ref y)):=x
    show h'.get? a = some (PySem.W.methodObj (.ref f) (.ref y))
    exact k a _ (.inl rfl) e
  | ext φ=>obtain⟨p,⟨o,e⟩,st⟩:=x;exact⟨st _ _ p fun o q=>k _ _ (.inl rfl) q,⟨o,k _ _ (.inl rfl) e⟩,st⟩
theorem HOk.lt (x:HOk P w H h) (e:H a = some o):a < h.objs.size:=(x a o e).lt
theorem HOk.fresh (x:HOk P w H h) (e:h.objs.size≤a):H a = none:=by
  cases q:H a with
  | none=>rfl
  | some u=>exact absurd (Nat.lt_of_lt_of_le (x.lt q) e) (Nat.lt_irrefl _)
theorem HOk.kept (x:HOk P w H h) (k:∀b u,h.get? b = some u→h'.get? b = some u):HOk P w H h':=fun a o e=>
  (x a o e).stay (fun b u _ q=>k b u q) (fun _ q=>q) fun _ _ q=>q
theorem HOk.laid (x:HOk P w H h) (k:∀b u,h.get? b = some u→h'.get? b = some u) (hp:h.objs.size≤a) (new:ObjOk P w (upd H a o) h' a o):HOk P w (upd H a o) h':=fun b u e=>by
  have hn:=x.fresh hp
  by_cases hb:b = a
  · subst hb;rw [upd_same] at e;cases e;exact new
  · rw [upd_ne hb] at e
    exact(x b u e).stay (fun c v _ q=>k c v q) (fun c q=>by rw [upd_ne (ne_of_none q hn)];exact q) fun c xs q=>by rw [upd_ne (ne_of_none q hn)];exact q
end
def Rd (H:Hp) (a:Addr) (u:HO):Prop:=H a = some u∨∃o,H a = some (.frz o u)
theorem Rd.ok {P:Program} {w:World} {H:Hp} {h:Heap} {a:Addr} {u:HO} (r:Rd H a u) (x:HOk P w H h):ObjOk P w H h a u:=by
  rcases r with r | ⟨o,r⟩
  · exact x a u r
  · obtain⟨_,q⟩:=x a _ r
    exact q
def Mut:Option HO→Prop
  | some (.lst _)=>True
  | some (.dK _)=>True
  | some (.dT _)=>True
  | some (.set _ _)=>True
  | some (.ins _ _ _)=>True
  | some (.ext _)=>True
  | _=>False
section
variable {P:Program} {w:World} {H:Hp} {h h':Heap} {x e:Addr} {o':HO}
theorem HOk.write (ok:HOk P w H h) (mu:Mut (H x)) (he:e = x∨H e = some (.own x)) (k:∀b u,b≠e→h.get? b = some u→h'.get? b = some u) (heo:∃u,h'.get? e = some u)
    (new:ObjOk P w (upd H x o') h' x o'):HOk P w (upd H x o') h':=fun b u q=>by
  have nown:∀c y,H c = some (.own y)→c≠x:=fun c y r z=>by subst z;rw [r] at mu;exact mu
  have ntup:∀c xs,H c = some (.tup xs)→c≠x:=fun c xs r z=>by subst z;rw [r] at mu;exact mu
  by_cases hb:b = x
  · subst hb;rw [upd_same] at q;cases q;exact new
  · rw [upd_ne hb] at q
    by_cases hbe:b = e
    · have q':H b = some (.own x):=by
        rcases he with z | z
        · exact absurd (hbe.trans z) hb
        · rw [hbe];exact z
      rw [q] at q';cases q'
      obtain⟨v,hv⟩:=heo
      exact⟨v,by rw [hbe];exact hv⟩
    · refine(ok b u q).stay (fun c v hc r=>k c v ?_ r) (fun c r=>by rw [upd_ne (nown c b r)];exact r) fun c xs r=>by rw [upd_ne (ntup c xs r)];exact r
      rcases hc with rfl | hc
      · exact hbe
      · rintro rfl
        rcases he with z | z
        · exact nown c b hc z
        · rw [hc] at z;cases z;exact hb rfl
end
structure Un (fs ex:List Addr) (H H':Hp) (h h':Heap):Prop where
  keep:∀b o,h.get? b = some o→H b = none→b∉fs→b∉ex→h'.get? b = some o
  slot:∀b o,h.get? b = some o→H b = none→b∈fs→b∉ex→∃sl,h'.get? b = some { o with slots:=sl }
  free:∀b o,h.get? b = some o→H b = none→b∉ex→H' b = none
  there:∀b o,h.get? b = some o→b∉ex→∃o',h'.get? b = some o'
  tups:∀b xs,H b = some (.tup xs)→H' b = some (.tup xs)
  frzs:∀b o u,H b = some (.frz o u)→H' b = some (.frz o u)
  tbls:∀b ps,H b = some (.tbl ps)→∃more,H' b = some (.tbl (ps ++ more))
section
variable {fs fs' ex ex':List Addr} {H H1 H2:Hp} {h h1 h2 h':Heap} {a x e:Addr} {o:HO}
theorem Un.any (u:Un fs ex H H1 h h1) {b:Addr} {ob:Obj} (q:h.get? b = some ob) (n:H b = none) (hx:b∉ex):∃sl,h1.get? b = some { ob with slots:=sl }:=by
  by_cases hb:b∈fs
  · exact u.slot b ob q n hb hx
  · exact⟨ob.slots,u.keep b ob q n hb hx⟩
theorem Un.kept (k:∀b u,h.get? b = some u→h'.get? b = some u):Un fs ex H H h h':=
  ⟨fun b ob q _ _ _=>k b ob q,fun b ob q _ _ _=>⟨ob.slots,k b ob q⟩,fun _ _ _ n _=>n,fun b ob q _=>⟨ob,k b ob q⟩,fun _ _ q=>q,fun _ _ _ q=>q,fun _ ps q=>⟨#[],by rw [q];simp⟩⟩
theorem Un.refl:Un fs ex H H h h:=Un.kept fun _ _ q=>q
theorem Un.laid (k:∀b u,h.get? b = some u→h'.get? b = some u) (hp:h.objs.size≤a) (hn:H a = none):Un fs ex H (upd H a o) h h' where
  keep:=fun b u q _ _ _=>k b u q
  slot:=fun b u q _ _ _=>⟨u.slots,k b u q⟩
  free:=fun b u q n _=>by rw [upd_ne (Nat.ne_of_lt (Nat.lt_of_lt_of_le (Heap.lt_size q) hp))];exact n
  there:=fun b u q _=>⟨u,k b u q⟩
  tups:=fun b xs q=>by rw [upd_ne (ne_of_none q hn)];exact q
  frzs:=fun b u xs q=>by rw [upd_ne (ne_of_none q hn)];exact q
  tbls:=fun b ps q=>⟨#[],by rw [upd_ne (ne_of_none q hn),q];simp⟩
theorem Un.write (mu:Mut (H x)) (he:e = x∨H e = some (.own x)) (k:∀b u,b≠e→h.get? b = some u→h'.get? b = some u) (heo:∃u,h'.get? e = some u):Un fs ex H (upd H x o) h h':=by
  have hx:∀b,H b = none→b≠x:=fun b n z=>by subst z;rw [n] at mu;exact mu
  have hb:∀b,H b = none→b≠e:=fun b n z=>by
    subst z
    rcases he with r | r
    · exact hx b n r
    · rw [n] at r;cases r
  have hm:∀b u,H b = some u→¬ Mut (some u)→b≠x:=fun b u q nm z=>by subst z;rw [q] at mu;exact nm mu
  refine⟨fun b u q n _ _=>k b u (hb b n) q,fun b u q n _ _=>⟨u.slots,k b u (hb b n) q⟩,fun b u q n _=>by rw [upd_ne (hx b n)];exact n,fun b u q _=>?_,
    fun b xs q=>by rw [upd_ne (hm b _ q fun z=>z)];exact q,fun b u xs q=>by rw [upd_ne (hm b _ q fun z=>z)];exact q,fun b ps q=>⟨#[],by rw [upd_ne (hm b _ q fun z=>z),q];simp⟩⟩
  by_cases hbe:b = e
  · subst hbe;exact heo
  · exact⟨u,k b u hbe q⟩
end
def trk (h:Heap) (H:Hp):List Addr:=(List.range h.objs.size).filter fun a=>(H a).isSome
def hidT (h:Heap) (H:Hp):Heap:=PySem.W.hideAll h (trk h H)
theorem hidT_size (h:Heap) (H:Hp):(hidT h H).objs.size = h.objs.size:=PySem.W.hideAll_size _ _
theorem hidT_get {h:Heap} {H:Hp} {b:Addr} {o:Obj} (e:h.get? b = some o) (n:H b = none):(hidT h H).get? b = some o:=
  PySem.W.hideAll_get _ e fun hm=>by
    have q:(H b).isSome = true:=(List.mem_filter.mp hm).2
    rw [n] at q;simp at q
theorem of_hidT {h:Heap} {H:Hp} {b:Addr} {o:Obj} (e:(hidT h H).get? b = some o):h.get? b = some o∧H b = none:=by
  have e':h.get? b = some o:=PySem.W.of_hideAll (trk h H) e
  refine⟨e',?_⟩
  cases q:H b with
  | none=>rfl
  | some x=>
    have hm:b∈trk h H:=List.mem_filter.mpr ⟨List.mem_range.mpr (Heap.lt_size e'),by simp [q]⟩
    have z:(hidT h H).get? b = none:=PySem.W.hideAll_none (trk h H) hm
    rw [z] at e;cases e
def allNews (g h:Heap) (L:Addr):List (Addr×Obj):=(List.range h.objs.size).filterMap fun a=>if a = L∨(g.get? a).isSome = true then none else (h.get? a).map fun o=>(a,o)
def rest (g h:Heap) (L d:Addr):List (Addr×Obj):=(allNews g h L).filter fun p=>decide (p.1≠d)
end L2
namespace L2
open PySem PySem.Spec PyProof.Rows
structure Mod (K:PySem.W.Frag) (mg:Str→Option Value) (base:Heap):Prop where
  kin:K.In base
  glob:base.Ns mainGlobals mg
  blt:∃mb,base.Ns builtinsNs mb∧∀x:Str,x≠"__name__"→mb x = bootBuiltins x
  nolimit:base.NoLimit
structure Cx where
  prog:Program
  w:World
  K:PySem.W.Frag
  mg:Str→Option Value
  base:Heap
  A:Around
  N:List Str
  s₀:Shared
  H₀:Hp
  env:Env
  outer:List Env
  stack:List Env
  ex:List Addr
  fn:Str→Bool
  calm:Bool
  pn:List (Addr×Obj)
  xe:Value→Shared→Prop
def frs (l:List Env):List Addr:=l.filterMap (·.frame)
abbrev Cx.fs (X:Cx):List Addr:=frs X.outer
def Vis (sc:Scope) (x:Str):Prop:=sc.names.lookup x = some .local∨sc.names.lookup x = some .cell∨sc.names.lookup x = some .free
def Loc (sc:Scope) (x:Str):Prop:=sc.names.lookup x = some .local∨sc.names.lookup x = some .cell
def Look (env:Env) (h:Heap) (m:Str→Option Value) (x:Str) (u:Value):Prop:=
  (env.kindOf x = some .local∧m x = some u)∨((env.kindOf x = some .cell∨env.kindOf x = some .free)∧∃c,env.cells.lookup x = some c∧h.IsCell c (some u))
structure Cx.Ok (X:Cx):Prop where
  mod:Mod X.K X.mg X.base
  kind:X.env.scope.kind = .function
  glob:X.env.globals = mainGlobals
  blt:X.env.builtins = builtinsNs
  above:X.s₀.heap.objs.size≤X.env.locals
  inj:∀x y c,X.env.cells.lookup x = some c→X.env.cells.lookup y = some c→x = y
  has:∀x,(X.env.kindOf x = some .cell∨X.env.kindOf x = some .free)→∃c,X.env.cells.lookup x = some c
  cab:∀x c,X.fn x = true→X.env.cells.lookup x = some c→X.s₀.heap.objs.size≤c
  hd:X.calm = true→X.A.handled = none
  frames:X.A.frames = some X.stack
  stk:X.stack = X.outer∨(X.stack = X.env :: X.outer∧X.env.frame = some X.env.locals)
  exf:∀b∈X.ex,b≠X.env.locals∧∀x c,X.env.cells.lookup x = some c→c≠b
  bs:∀b o,X.base.get? b = some o→X.s₀.heap.get? b = some o∧X.H₀ b = none
  bsz:X.base.objs.size≤X.s₀.heap.objs.size
  noex:∀b o,X.base.get? b = some o→b∉X.ex
  exfs:∀b∈X.ex,b∉X.fs
  funs:X.s₀.heap.FunFrames X.base X.outer
  frf:∀b∈X.fs,X.H₀ b = none
structure Inv (X:Cx) (pins:List (Addr×Obj)) (σ:List (Option V)) (H:Hp) (s:Shared):Prop where
  ok:X.Ok
  os:s.os = X.s₀.os
  bare:AllBare s.gens
  base:Un X.fs X.ex X.H₀ H X.s₀.heap s.heap
  loc:∃m,s.heap.Ns X.env.locals m∧∀(i:Nat) (x:Str) (v:V),X.N[i]? = some x→σ[i]? = some (some v)→Vis X.env.scope x→∃u,RelV v u∧Look X.env s.heap m x u
  cell:∀x c,X.env.cells.lookup x = some c→∃v,s.heap.IsCell c v
  free:H X.env.locals = none
  freeC:∀x c,X.env.cells.lookup x = some c→H c = none
  pin:∀p∈X.pn ++ pins,s.heap.get? p.1 = some p.2∧H p.1 = none∧p.1≠X.env.locals∧p.1∉X.fs∧∀v,p.2.data≠ .cell v
  hok:HOk X.prog X.w H s.heap
  len:σ.length = X.N.length
section
variable {X:Cx} {pins:List (Addr×Obj)} {σ:List (Option V)} {H H':Hp} {s:Shared} {h':Heap}
theorem Cx.Ok.nofr (ok:X.Ok) {b:Addr} {o:Obj} (e:X.base.get? b = some o):b∉X.fs:=fun hb=>by
  have:=(ok.funs.mem hb).1
  rw [e] at this;cases this
theorem Inv.bs (I:Inv X pins σ H s):∀b o,X.base.get? b = some o→s.heap.get? b = some o∧H b = none:=fun b o e=>
  ⟨I.base.keep b o (I.ok.bs b o e).1 (I.ok.bs b o e).2 (I.ok.nofr e) (I.ok.noex b o e),I.base.free b o (I.ok.bs b o e).1 (I.ok.bs b o e).2 (I.ok.noex b o e)⟩
theorem Inv.bk (I:Inv X pins σ H s):∀b o,X.base.get? b = some o→s.heap.get? b = some o:=fun b o e=>(I.bs b o e).1
theorem Inv.mod (I:Inv X pins σ H s):Mod X.K X.mg X.base:=I.ok.mod
theorem Inv.kIn (I:Inv X pins σ H s):X.K.In s.heap:=I.ok.mod.kin.keeps I.bk
theorem Inv.fr (I:Inv X pins σ H s):∃m,Fr X.base X.env.locals s.heap m:=
  let ⟨m,hn,_⟩:=I.loc
  ⟨m,hn,I.bk,Nat.le_trans I.ok.bsz I.ok.above⟩
theorem Inv.lt (I:Inv X pins σ H s):X.env.locals < s.heap.objs.size:=let ⟨_,hn,_⟩:=I.loc;hn.lt
theorem Inv.sz (I:Inv X pins σ H s):X.s₀.heap.objs.size≤s.heap.objs.size:=Nat.le_trans I.ok.above (Nat.le_of_lt I.lt)
theorem Inv.nofs (I:Inv X pins σ H s) {a:Addr} (h:s.heap.objs.size≤a):a∉X.fs:=fun hb=>by
  obtain⟨_,o,ho,_⟩:=I.ok.funs.mem hb
  exact absurd (Nat.lt_of_lt_of_le (Heap.lt_size ho) (Nat.le_trans I.sz h)) (Nat.lt_irrefl _)
theorem Inv.cne (I:Inv X pins σ H s):∀x c,X.env.cells.lookup x = some c→c≠X.env.locals:=fun x c e z=>by
  obtain⟨v,o,ho,hd⟩:=I.cell x c e
  obtain⟨m,⟨o',es,ep,ho',hd',_⟩,_⟩:=I.loc
  rw [z,ho'] at ho;cases ho;rw [hd'] at hd;cases hd
theorem Inv.funs (I:Inv X pins σ H s):s.heap.FunFrames X.base X.outer:=by
  have all:∀(l:List Env),(∀b∈frs l,b∈X.fs)→X.s₀.heap.FunFrames X.base l→s.heap.FunFrames X.base l:=by
    intro l
    induction l with
    | nil=>intro _ _;trivial
    | cons env r ih=>
      intro hs hl
      obtain⟨hk,⟨L,o,hf,hn,ho,hd⟩,hr⟩:=hl
      have hL:L∈X.fs:=hs L (by unfold frs;rw [List.filterMap_cons,hf];exact List.mem_cons_self)
      obtain⟨sl,e⟩:=I.base.slot L o ho (I.ok.frf L hL) hL fun z=>I.ok.exfs L z hL
      exact⟨hk,⟨L,_,hf,hn,e,hd⟩,ih (fun b hb=>hs b (by unfold frs;rw [List.filterMap_cons,hf];exact List.mem_cons_of_mem _ hb)) hr⟩
  exact all X.outer (fun _ hb=>hb) I.ok.funs
theorem Inv.stack (I:Inv X pins σ H s):s.heap.FunFrames X.base X.stack:=by
  rcases I.ok.stk with e | ⟨e,hf⟩
  · rw [e];exact I.funs
  · rw [e]
    obtain⟨m,hn,_⟩:=I.loc
    refine .cons (by rw [I.ok.kind];decide) hf hn ?_ I.funs
    exact Heap.get?_none_of_le (Nat.le_trans I.ok.bsz I.ok.above)
theorem Inv.stkSub (I:Inv X pins σ H s):∀b∈frs X.stack,b∈X.env.locals :: X.fs:=fun b hb=>by
  rcases I.ok.stk with e | ⟨e,hf⟩
  · rw [e] at hb;exact List.mem_cons_of_mem _ hb
  · rw [e] at hb
    unfold frs at hb
    rw [List.filterMap_cons,hf] at hb
    exact hb
theorem Inv.stkFree (I:Inv X pins σ H s):∀b∈frs X.stack,H b = none:=fun b hb=>by
  rcases List.mem_cons.mp (I.stkSub b hb) with e | hb
  · rw [e];exact I.free
  · obtain⟨_,o,ho,_⟩:=I.ok.funs.mem hb
    exact I.base.free b o ho (I.ok.frf b hb) fun z=>I.ok.exfs b z hb
theorem Inv.step {g':Array GenState} {t':Nat} {d':Drawn} {ch:List Addr} (I:Inv X pins σ H s)
    (hch:∀b∈ch,(b∈X.ex∨X.s₀.heap.objs.size≤b)∧b≠X.env.locals∧(∀x c,X.env.cells.lookup x = some c→c≠b)∧∀p∈X.pn ++ pins,p.1≠b)
    (keep:∀b o,b≠X.env.locals→b∉X.fs→b∉ch→s.heap.get? b = some o→H b = none→h'.get? b = some o)
    (slot:∀b o,b≠X.env.locals→b∈X.fs→b∉ch→s.heap.get? b = some o→H b = none→∃sl,h'.get? b = some { o with slots:=sl }) (free:∀b o,b∉ch→s.heap.get? b = some o→H b = none→H' b = none)
    (there:∀b o,b∉ch→s.heap.get? b = some o→∃o',h'.get? b = some o')
    (tups:∀b xs,H b = some (.tup xs)→H' b = some (.tup xs)) (frzs:∀b o u,H b = some (.frz o u)→H' b = some (.frz o u)) (tbls:∀b ps,H b = some (.tbl ps)→∃more,H' b = some (.tbl (ps ++ more)))
    (ns:∀m,s.heap.Ns X.env.locals m→h'.Ns X.env.locals m) (hok:HOk X.prog X.w H' h') (hg:AllBare g') :
    Inv X pins σ H' { s with heap:=h',gens:=g',drawn:=d',toks:=t' }:=by
  have neL:∀b o,X.s₀.heap.get? b = some o→b≠X.env.locals:=fun b o e=>Nat.ne_of_lt (Nat.lt_of_lt_of_le (Heap.lt_size e) I.ok.above)
  have neC:∀b o,X.s₀.heap.get? b = some o→b∉X.ex→b∉ch:=fun b o e hx hb=>by
    rcases (hch b hb).1 with z | z
    · exact hx z
    · exact absurd (Nat.lt_of_lt_of_le (Heap.lt_size e) z) (Nat.lt_irrefl _)
  have cellK:∀x c,X.env.cells.lookup x = some c→∀v,s.heap.IsCell c v→h'.IsCell c v:=fun x c e v ⟨o,ho,hd⟩=>by
    have nch:c∉ch:=fun z=>(hch c z).2.2.1 x c e rfl
    by_cases hc:c∈X.fs
    · obtain⟨sl,q⟩:=slot c o (I.cne x c e) hc nch ho (I.freeC x c e)
      exact⟨_,q,hd⟩
    · exact⟨o,keep c o (I.cne x c e) hc nch ho (I.freeC x c e),hd⟩
  refine⟨I.ok,I.os,hg,⟨fun b o e n hb hx=>?_,fun b o e n hb hx=>?_,fun b o e n hx=>?_,fun b o e hx=>?_,fun b xs e=>tups b xs (I.base.tups b xs e),fun b o xs e=>frzs b o xs (I.base.frzs b o xs e),fun b ps e=>?_⟩,?_,fun x c e=>?_,?_,fun x c e=>?_,fun p hp=>?_,hok,I.len⟩
  · exact keep b o (neL b o e) hb (neC b o e hx) (I.base.keep b o e n hb hx) (I.base.free b o e n hx)
  · obtain⟨sl,e1⟩:=I.base.slot b o e n hb hx
    obtain⟨sl',e2⟩:=slot b _ (neL b o e) hb (neC b o e hx) e1 (I.base.free b o e n hx)
    exact⟨sl',e2⟩
  · obtain⟨o',e1⟩:=I.base.there b o e hx
    exact free b o' (neC b o e hx) e1 (I.base.free b o e n hx)
  · obtain⟨o',e1⟩:=I.base.there b o e hx
    exact there b o' (neC b o e hx) e1
  · obtain⟨m1,e1⟩:=I.base.tbls b ps e
    obtain⟨m2,e2⟩:=tbls b _ e1
    exact⟨m1 ++ m2,by rw [e2,Array.append_assoc]⟩
  · obtain⟨m,hn,hl⟩:=I.loc
    refine⟨m,ns m hn,fun i x v e1 e2 e3=>?_⟩
    obtain⟨u,r,l⟩:=hl i x v e1 e2 e3
    refine⟨u,r,?_⟩
    rcases l with l | ⟨k,c,e,z⟩
    · exact .inl l
    · exact .inr ⟨k,c,e,cellK x c e _ z⟩
  · obtain⟨v,z⟩:=I.cell x c e
    exact⟨v,cellK x c e v z⟩
  · obtain⟨m,⟨o,_,_,ho,_⟩,_⟩:=I.loc
    exact free _ o (fun z=>(hch _ z).2.1 rfl) ho I.free
  · obtain⟨v,o,ho,hd⟩:=I.cell x c e
    exact free c o (fun z=>(hch c z).2.2.1 x c e rfl) ho (I.freeC x c e)
  · obtain⟨e,n,ne,nf,d⟩:=I.pin p hp
    have nch:p.1∉ch:=fun z=>(hch p.1 z).2.2.2 p hp rfl
    exact⟨keep p.1 p.2 ne nf nch e n,free p.1 p.2 nch e n,ne,nf,d⟩
theorem Inv.un {t':Nat} (I:Inv X pins σ H s) (u:Un X.fs [] H H' s.heap h') (hok:HOk X.prog X.w H' h'):Inv X pins σ H' { s with heap:=h',toks:=t' }:=by
  obtain⟨m,⟨o,es,ep,ho,r⟩,_⟩:=id I.loc
  obtain⟨sl,hL⟩:=u.any ho I.free (by simp)
  exact I.step (g':=s.gens) (d':=s.drawn) (ch:=[]) (fun _ z=>nomatch z) (fun b o _ hb _ e n=>u.keep b o e n hb (by simp)) (fun b o _ hb _ e n=>u.slot b o e n hb (by simp)) (fun b o _ e n=>u.free b o e n (by simp)) (fun b o _ e=>u.there b o e (by simp)) u.tups u.frzs u.tbls (fun m' hm=>by
    obtain⟨o',es',ep',ho',r'⟩:=hm
    rw [ho] at ho';cases ho'
    exact⟨_,es',ep',hL,r'⟩) hok I.bare
theorem Inv.call {g':Array GenState} {t':Nat} {d':Drawn} {ch:List Addr} (I:Inv X pins σ H s) (u:Un (frs X.stack) ch H H' s.heap h') (hok:HOk X.prog X.w H' h') (hg:AllBare g')
    (hch:∀b∈ch,(b∈X.ex∨X.s₀.heap.objs.size≤b)∧b≠X.env.locals∧(∀x c,X.env.cells.lookup x = some c→c≠b)∧∀p∈X.pn ++ pins,p.1≠b) :
    Inv X pins σ H' { s with heap:=h',gens:=g',drawn:=d',toks:=t' }:=by
  obtain⟨m,⟨o,es,ep,ho,r⟩,_⟩:=id I.loc
  obtain⟨sl,hL⟩:=u.any ho I.free fun z=>(hch _ z).2.1 rfl
  exact I.step (ch:=ch) hch (fun b o hL hb hc e n=>u.keep b o e n (fun z=>(List.mem_cons.mp (I.stkSub b z)).elim hL hb) hc) (fun b o _ _ hc e n=>u.any e n hc) (fun b o hc e n=>u.free b o e n hc) (fun b o hc e=>u.there b o e hc) u.tups u.frzs u.tbls (fun m' hm=>by
    obtain⟨o',es',ep',ho',r'⟩:=hm
    rw [ho] at ho';cases ho'
    exact⟨_,es',ep',hL,r'⟩) hok hg
theorem Inv.turned {t':Nat} {it:Addr} (I:Inv X pins σ H s) (k:∀b o,b≠it→s.heap.get? b = some o→h'.get? b = some o) (hn:H it = none) (hL:it≠X.env.locals)
    (h1:it∈X.ex∨X.s₀.heap.objs.size≤it) (h2:∀x c,X.env.cells.lookup x = some c→c≠it) (h3:∀p∈X.pn ++ pins,p.1≠it):Inv X pins σ H { s with heap:=h',toks:=t' }:=by
  have nit:∀b u,H b = some u→b≠it:=fun b u e z=>by rw [z,hn] at e;cases e
  refine I.step (g':=s.gens) (d':=s.drawn) (ch:=[it]) (fun b hb=>?_) (fun b o _ _ hc e _=>k b o (fun z=>hc (by simp [z])) e) (fun b o _ _ hc e _=>⟨o.slots,k b o (fun z=>hc (by simp [z])) e⟩) (fun _ _ _ _ n=>n)
    (fun b o hc e=>⟨o,k b o (fun z=>hc (by simp [z])) e⟩) (fun _ _ e=>e) (fun _ _ _ e=>e) (fun b ps e=>⟨#[],by rw [e];simp⟩) (fun m hm=>?_) (fun b u e=>?_) I.bare
  · have e:b = it:=by simpa using hb
    subst e
    exact⟨h1,hL,h2,h3⟩
  · obtain⟨o,es,ep,ho,r⟩:=hm
    exact⟨o,es,ep,k _ o (Ne.symm hL) ho,r⟩
  · refine(I.hok b u e).stay (fun c v hc q=>k c v ?_ q) (fun _ q=>q) fun _ _ q=>q
    rcases hc with z | z
    · rw [z];exact nit b u e
    · exact nit c _ z
theorem Inv.tok (I:Inv X pins σ H s) (t:Nat):Inv X pins σ H { s with toks:=t }:=I.un (h':=s.heap) (t':=t) Un.refl I.hok
theorem Inv.kept {t':Nat} (I:Inv X pins σ H s) (k:∀b u,s.heap.get? b = some u→h'.get? b = some u):Inv X pins σ H { s with heap:=h',toks:=t' }:=I.un (Un.kept k) (I.hok.kept k)
theorem Inv.laid {a:Addr} {o:HO} {t':Nat} (I:Inv X pins σ H s) (k:∀b u,s.heap.get? b = some u→h'.get? b = some u) (hp:s.heap.objs.size≤a) (new:ObjOk X.prog X.w (upd H a o) h' a o) :
    Inv X pins σ (upd H a o) { s with heap:=h',toks:=t' }:=I.un (Un.laid k hp (I.hok.fresh hp)) (I.hok.laid k hp new)
theorem Inv.write {x e:Addr} {o:HO} {t':Nat} (I:Inv X pins σ H s) (mu:Mut (H x)) (he:e = x∨H e = some (.own x)) (k:∀b u,b≠e→s.heap.get? b = some u→h'.get? b = some u) (heo:∃u,h'.get? e = some u)
    (new:ObjOk X.prog X.w (upd H x o) h' x o):Inv X pins σ (upd H x o) { s with heap:=h',toks:=t' }:=I.un (Un.write mu he k heo) (I.hok.write mu he k heo new)
theorem Inv.weak {σ':List (Option V)} (I:Inv X pins σ H s) (hl:σ'.length = σ.length) (w:∀(i:Nat) v,σ'[i]? = some (some v)→σ[i]? = some (some v)):Inv X pins σ' H s:=
  ⟨I.ok,I.os,I.bare,I.base,let ⟨m,hn,hl'⟩:=I.loc;⟨m,hn,fun i x v e1 e2 e3=>hl' i x v e1 (w i v e2) e3⟩,I.cell,I.free,I.freeC,I.pin,I.hok,hl.trans I.len⟩
theorem Inv.pins_of {pins':List (Addr×Obj)} (I:Inv X pins σ H s) (h:∀p∈pins',s.heap.get? p.1 = some p.2∧H p.1 = none∧p.1≠X.env.locals∧p.1∉X.fs∧∀v,p.2.data≠ .cell v):Inv X pins' σ H s:=
  ⟨I.ok,I.os,I.bare,I.base,I.loc,I.cell,I.free,I.freeC,fun p hp=>(List.mem_append.mp hp).elim (fun z=>I.pin p (List.mem_append_left _ z)) (h p),I.hok,I.len⟩
theorem nodup_ix {N:List Str} (hN:N.Nodup) {i j:Nat} {x:Str} (a:N[i]? = some x) (b:N[j]? = some x):i = j:=by
  obtain⟨h1,e1⟩:=List.getElem?_eq_some_iff.mp a
  obtain⟨h2,e2⟩:=List.getElem?_eq_some_iff.mp b
  exact(List.getElem_inj hN).mp (e1.trans e2.symm)
theorem store_ok2 {M:Model} {A:Around} {E:Value→Shared→Prop} {i:Nat} {x:Str} {v:V} {u:Value} {Q:Unit→Shared→Prop} (I:Inv X pins σ H s) (hN:X.N.Nodup) (hi:X.N[i]? = some x) (hx:Loc X.env.scope x) (r:RelV v u)
    (h:∀s',Inv X pins (σ.set i (some v)) H s'→(∃a,Heap.SameBut a s.heap s'.heap∧(a = X.env.locals∨X.env.cells.lookup x = some a))→Q () s') (hf:X.fn x = true∨X.env.scope.names.lookup x = some .local:=by first | exact .inl rfl | exact .inr rfl | assumption):wpAny M A (storeName X.env x u) Q E s:=by
  obtain⟨m,hn,hl⟩:=id I.loc
  have hcls:(X.env.scope.kind == .class || (X.env.scope.kind == .module && X.env.locals != X.env.globals)) = false:=by rw [I.ok.kind];rfl
  have hiσ:i < σ.length:=by rw [I.len];exact(List.getElem?_eq_some_iff.mp hi).1
  have cne:=I.cne
  have tracked:∀{a:Addr} {h':Heap},(∃o,s.heap.get? a = some o∧H a = none)→Heap.SameBut a s.heap h'→HOk X.prog X.w H h':=fun {a h'} ha hs b ob e=>by
    obtain⟨_,_,hfree⟩:=ha
    refine(I.hok b ob e).stay (fun c w' hc q=>(hs.2 c ?_).trans q) (fun _ q=>q) fun _ _ q=>q
    rintro rfl
    rcases hc with rfl | hc
    · rw [hfree] at e;cases e
    · rw [hfree] at hc;cases hc
  rcases hx with hk | hk
  · refine wpAny_storeName_local hk hn (fun h' hn' hs=>?_) hcls
    obtain⟨oL,_,_,hoL,_⟩:=id hn
    refine h _ ⟨I.ok,I.os,I.bare,⟨fun b o e n hb hx=>?_,fun b o e n hb hx=>?_,I.base.free,fun b o e hx=>?_,I.base.tups,I.base.frzs,I.base.tbls⟩,⟨_,hn',fun j y v' e1 e2 e3=>?_⟩,fun y c e=>?_,I.free,I.freeC,fun p hp=>?_,tracked ⟨oL,hoL,I.free⟩ hs,by simpa using I.len⟩ ⟨_,hs,.inl rfl⟩
    · exact(hs.2 b (Nat.ne_of_lt (Nat.lt_of_lt_of_le (Heap.lt_size e) I.ok.above))).trans (I.base.keep b o e n hb hx)
    · obtain⟨sl,e1⟩:=I.base.slot b o e n hb hx
      exact⟨sl,(hs.2 b (Nat.ne_of_lt (Nat.lt_of_lt_of_le (Heap.lt_size e) I.ok.above))).trans e1⟩
    · obtain⟨o',e1⟩:=I.base.there b o e hx
      exact⟨o',(hs.2 b (Nat.ne_of_lt (Nat.lt_of_lt_of_le (Heap.lt_size e) I.ok.above))).trans e1⟩
    · by_cases hj:j = i
      · subst hj
        rw [hi] at e1;cases e1
        rw [List.getElem?_set_self hiσ] at e2
        cases e2
        exact⟨u,r,.inl ⟨hk,by simp⟩⟩
      · rw [List.getElem?_set_ne (Ne.symm hj)] at e2
        obtain⟨u',r',q⟩:=hl j y v' e1 e2 e3
        refine⟨u',r',?_⟩
        rcases q with ⟨k,e⟩ | ⟨k,c,e,z⟩
        · refine .inl ⟨k,?_⟩
          have:y≠x:=fun e=>hj (nodup_ix hN e1 (e▸hi))
          simp [this,e]
        · exact .inr ⟨k,c,e,z.sameBut hs (cne y c e)⟩
    · obtain⟨w',z⟩:=I.cell y c e
      exact⟨w',z.sameBut hs (cne y c e)⟩
    · obtain⟨e,n,ne,nf,d⟩:=I.pin p hp
      exact⟨(hs.2 p.1 ne).trans e,n,ne,nf,d⟩
  · have hfn:X.fn x = true:=by
      rcases hf with z | z
      · exact z
      · rw [z] at hk;cases hk
    obtain⟨c,hc⟩:=I.ok.has x (.inl hk)
    obtain⟨w',z⟩:=I.cell x c hc
    refine wpAny_storeName_cell I.ok.kind hk hc z (fun h' hc' hs=>?_)
    obtain⟨oc,hoc,hocd⟩:=id z
    refine h { s with heap:=h' } ⟨I.ok,I.os,I.bare,⟨fun b o e n hb hx=>?_,fun b o e n hb hx=>?_,I.base.free,fun b o e hx=>?_,I.base.tups,I.base.frzs,I.base.tbls⟩,⟨m,hn.sameBut hs (Ne.symm (cne x c hc)),fun j y v' e1 e2 e3=>?_⟩,fun y c' e=>?_,I.free,I.freeC,fun p hp=>?_,tracked ⟨oc,hoc,I.freeC x c hc⟩ hs,by simpa using I.len⟩ ⟨c,hs,.inr hc⟩
    · exact(hs.2 b (Nat.ne_of_lt (Nat.lt_of_lt_of_le (Heap.lt_size e) (I.ok.cab x c hfn hc)))).trans (I.base.keep b o e n hb hx)
    · obtain⟨sl,e1⟩:=I.base.slot b o e n hb hx
      exact⟨sl,(hs.2 b (Nat.ne_of_lt (Nat.lt_of_lt_of_le (Heap.lt_size e) (I.ok.cab x c hfn hc)))).trans e1⟩
    · obtain⟨o',e1⟩:=I.base.there b o e hx
      exact⟨o',(hs.2 b (Nat.ne_of_lt (Nat.lt_of_lt_of_le (Heap.lt_size e) (I.ok.cab x c hfn hc)))).trans e1⟩
    · by_cases hj:j = i
      · subst hj
        rw [hi] at e1;cases e1
        rw [List.getElem?_set_self hiσ] at e2
        cases e2
        exact⟨u,r,.inr ⟨.inl hk,c,hc,hc'⟩⟩
      · rw [List.getElem?_set_ne (Ne.symm hj)] at e2
        obtain⟨u',r',q⟩:=hl j y v' e1 e2 e3
        refine⟨u',r',?_⟩
        rcases q with q | ⟨k,c',e,z'⟩
        · exact .inl q
        · refine .inr ⟨k,c',e,z'.sameBut hs ?_⟩
          rintro rfl
          exact hj (nodup_ix hN e1 (I.ok.inj _ _ _ e hc▸hi))
    · by_cases hcc:c' = c
      · subst hcc;exact⟨_,hc'⟩
      · obtain⟨w2,z2⟩:=I.cell y c' e
        exact⟨w2,z2.sameBut hs hcc⟩
    · obtain⟨e,n,ne,nf,d⟩:=I.pin p hp
      refine⟨(hs.2 p.1 ?_).trans e,n,ne,nf,d⟩
      intro q
      rw [q,hoc] at e
      have q':oc = p.2:=Option.some.inj e
      exact d w' (by rw [←q'];exact hocd)
theorem store_ok {M:Model} {A:Around} {E:Value→Shared→Prop} {i:Nat} {x:Str} {v:V} {u:Value} {Q:Unit→Shared→Prop} (I:Inv X pins σ H s) (hN:X.N.Nodup) (hi:X.N[i]? = some x) (hx:Loc X.env.scope x) (r:RelV v u)
    (h:∀s',Inv X pins (σ.set i (some v)) H s'→Q () s') (hf:X.fn x = true∨X.env.scope.names.lookup x = some .local:=by first | exact .inl rfl | exact .inr rfl | assumption):wpAny M A (storeName X.env x u) Q E s:=
  store_ok2 I hN hi hx r (fun s' I' _=>h s' I') hf
theorem Inv.call' {s':Shared} {ch:List Addr} (I:Inv X pins σ H s) (ho:s'.os = s.os) (u:Un (frs X.stack) ch H H' s.heap s'.heap) (hok:HOk X.prog X.w H' s'.heap) (hg:AllBare s'.gens)
    (hch:∀b∈ch,(b∈X.ex∨X.s₀.heap.objs.size≤b)∧b≠X.env.locals∧(∀x c,X.env.cells.lookup x = some c→c≠b)∧∀p∈X.pn ++ pins,p.1≠b):Inv X pins σ H' s':=by
  obtain⟨h',g',d',t',o'⟩:=s'
  have e:o' = s.os:=ho
  subst e
  exact I.call (g':=g') (t':=t') (d':=d') u hok hg hch
end
abbrev XK:=Value→Option Addr→Hp→Prop
abbrev St:=List (Option V)
abbrev VK:=V→Hp→Prop
abbrev TE:=St→Hp→VK→Prop
abbrev TT:=St→Hp→(Bool→Hp→Prop)→Prop
abbrev TA:=St→Hp→(List V→Hp→Prop)→Prop
structure Ends where
  nx:St→Hp→Prop
  rt:VK
  bk:St→Hp→Prop:=fun _ _=>False
  ct:St→Hp→Prop:=fun _ _=>False
abbrev TS:=Ends→St→Hp→Prop
def EP (X:Cx) (pins:List (Addr×Obj)) (σ:St) (Q:VK) (u:Value) (s':Shared):Prop:=∃v H',Inv X pins σ H' s'∧RelV v u∧Q v H'
def TP (X:Cx) (pins:List (Addr×Obj)) (σ:St) (Q:Bool→Hp→Prop) (b:Bool) (s':Shared):Prop:=∃H',Inv X pins σ H' s'∧Q b H'
def AP (X:Cx) (pins:List (Addr×Obj)) (σ:St) (Q:List V→Hp→Prop) (us:List Value) (s':Shared):Prop:=∃vs H',Inv X pins σ H' s'∧Vals vs us∧Q vs H'
def SP (X:Cx) (pins:List (Addr×Obj)) (D:Ends) (f:Flow) (s':Shared):Prop:=
  match f with
  | .next=>∃σ' H',Inv X pins σ' H' s'∧D.nx σ' H'
  | .brk=>∃σ' H',Inv X pins σ' H' s'∧D.bk σ' H'
  | .cont=>∃σ' H',Inv X pins σ' H' s'∧D.ct σ' H'
  | .ret u=>∃v σ' H',Inv X pins σ' H' s'∧RelV v u∧D.rt v H'
def PE (X:Cx) (e:Expr) (t:TE):Prop:=
  ∀(pins:List (Addr×Obj)) (s:Shared) (σ:St) (H:Hp) (Q:VK),Inv X pins σ H s→t σ H Q→wpAny (model X.prog X.w) X.A (eval e X.env) (EP X pins σ Q) X.xe s
def PT (X:Cx) (e:Expr) (t:TT):Prop:=
  ∀(pins:List (Addr×Obj)) (s:Shared) (σ:St) (H:Hp) (Q:Bool→Hp→Prop),Inv X pins σ H s→t σ H Q→wpAny (model X.prog X.w) X.A (isTrue e X.env (eval e X.env)) (TP X pins σ Q) X.xe s
def PW (X:Cx) (e:Expr) (t:TT):Prop:=
  ∀(whole:Sem Value) (pins:List (Addr×Obj)) (s:Shared) (σ:St) (H:Hp) (Q:Bool→Hp→Prop),Inv X pins σ H s→t σ H Q→wpAny (model X.prog X.w) X.A (isTrue e X.env whole) (TP X pins σ Q) X.xe s
theorem PW.pt {X:Cx} {e:Expr} {t:TT} (h:PW X e t):PT X e t:=h _
def PA (X:Cx) (es:List Expr) (t:TA):Prop:=
  ∀(pos:Pos) (pins:List (Addr×Obj)) (s:Shared) (σ:St) (H:Hp) (Q:List V→Hp→Prop),Inv X pins σ H s→t σ H Q→wpAny (model X.prog X.w) X.A (spliced (backTo pos (starEach es X.env))) (AP X pins σ Q) X.xe s
def PS (X:Cx) (st:Stmt) (t:TS):Prop:=
  ∀(pins:List (Addr×Obj)) (s:Shared) (σ:St) (H:Hp) (D:Ends),Inv X pins σ H s→t D σ H→wpAny (model X.prog X.w) X.A (exec st X.env) (SP X pins D) X.xe s
def PSs (X:Cx) (st:List Stmt) (t:TS):Prop:=
  ∀(pins:List (Addr×Obj)) (s:Shared) (σ:St) (H:Hp) (D:Ends),Inv X pins σ H s→t D σ H→wpAny (model X.prog X.w) X.A (execs st X.env) (SP X pins D) X.xe s
theorem thn {α:Type} {t:Sem α} {Q Q':α→Shared→Prop} {M:Model} {A:Around} {E:Value→Shared→Prop} {s:Shared} (h:wpAny M A t Q E s) (hQ:∀a s,Q a s→Q' a s):wpAny M A t Q' E s:=wpAny_mono h hQ fun _ _ x=>x
end L2
namespace L2
open PySem PySem.Spec PyProof.Rows
section
variable {X:Cx}
theorem bin {a b:Expr} {ta tb:TE} (ha:PE X a ta) (hb:PE X b tb) {pins:List (Addr×Obj)} {s:Shared} {σ:St} {H:Hp} {R:V→V→Hp→Prop} (I:Inv X pins σ H s) (h:ta σ H fun x H1=>tb σ H1 fun y H2=>R x y H2)
    {α:Type} {Q:α→Shared→Prop} {f:Value→Value→Sem α}
    (hf:∀v u s2 x y H2,Inv X pins σ H2 s2→RelV x v→RelV y u→R x y H2→wpAny (model X.prog X.w) X.A (f v u) Q X.xe s2) :
    wpAny (model X.prog X.w) X.A (eval a X.env) (fun v s₁=>wpAny (model X.prog X.w) X.A (eval b X.env) (fun u s₂=>wpAny (model X.prog X.w) X.A (f v u) Q X.xe s₂) X.xe s₁) X.xe s:=by
  refine thn (ha pins s σ H _ I h) fun v s1 ⟨x,H1,I1,r1,q1⟩=>?_
  refine thn (hb pins s1 σ H1 _ I1 q1) fun u s2 ⟨y,H2,I2,r2,q2⟩=>?_
  exact hf v u s2 x y H2 I2 r1 r2 q2
def tVar (i:Nat):TE:=fun σ H Q=>∃v,σ[i]? = some (some v)∧Q v H
def tC (v:V):TE:=fun _ H Q=>Q v H
theorem pe_var {i:Nat} {x:Str} {pos:Pos} (hN:X.N[i]? = some x) (hv:Vis X.env.scope x) (hd:(x == ("__debug__":Str)) = false:=by decide) (hcd:(x == ("__classdict__":Str)) = false:=by decide):PE X (.Name x pos) (tVar i):=by
  intro pins s σ H Q I h
  obtain⟨v,e,h⟩:=h
  obtain⟨m,hn,hl⟩:=I.loc
  obtain⟨u,r,l⟩:=hl i x v hN e hv
  have fin:EP X pins σ Q u s:=⟨v,H,I,r,h⟩
  rcases l with ⟨hk,hm⟩ | ⟨hk,c,hc,hcell⟩
  · exact wpAny_Name (wpAny_loadName_local I.ok.kind hk hn hm fin) hd
  · rcases hk with hk | hk
    · exact wpAny_Name (wpAny_loadName_cell I.ok.kind hk hc hcell fin) hd
    · exact wpAny_Name (wpAny_loadName_free I.ok.kind hk hc hcell fin hcd) hd
theorem pe_int {i j pos}:PE X (.Constant (.int i) j pos) (tC (.int i)):=fun _ _ _ H _ I h=>wpAny_Constant_int ⟨.int i,H,I.tok _,⟨_,rfl⟩,h⟩
theorem pe_bl {b j pos}:PE X (.Constant (.bool b) j pos) (tC (.bl b)):=fun _ _ _ H _ I h=>Constant_bool ⟨.bl b,H,I,rfl,h⟩
theorem pe_non {j pos}:PE X (.Constant .none j pos) (tC .non):=fun _ _ _ H _ I h=>Constant_none ⟨.non,H,I,rfl,h⟩
theorem pe_str {x j pos}:PE X (.Constant (.str x) j pos) (tC (.str x)):=fun _ _ _ H _ I h=>Calls.Constant_str ⟨.str x,H,I.tok _,⟨_,rfl⟩,h⟩
def Gl (X:Cx) (x:Str):Prop:=X.env.kindOf x = some .globalImplicit
theorem ld_glob {E:Value→Shared→Prop} {pins:List (Addr×Obj)} {s:Shared} {σ:St} {H:Hp} {x:Str} {u:Value} {pos:Pos} {Q:Value→Shared→Prop} (I:Inv X pins σ H s) (hg:Gl X x) (hm:X.mg x = some u) (h:Q u s)
    (hd:(x == ("__debug__":Str)) = false:=by decide):wpAny (model X.prog X.w) X.A (eval (.Name x pos) X.env) Q E s:=
  Calls.Name_function_global I.ok.kind hg (Calls.loadGlobal_global (by rw [I.ok.glob];exact I.mod.glob.keeps I.bk) hm h) hd
theorem ld_blt {E:Value→Shared→Prop} {pins:List (Addr×Obj)} {s:Shared} {σ:St} {H:Hp} {x:Str} {u:Value} {pos:Pos} {Q:Value→Shared→Prop} (I:Inv X pins σ H s) (hg:Gl X x) (hm:X.mg x = none) (hv:bootBuiltins x = some u) (h:Q u s)
    (hn:x≠"__name__":=by decide) (hd:(x == ("__debug__":Str)) = false:=by decide):wpAny (model X.prog X.w) X.A (eval (.Name x pos) X.env) Q E s:=by
  obtain⟨mb,h1,h2⟩:=I.mod.blt
  exact Calls.Name_function_global I.ok.kind hg (Calls.loadGlobal_builtin (by rw [I.ok.glob];exact I.mod.glob.keeps I.bk) hm (by rw [I.ok.blt];exact h1.keeps I.bk) ((h2 x hn).trans hv) h) hd
theorem pe_glob {x:Str} {v:V} {u:Value} {pos:Pos} (hg:Gl X x) (hm:X.mg x = some u) (r:RelV v u) (hd:(x == ("__debug__":Str)) = false:=by decide):PE X (.Name x pos) (tC v):=
  fun _ _ _ H _ I h=>ld_glob I hg hm ⟨v,H,I,r,h⟩ hd
theorem pe_bltn {x:Str} {v:V} {u:Value} {pos:Pos} (hg:Gl X x) (hm:X.mg x = none) (hv:bootBuiltins x = some u) (r:RelV v u) (hn:x≠"__name__":=by decide) (hd:(x == ("__debug__":Str)) = false:=by decide):PE X (.Name x pos) (tC v):=
  fun _ _ _ H _ I h=>ld_blt I hg hm hv ⟨v,H,I,r,h⟩ hn hd
def t2I (ta tb:TE) (k:Int→Int→Hp→Prop):St→Hp→Prop:=fun σ H=>ta σ H fun x H1=>tb σ H1 fun y H2=>∃i j,x = .int i∧y = .int j∧k i j H2
def tAdd (ta tb:TE):TE:=fun σ H Q=>t2I ta tb (fun i j H2=>Q (.int (i + j)) H2) σ H
def tSub (ta tb:TE):TE:=fun σ H Q=>t2I ta tb (fun i j H2=>Q (.int (i - j)) H2) σ H
def tMul (ta tb:TE):TE:=fun σ H Q=>t2I ta tb (fun i j H2=>(-(2 ^ 64) < i∧i < 2 ^ 64)∧Q (.int (i * j)) H2) σ H
variable {a b:Expr} {ta tb:TE} {pos:Pos}
def PC (X:Cx) (op:CmpOp) (a b:Expr) (t:TE):Prop:=
  ∀ (pins:List (Addr×Obj)) (s:Shared) (σ:St) (H:Hp) (Q:VK),Inv X pins σ H s→t σ H Q→
    wpAny (model X.prog X.w) X.A (eval a X.env) (fun v s₁=>wpAny (model X.prog X.w) X.A (eval b X.env) (fun u s₂=>wpAny (model X.prog X.w) X.A (compareOp op v u) (EP X pins σ Q) X.xe s₂) X.xe s₁) X.xe s
def tCmp (p:Int→Int→Bool) (ta tb:TE):TE:=fun σ H Q=>t2I ta tb (fun i j H2=>Q (.bl (p i j)) H2) σ H
abbrev tLt:TE→TE→TE:=tCmp fun i j=>decide (i < j)
abbrev tLe:TE→TE→TE:=tCmp fun i j=>decide (i≤j)
abbrev tGt:TE→TE→TE:=tCmp fun i j=>decide (j < i)
abbrev tGe:TE→TE→TE:=tCmp fun i j=>decide (j≤i)
abbrev tEqI:TE→TE→TE:=tCmp fun i j=>decide (i = j)
abbrev tNeI:TE→TE→TE:=tCmp fun i j=>!decide (i = j)
def tIsN (ta:TE):TE:=fun σ H Q=>ta σ H fun x H1=>Q (.bl (decide (x = .non))) H1
def tNotN (ta:TE):TE:=fun σ H Q=>ta σ H fun x H1=>Q (.bl (!decide (x = .non))) H1
def tB (t:TE):TT:=fun σ H Q=>t σ H fun x H1=>∃c,x = .bl c∧Q c H1
theorem pt_cmp {op:CmpOp} {t:TE} (h:PC X op a b t) (h1:behindInMarks op b = false:=by first | exact nobehind _ (by decide) (by decide) | rfl):PT X (.Compare a [op] [b] pos) (tB t):=by
  intro pins s σ H Q I hw
  refine wpAny_isTrue_Compare1 (thn (h pins s σ H _ I hw) fun v s1 h1=>thn h1 fun u s2 h2=>thn h2 fun c s3 ⟨x,H1,I1,r1,q1⟩=>?_) h1
  obtain⟨d,rfl,q⟩:=q1
  cases r1
  exact wpAny_truthy_bool ⟨H1,I1,q⟩
theorem pt_val {e:Expr} {t:TE} (h:PE X e t) (he:∀whole,isTrue e X.env whole = (do let v←whole;standAt e.pos;holding [v] (truthy v)):=by intro _;rfl):PT X e (tB t):=by
  intro pins s σ H Q I hw
  refine isTrue_plain (thn (h pins s σ H _ I hw) fun v s1 ⟨x,H1,I1,r1,q1⟩=>?_) (he _)
  obtain⟨d,rfl,q⟩:=q1
  cases r1
  exact wpAny_truthy_bool ⟨H1,I1,q⟩
variable {tA tB':TT} {rest:List Expr}
def tAnd (t u:TT):TT:=fun σ H Q=>t σ H fun c H1=>if c = true then u σ H1 Q else Q false H1
def tOr (t u:TT):TT:=fun σ H Q=>t σ H fun c H1=>if c = true then Q true H1 else u σ H1 Q
def tNot (t:TT):TT:=fun σ H Q=>t σ H fun c H1=>Q (!c) H1
theorem pw_and1 (ha:PT X a tA):PW X (.BoolOp .And [a] pos) tA:=by
  intro wh pins s σ H Q I h
  refine isTrue_and (thn (ha pins s σ H Q I h) fun c s1 e=>?_)
  cases c with
  | true=>exact isTrue_and_nil e
  | false=>exact e
theorem pw_or1 (ha:PT X a tA):PW X (.BoolOp .Or [a] pos) tA:=by
  intro wh pins s σ H Q I h
  refine isTrue_or (thn (ha pins s σ H Q I h) fun c s1 e=>?_)
  cases c with
  | false=>exact isTrue_or_nil e
  | true=>exact e
theorem pw_and (ha:PT X a tA) (hb:PW X (.BoolOp .And (b :: rest) pos) tB'):PW X (.BoolOp .And (a :: b :: rest) pos) (tAnd tA tB'):=by
  intro wh pins s σ H Q I h
  refine isTrue_and (thn (ha pins s σ H _ I h) fun c s1 ⟨H1,I1,q1⟩=>?_)
  cases c with
  | true=>exact hb wh pins s1 σ H1 Q I1 q1
  | false=>exact⟨H1,I1,q1⟩
theorem pw_or (ha:PT X a tA) (hb:PW X (.BoolOp .Or (b :: rest) pos) tB'):PW X (.BoolOp .Or (a :: b :: rest) pos) (tOr tA tB'):=by
  intro wh pins s σ H Q I h
  refine isTrue_or (thn (ha pins s σ H _ I h) fun c s1 ⟨H1,I1,q1⟩=>?_)
  cases c with
  | true=>exact⟨H1,I1,q1⟩
  | false=>exact hb wh pins s1 σ H1 Q I1 q1
theorem pt_not (ha:PT X a tA):PT X (.UnaryOp .Not a pos) (tNot tA):=by
  intro pins s σ H Q I h
  exact isTrue_not (ha pins s σ H (fun c H1=>Q (!c) H1) I h)
def tAndV (ta tb:TE):TE:=fun σ H Q=>ta σ H fun x H1=>∃c,x = .bl c∧if c = true then tb σ H1 Q else Q (.bl false) H1
def tOrV (ta tb:TE):TE:=fun σ H Q=>ta σ H fun x H1=>∃c,x = .bl c∧if c = true then Q (.bl true) H1 else tb σ H1 Q
def tNotV (ta:TE):TE:=fun σ H Q=>ta σ H fun x H1=>∃c,x = .bl c∧Q (.bl (!c)) H1
theorem pe_one {op} {t:TE} (h:PE X a t):PE X (.BoolOp op [a] pos) t:=fun pins s σ H Q I hw=>BoolOp_one (h pins s σ H Q I hw)
theorem pe_and (ha:PE X a ta) (hb:PE X (.BoolOp .And (b :: rest) pos) tb):PE X (.BoolOp .And (a :: b :: rest) pos) (tAndV ta tb):=by
  intro pins s σ H Q I h
  refine BoolOp_and (thn (ha pins s σ H _ I h) fun v s1 ⟨x,H1,I1,r1,q1⟩=>?_)
  obtain⟨c,rfl,q1⟩:=q1
  cases r1
  refine wpAny_truthy_bool ?_
  cases c with
  | true=>exact hb pins s1 σ H1 Q I1 q1
  | false=>exact⟨.bl false,H1,I1,rfl,q1⟩
theorem pe_not (ha:PE X a ta):PE X (.UnaryOp .Not a pos) (tNotV ta):=by
  intro pins s σ H Q I h
  refine UnaryOp_ (thn (ha pins s σ H _ I h) fun v s1 ⟨x,H1,I1,r1,q1⟩=>?_)
  obtain⟨c,rfl,q1⟩:=q1
  cases r1
  exact not_of (wpAny_truthy_bool ⟨.bl (!c),H1,I1,rfl,q1⟩)
def tIf (t:TT) (ta tb:TE):TE:=fun σ H Q=>t σ H fun c H1=>if c = true then ta σ H1 Q else tb σ H1 Q
theorem pe_ifExp {c:Expr} (hc:PT X c tA) (ha:PE X a ta) (hb:PE X b tb):PE X (.IfExp c a b pos) (tIf tA ta tb):=by
  intro pins s σ H Q I h
  refine wpAny_IfExp (thn (hc pins s σ H _ I h) fun d s1 ⟨H1,I1,q1⟩=>?_)
  cases d with
  | true=>exact ha pins s1 σ H1 Q I1 q1
  | false=>exact hb pins s1 σ H1 Q I1 q1
end
end L2
namespace L2
open PySem PySem.Spec PyProof.Rows
def SqL (K:PySem.W.Frag) (H:Hp) (a:Addr) (xs:List V):Prop:=
  Rd H a (.lst xs)∨
    ∃(o:Obj) (its:Array Value) (n:Nat),K.lookup a = some o∧o.cls = .type "list"∧o.dict = none∧o.data = .seq its n∧its.size≤sizeLine∧Vals xs its.toList
def SqT (K:PySem.W.Frag) (H:Hp) (a:Addr) (xs:List V):Prop:=
  Rd H a (.tup xs)∨
    ∃(o:Obj) (its:Array Value) (n:Nat),K.lookup a = some o∧o.cls = .type "tuple"∧o.data = .seq its n∧its.size≤sizeLine∧Vals xs its.toList
def absV:Value→Option V
  | .none=>some .non
  | .bool b=>some (.bl b)
  | .int i _=>some (.int i)
  | .str x _=>some (.str x)
  | .bytes b _=>some (.byt b)
  | .float b _=>some (.flt b)
  | .ref a=>some (.ref a)
  | .type n=>some (.ty n)
  | _=>none
theorem RelV.abs {x:V} {u:Value} (r:RelV x u):absV u = some x:=by
  cases x with
  | non=>cases r;rfl
  | bl _=>cases r;rfl
  | int _=>obtain⟨t,rfl⟩:=r;rfl
  | str _=>obtain⟨t,rfl⟩:=r;rfl
  | byt _=>obtain⟨t,rfl⟩:=r;rfl
  | flt _=>obtain⟨t,rfl⟩:=r;rfl
  | ref _=>cases r;rfl
  | ty _=>cases r;rfl
theorem RelV.inj {x y:V} {u:Value} (r:RelV x u) (q:RelV y u):x = y:=Option.some.inj (r.abs.symm.trans q.abs)
theorem Vals.inj:∀{xs ys:List V} {us:List Value},Vals xs us→Vals ys us→xs = ys
  | _,_,_,.nil,.nil=>rfl
  | _,_,_,.cons r t,.cons r' t'=>by rw [r.inj r',Vals.inj t t']
section
variable {X:Cx} {pins:List (Addr×Obj)} {σ:St} {H:Hp} {s:Shared} {a:Addr} {xs ys:List V}
theorem SqL.of {K:PySem.W.Frag} (h:H a = some (.lst xs)):SqL K H a xs:= .inl (.inl h)
theorem SqT.of {K:PySem.W.Frag} (h:H a = some (.tup xs)):SqT K H a xs:= .inl (.inl h)
theorem Inv.list (I:Inv X pins σ H s) (h:SqL X.K H a xs):∃its:List Value,Vals xs its∧PlainL s.heap a its.toArray∧xs.length≤sizeLine:=by
  rcases h with h | ⟨o,its,n,hk,hc,hd,hs,hz,r⟩
  · obtain⟨z,its,n,r,e⟩:=h.ok I.hok
    exact⟨its,r,⟨_,n,e,rfl,rfl,rfl⟩,z⟩
  · refine⟨its.toList,r,⟨o,n,I.kIn a o hk,hc,hd,by simpa using hs⟩,?_⟩
    have e:=r.length
    simp only [Array.length_toList] at e
    omega
theorem Inv.tuple (I:Inv X pins σ H s) (h:SqT X.K H a xs):∃its:List Value,Vals xs its∧IsTup s.heap a its.toArray∧xs.length≤sizeLine:=by
  rcases h with h | ⟨o,its,n,hk,hc,hs,hz,r⟩
  · obtain⟨z,its,r,p⟩:=h.ok I.hok
    exact⟨its,r,p,z⟩
  · refine⟨its.toList,r,⟨o,I.kIn a o hk,hc,n,by simpa using hs⟩,?_⟩
    have e:=r.length
    simp only [Array.length_toList] at e
    omega
theorem Inv.list_inj (I:Inv X pins σ H s) (h:SqL X.K H a xs) (h':SqL X.K H a ys):xs = ys:=by
  obtain⟨its,r,⟨o,n,e,_,_,d⟩,_⟩:=I.list h
  obtain⟨its',r',⟨o',n',e',_,_,d'⟩,_⟩:=I.list h'
  rw [e] at e';cases e'
  rw [d] at d'
  injection d' with d1 _
  have:its = its':=by simpa using congrArg Array.toList d1
  subst this
  exact r.inj r'
end
abbrev Cx.wish (X:Cx) (E:Value→Shared→Prop):Cx:={ X with xe:=E }
abbrev Cx.nox (X:Cx):Cx:=X.wish fun _ _=>False
theorem Cx.Ok.wish {X:Cx} (ok:X.Ok) (E:Value→Shared→Prop):(X.wish E).Ok:=
  ⟨ok.mod,ok.kind,ok.glob,ok.blt,ok.above,ok.inj,ok.has,ok.cab,ok.hd,ok.frames,ok.stk,ok.exf,ok.bs,ok.bsz,ok.noex,ok.exfs,ok.funs,ok.frf⟩
theorem Cx.Ok.unwish {X:Cx} {E:Value→Shared→Prop} (ok:(X.wish E).Ok):X.Ok:=
  ⟨ok.mod,ok.kind,ok.glob,ok.blt,ok.above,ok.inj,ok.has,ok.cab,ok.hd,ok.frames,ok.stk,ok.exf,ok.bs,ok.bsz,ok.noex,ok.exfs,ok.funs,ok.frf⟩
section
variable {X:Cx} {pins:List (Addr×Obj)} {σ:St} {H:Hp} {s:Shared} {E:Value→Shared→Prop}
theorem Inv.wish (I:Inv X pins σ H s) (E:Value→Shared→Prop):Inv (X.wish E) pins σ H s:=⟨I.ok.wish E,I.os,I.bare,I.base,I.loc,I.cell,I.free,I.freeC,I.pin,I.hok,I.len⟩
theorem Inv.unwish (I:Inv (X.wish E) pins σ H s):Inv X pins σ H s:=⟨I.ok.unwish,I.os,I.bare,I.base,I.loc,I.cell,I.free,I.freeC,I.pin,I.hok,I.len⟩
theorem SP.unwish {D:Ends} {f:Flow} {s':Shared} (h:SP (X.wish E) pins D f s'):SP X pins D f s':=by
  cases f with
  | next=>obtain⟨σ',H',I,q⟩:=h;exact⟨σ',H',I.unwish,q⟩
  | brk=>obtain⟨σ',H',I,q⟩:=h;exact⟨σ',H',I.unwish,q⟩
  | cont=>obtain⟨σ',H',I,q⟩:=h;exact⟨σ',H',I.unwish,q⟩
  | ret u=>obtain⟨v,σ',H',I,r,q⟩:=h;exact⟨v,σ',H',I.unwish,r,q⟩
theorem PSs.nox {st:List Stmt} {t:TS} (h:PSs X.nox st t):PSs X st t:=fun pins s σ H D I hw=>
  wpAny_mono (h pins s σ H D (I.wish _) hw) (fun _ _ q=>q.unwish) fun _ _ z=>False.elim z
end
section
variable {X:Cx} {st:Stmt} {rest:List Stmt} {t u:TS} {e:Expr} {te:TE} {pos:Pos}
def tNext:TS:=fun D σ H=>D.nx σ H
def tSeq (t u:TS):TS:=fun D σ H=>t { D with nx:=u D } σ H
theorem pss_nil:PSs X [] tNext:=fun _ _ σ H _ I h=>wpAny_execs_nil ⟨σ,H,I,h⟩
theorem pss_cons (h1:PS X st t) (h2:PSs X rest u):PSs X (st :: rest) (tSeq t u):=by
  intro pins s σ H D I h
  refine wpAny_execs_cons (thn (h1 pins s σ H { D with nx:=u D } I h) fun f s1 q=>?_)
  cases f with
  | next=>
    obtain⟨σ',H',I',q⟩:=q
    exact h2 pins s1 σ' H' D I' q
  | ret v=>exact q
  | brk=>exact q
  | cont=>exact q
theorem pss_one (h1:PS X st t):PSs X [st] t:=by
  intro pins s σ H D I h
  refine wpAny_execs_cons (thn (h1 pins s σ H D I h) fun f s1 q=>?_)
  cases f with
  | next=>exact wpAny_execs_nil q
  | ret v=>exact q
  | brk=>exact q
  | cont=>exact q
def tBreak:TS:=fun D σ H=>D.bk σ H
def tCont:TS:=fun D σ H=>D.ct σ H
theorem Inv.quiet {pins:List (Addr×Obj)} {σ:St} {H:Hp} {s:Shared} (I:Inv X pins σ H s):interactive X.env = false:=by simp [interactive,I.ok.kind]
def tDrop (te:TE):TS:=fun D σ H=>te σ H fun _ H1=>D.nx σ H1
theorem ps_expr (he:PE X e te) (hs:swapsWith e none pos.line X.env = pure false:=by rfl):PS X (.Expr e pos) (tDrop te):=by
  intro pins s σ H D I h
  exact wpAny_Expr_any (thn (he pins s σ H _ I h) fun v s1 ⟨x,H1,I1,r1,q1⟩=>⟨σ,H1,I1,q1⟩) I.quiet hs
def tRet (te:TE):TS:=fun D σ H=>te σ H D.rt
theorem ps_ret (he:PE X e te):PS X (.Return (some e) pos) (tRet te):=by
  intro pins s σ H D I h
  exact wpAny_Return_some (thn (he pins s σ H _ I h) fun v s1 ⟨x,H1,I1,r1,q1⟩=>⟨x,σ,H1,I1,r1,q1⟩)
def tRetN:TS:=fun D _ H=>D.rt .non H
def tIfS (c:TT) (t u:TS):TS:=fun D σ H=>c σ H fun b H1=>if b = true then t D σ H1 else u D σ H1
theorem ps_if {c:Expr} {a b:List Stmt} {tc:TT} (hc:PT X c tc) (ha:PSs X a t) (hb:PSs X b u):PS X (.If c a b pos) (tIfS tc t u):=by
  intro pins s σ H D I h
  refine wpAny_If (thn (hc pins s σ H _ I h) fun d s1 ⟨H1,I1,q1⟩=>?_)
  cases d with
  | true=>exact ha pins s1 σ H1 D I1 q1
  | false=>exact hb pins s1 σ H1 D I1 q1
def tNever:TS:=fun _ _ _=>False
end
abbrev TG:=V→St→Hp→(St→Hp→Prop)→Prop
abbrev TGs:=List V→St→Hp→(St→Hp→Prop)→Prop
def PG (X:Cx) (target:Expr) (t:TG):Prop:=
  ∀ (pins:List (Addr×Obj)) (s:Shared) (σ:St) (H:Hp) (v:V) (u:Value) (Q:St→Hp→Prop),Inv X pins σ H s→RelV v u→t v σ H Q→
    wpAny (model X.prog X.w) X.A (assign target X.env u) (fun _ s'=>∃σ' H',Inv X pins σ' H' s'∧Q σ' H') X.xe s
def PGs (X:Cx) (ts:List Expr) (t:TGs):Prop:=
  ∀ (pins:List (Addr×Obj)) (s:Shared) (σ:St) (H:Hp) (vs:List V) (us:List Value) (Q:St→Hp→Prop),Inv X pins σ H s→Vals vs us→t vs σ H Q→
    wpAny (model X.prog X.w) X.A (assignInOrder ((assignEach ts X.env).map (·.2)) us) (fun _ s'=>∃σ' H',Inv X pins σ' H' s'∧Q σ' H') X.xe s
abbrev TSet:=V→V→V→Hp→(Hp→Prop)→Prop
def PSet (X:Cx) (t:TSet):Prop:=
  ∀ (pins:List (Addr×Obj)) (s:Shared) (σ:St) (H:Hp) (o i v:V) (ov iv u:Value) (Q:Hp→Prop),Inv X pins σ H s→RelV o ov→RelV i iv→RelV v u→t o i v H Q→
    wpAny (model X.prog X.w) X.A (setItem ov iv u) (fun _ s'=>∃H',Inv X pins σ H' s'∧Q H') X.xe s
abbrev TIp:=V→V→Hp→VK→Prop
def PIp (X:Cx) (op:Operator) (t:TIp):Prop:=
  ∀ (pins:List (Addr×Obj)) (s:Shared) (σ:St) (H:Hp) (x y:V) (v u:Value) (Q:VK),Inv X pins σ H s→RelV x v→RelV y u→t x y H Q→
    wpAny (model X.prog X.w) X.A (inplaceOp op v u) (EP X pins σ Q) X.xe s
section
variable {X:Cx} {pos:Pos}
def gName (i:Nat):TG:=fun v σ H Q=>Q (σ.set i (some v)) H
theorem pg_name {i:Nat} {x:Str} (hN:X.N.Nodup) (hi:X.N[i]? = some x) (hx:Loc X.env.scope x) (hf:X.fn x = true∨X.env.scope.names.lookup x = some .local:=by first | exact .inl rfl | exact .inr rfl | assumption):PG X (.Name x pos) (gName i):=by
  intro pins s σ H v u Q I r h
  exact wpAny_assign_Name (store_ok I hN hi hx r (fun s' I'=>⟨_,H,I',h⟩) hf)
def gNil:TGs:=fun vs σ H Q=>vs = []∧Q σ H
def gCons (t:TG) (u:TGs):TGs:=fun vs σ H Q=>∃v r,vs = v :: r∧t v σ H fun σ' H'=>u r σ' H' Q
theorem pgs_nil:PGs X [] gNil:=by
  intro pins s σ H vs us Q I r h
  obtain⟨e,h⟩:=h
  subst e
  cases r
  exact assignInOrder_nil ⟨σ,H,I,h⟩
theorem pgs_cons {e:Expr} {es:List Expr} {t:TG} {u:TGs} (h1:PG X e t) (h2:PGs X es u)
    (hs:(assignEach (e :: es) X.env).map (·.2) = assign e X.env :: (assignEach es X.env).map (·.2):=by rfl):PGs X (e :: es) (gCons t u):=by
  intro pins s σ H vs us Q I r h
  obtain⟨v,vr,e1,h⟩:=h
  subst e1
  cases r with
  | cons r rr=>
    rw [hs]
    refine assignInOrder_cons (thn (h1 pins s σ H _ _ _ I r h) fun _ s1 ⟨σ1,H1,I1,q1⟩=>?_)
    exact h2 pins s1 σ1 H1 _ _ Q I1 rr q1
def gTup (K:PySem.W.Frag) (n:Nat) (t:TGs):TG:=fun v σ H Q=>∃a xs,v = .ref a∧SqT K H a xs∧xs.length = n∧t xs σ H Q
theorem pg_tup {es:List Expr} {k:Nat} {t:TGs} {n:Nat} (hc:X.calm = true) (h:PGs X es t)
    (hn:(assignEach es X.env).length = n:=by rfl) (hst:(assignEach es X.env).findIdx? (·.1) = none:=by rfl):PG X (.Tuple es k pos) (gTup X.K n t):=by
  intro pins s σ H v u Q I r hw
  obtain⟨a,xs,e1,hq,hl,hw⟩:=hw
  subst e1
  cases r
  obtain⟨its,rv,ht,hz⟩:=I.tuple hq
  refine assign_Tuple_tuple (I.ok.hd hc) ht (by simp [hn,←hl,rv.length]) hst fun h' hx=>?_
  have I1:Inv X pins σ H { s with heap:=h' }:=I.kept (t':=s.toks) fun b o e=>hx b o (Nat.ne_of_lt (Heap.lt_size e)) e
  exact h pins _ σ H xs _ Q I1 (by simpa using rv) hw
def gSub (to ti:TE) (t:TSet):TG:=fun v σ H Q=>to σ H fun o H1=>ti σ H1 fun i H2=>t o i v H2 fun H3=>Q σ H3
theorem pg_sub {o i:Expr} {to ti:TE} {t:TSet} (ho:PE X o to) (hi:PE X i ti) (hs:PSet X t)
    (ha:∀v,assign (.Subscript o i pos) X.env v = (do
      let ov←holding [v] (eval o X.env)
      let iv←holding [v,ov] (eval i X.env)
      standAt pos
      holding [v,ov,iv] (setItem ov iv v)
      release [v,ov,iv] []):=by intro _;rfl):PG X (.Subscript o i pos) (gSub to ti t):=by
  intro pins s σ H v u Q I r h
  rw [ha]
  refine wpAny_bind (wpAny_holding (thn (ho pins s σ H _ I h) fun ov s1 ⟨x,H1,I1,r1,q1⟩=>?_))
  refine wpAny_bind (wpAny_holding (thn (hi pins s1 σ H1 _ I1 q1) fun iv s2 ⟨y,H2,I2,r2,q2⟩=>?_))
  refine wpAny_bind (wpAny_standAt (wpAny_bind (wpAny_holding (thn (hs pins s2 σ H2 x y v ov iv u _ I2 r1 r2 r q2) fun _ s3 ⟨H3,I3,q3⟩=>?_))))
  exact wpAny_release ⟨σ,H3,I3,q3⟩
def tAsg (te:TE) (g:TG):TS:=fun D σ H=>te σ H fun x H1=>g x σ H1 D.nx
theorem ps_asg {tg e:Expr} {te:TE} {g:TG} (he:PE X e te) (hg:PG X tg g) (hs:swapsWithSole [tg] e pos.line X.env = pure false:=by rfl) (hw:swappedStores [tg] e X.env = pure none:=by rfl)
    (h1:(assignEach [tg] X.env).map (·.2) = [assign tg X.env]:=by rfl):PS X (.Assign [tg] e pos) (tAsg te g):=by
  intro pins s σ H D I h
  refine wpAny_Assign_stores (thn (he pins s σ H _ I h) fun v s1 ⟨x,H1,I1,r1,q1⟩=>?_) hs hw
  rw [h1]
  exact thn (hg pins s1 σ H1 x v _ I1 r1 q1) fun _ s2 q=>q
theorem ps_set {i:Nat} {x:Str} {e:Expr} {te:TE} {pos':Pos} (hN:X.N.Nodup) (hi:X.N[i]? = some x) (hx:Loc X.env.scope x) (he:PE X e te) (hs:swapsWith e (some (.Name x pos')) pos.line X.env = pure false:=by rfl) (hf:X.fn x = true∨X.env.scope.names.lookup x = some .local:=by first | exact .inl rfl | exact .inr rfl | assumption) :
    PS X (.Assign [.Name x pos'] e pos) (tAsg te (gName i)):=by
  intro pins s σ H D I h
  refine wpAny_Assign_Name (thn (he pins s σ H _ I h) fun v s1 ⟨y,H1,I1,r1,q1⟩=>?_) hs
  exact store_ok I1 hN hi hx r1 (fun s2 I2=>⟨_,H1,I2,q1⟩) hf
def tPar (i j:Nat) (ta:TA):TS:=fun D σ H=>ta σ H fun vs H1=>∃v w,vs = [v,w]∧D.nx ((σ.set i (some v)).set j (some w)) H1
def tAug (i:Nat) (te:TE) (ti:TIp):TS:=fun D σ H=>∃x,σ[i]? = some (some x)∧te σ H fun y H1=>ti x y H1 fun z H2=>D.nx (σ.set i (some z)) H2
def tAugS (to ti te:TE) (tget:V→V→Hp→VK→Prop) (tip:TIp) (tset:TSet):TS:=fun D σ H=>to σ H fun o H1=>ti σ H1 fun i H2=>tget o i H2 fun x H3=>te σ H3 fun y H4=>tip x y H4 fun z H5=>tset o i z H5 fun H6=>D.nx σ H6
def PGet (X:Cx) (t:V→V→Hp→VK→Prop):Prop:=
  ∀ (pins:List (Addr×Obj)) (s:Shared) (σ:St) (H:Hp) (o i:V) (ov iv:Value) (Q:VK),Inv X pins σ H s→RelV o ov→RelV i iv→t o i H Q→
    wpAny (model X.prog X.w) X.A (getItem ov iv) (EP X pins σ Q) X.xe s
def ipI (f:Int→Int→Int):TIp:=fun x y H Q=>∃i j,x = .int i∧y = .int j∧Q (.int (f i j)) H
end
section
variable {X:Cx} {pos:Pos}
def tWhile (c:TT) (tb:TS):TS:=fun D σ H=>∃W:Nat→St→Hp→Prop,(∃m,W m σ H)∧∀m σ H,W m σ H→
  c σ H fun b H1=>if b = true then ∃N:St→Hp→Prop,(∀σ' H',N σ' H'→∃m',m' < m∧W m' σ' H')∧tb { D with nx:=N,ct:=N,bk:=D.nx } σ H1 else D.nx σ H1
end
structure It where
  go:Nat→Hp→Prop
  yld:Nat→Hp→V→Hp→Prop
  stop:Nat→Hp→Prop
def FpOk (X:Cx) (pins:List (Addr×Obj)) (H:Hp) (b:Addr):Prop:=
  H b = none∧b≠X.env.locals∧b∉X.fs∧(b∈X.ex∨X.s₀.heap.objs.size≤b)∧(∀x c,X.env.cells.lookup x = some c→c≠b)∧∀p∈X.pn ++ pins,p.1≠b
theorem Inv.fpOk {X:Cx} {pins:List (Addr×Obj)} {σ:St} {H H':Hp} {s:Shared} {b:Addr} (I:Inv X pins σ H s) (hb:s.heap.objs.size≤b) (hn:H' b = none):FpOk X pins H' b:=by
  refine⟨hn,Nat.ne_of_gt (Nat.lt_of_lt_of_le I.lt hb),I.nofs hb,.inr (Nat.le_trans I.sz hb),fun x c e z=>?_,fun p hp z=>?_⟩
  · obtain⟨v,q⟩:=I.cell x c e
    exact absurd (Nat.lt_of_lt_of_le q.lt (by rw [z];exact hb)) (Nat.lt_irrefl _)
  · exact absurd (Nat.lt_of_lt_of_le (Heap.lt_size (I.pin p hp).1) (by rw [z];exact hb)) (Nat.lt_irrefl _)
structure Turn (P:Program) (w:World) (K:PySem.W.Frag) (tg:Expr) (J:It) (fp:List Addr) (it:Addr) (tn:Nat→Heap→Prop):Prop where
  mem:it∈fp
  obj:∀i h,tn i h→∀b∈fp,∃o,h.get? b = some o∧∀v,o.data≠ .cell v
  keep:∀i h h',tn i h→(∀b∈fp,∀o,h.get? b = some o→h'.get? b = some o)→tn i h'
  item :∀(X:Cx),X.prog = P→X.w = w→X.K = K→X.calm = true→∀(i:Nat) (pins:List (Addr×Obj)) (s:Shared) (σ:St) (H:Hp) (E:Value→Shared→Prop),Inv X pins σ H s→(∀b∈fp,FpOk X pins H b)→tn i s.heap→J.go i H→
    wpAny (model P w) X.A (pyNext (.ref it)) (fun r s1=>∃u,r = some u∧
      wpAny (model P w) X.A (letOwnedTupleGo tg (.ref it) u) (fun _ s2=>∃x H',Inv X pins σ H' s2∧RelV x u∧J.yld i H x H'∧tn (i + 1) s2.heap∧∀b∈fp,H' b = none) E s1) E s
  done:∀(X:Cx),X.prog = P→X.w = w→X.K = K→X.calm = true→∀(i:Nat) (pins:List (Addr×Obj)) (s:Shared) (σ:St) (H:Hp) (E:Value→Shared→Prop),Inv X pins σ H s→(∀b∈fp,FpOk X pins H b)→tn i s.heap→J.stop i H→
    wpAny (model P w) X.A (pyNext (.ref it)) (fun r s1=>r = none∧Inv X pins σ H s1) E s
  self:∀(A:Around) (i:Nat) (s:Shared) (Q:Value→Shared→Prop) (E:Value→Shared→Prop),tn i s.heap→Q (.ref it) s→wpAny (model P w) A (pyIter (.ref it)) Q E s
abbrev TI:=St→Hp→(It→Hp→Prop)→Prop
def PIE (X:Cx) (pins:List (Addr×Obj)) (σ:St) (tg:Expr) (R:It→Hp→Prop) (itv:Value) (s2:Shared):Prop:=
  ∃(it:Addr) (fp:List Addr) (tn:Nat→Heap→Prop) (J:It) (H':Hp),itv = .ref it∧Inv X pins σ H' s2∧Turn X.prog X.w X.K tg J fp it tn∧tn 0 s2.heap∧(∀b∈fp,FpOk X pins H' b)∧R J H'
def PI (X:Cx) (tg iter:Expr) (wi:TI):Prop:=
  ∀ (pins:List (Addr×Obj)) (s:Shared) (σ:St) (H:Hp) (R:It→Hp→Prop),Inv X pins σ H s→wi σ H R→
    wpAny (model X.prog X.w) X.A (eval iter X.env) (fun v s1=>wpAny (model X.prog X.w) X.A (pyIter v) (PIE X pins σ tg R) X.xe s1) X.xe s
theorem go_of {M:Model} {A:Around} {E:Value→Shared→Prop} {s:Shared} {tg:Expr} {it:Addr} {u:Value} {o:Obj} {n:String} {vs:Array Value} {Q:Unit→Shared→Prop} (ho:s.heap.get? it = some o) (hc:o.cls = .type n) (hd:o.data = .fields vs)
    (hn:["enumerate","zip","dict_itemiterator","dict_reverseitemiterator","odict_iterator","itertools.zip_longest","itertools.pairwise"].contains n = false) (hQ:Q () s):wpAny M A (letOwnedTupleGo tg (.ref it) u) Q E s:=by
  unfold letOwnedTupleGo
  cases tg <;> first
    | exact wpAny_pure hQ
    | (cases u <;> first
        | exact wpAny_pure hQ
        | (refine wpAny_bind (wpAny_load ho ?_)
           rw [hc,hd]
           show wpAny M A (if (["enumerate","zip","dict_itemiterator","dict_reverseitemiterator","odict_iterator","itertools.zip_longest","itertools.pairwise"].contains n && vs[0]? == some (rawInt _)) = true then _ else _) Q E s
           rw [if_neg (by intro h;rw [hn,Bool.false_and] at h;cases h)]
           exact wpAny_pure hQ))
def Itl (K:PySem.W.Frag) (a:Addr):It:=
  ⟨fun i H=>∃xs x,SqL K H a xs∧xs[i]? = some x,fun i H x H'=>H' = H∧∀xs,SqL K H a xs→xs[i]? = some x,fun i H=>∃xs,SqL K H a xs∧xs.length≤i⟩
def Itt (K:PySem.W.Frag) (a:Addr):It:=
  ⟨fun i H=>∃xs x,SqT K H a xs∧xs[i]? = some x,fun i H x H'=>H' = H∧∀xs,SqT K H a xs→xs[i]? = some x,fun i H=>∃xs,SqT K H a xs∧xs.length≤i⟩
def Itr (lo:Int) (n:Nat):It:=⟨fun i _=>i < n,fun i H x H'=>H' = H∧x = .int (lo + i),fun i _=>n≤i⟩
theorem turn_list {P:Program} {w:World} {K:PySem.W.Frag} {tg:Expr} (a it:Addr):Turn P w K tg (Itl K a) [it] it (fun i h=>h.IsListIter it a i) where
  mem:=by simp
  obj:=fun i h st b hb=>by
    have e:b = it:=by simpa using hb
    subst e
    obtain⟨o,e,c,d⟩:=st
    exact⟨o,e,fun v z=>by rw [d] at z;cases z⟩
  keep:=fun i h h' st k=>st.at fun o e=>k it (by simp) o e
  item:=by
    intro X hP hw hK hc i pins s σ H E I hf st hg
    subst hP hw hK
    obtain⟨xs,x,hq,hx⟩:=hg
    obtain⟨its,rv,p,hz⟩:=I.list hq
    obtain⟨u,hu,ru⟩:=rv.get hx
    obtain⟨f0,f1,f2,f3,f4,f5⟩:=hf it (by simp)
    refine wpAny_pyNext_list_item st p.isList (x:=u) (by simpa using hu) fun h' st' sb=>?_
    have I1:Inv X pins σ H { s with heap:=h' }:=I.turned (t':=s.toks) (fun b o hb e=>(sb.2 b hb).trans e) f0 f1 f3 f4 f5
    obtain⟨o,e,c,d⟩:=id st'
    exact⟨u,rfl,go_of (s:={ s with heap:=h' }) e c d (by decide) ⟨x,H,I1,ru,⟨rfl,fun ys hy=>by rw [I.list_inj hy hq];exact hx⟩,st',fun b hb=>(hf b hb).1⟩⟩
  done:=by
    intro X hP hw hK hc i pins s σ H E I hf st hg
    subst hP hw hK
    obtain⟨xs,hq,hx⟩:=hg
    obtain⟨its,rv,p,hz⟩:=I.list hq
    obtain⟨f0,f1,f2,f3,f4,f5⟩:=hf it (by simp)
    have hl:=rv.length
    exact wpAny_pyNext_list_end (I.ok.hd hc) st p.isList (by simp;omega) fun h' eb=>⟨rfl,I.turned (t':=s.toks) (fun b o hb e=>eb b o hb e) f0 f1 f3 f4 f5⟩
  self:=fun _ _ _ _ _ st h=>wpAny_pyIter_listiter st h
theorem turn_range {P:Program} {w:World} {K:PySem.W.Frag} {tg:Expr} (it:Addr) (lo:Int) (n:Nat):Turn P w K tg (Itr lo n) [it] it (fun i h=>IsRangeIter h it (lo + (i:Nat) * 1) ((n:Int) - (i:Nat)) 1) where
  mem:=by simp
  obj :=fun i h st b hb=>by
    have e:b = it:=by simpa using hb
    subst e
    exact⟨_,st,fun v z=>by
      have z':Data.fields _ = Data.cell v:=z
      cases z'⟩
  keep:=fun i h h' st k=>k it (by simp) _ st
  item:=by
    intro X hP hw hK hc i pins s σ H E I hf st hg
    subst hP hw hK
    obtain⟨f0,f1,f2,f3,f4,f5⟩:=hf it (by simp)
    have W:=Walks.range (prog:=X.prog) (w:=X.w) (I.ok.hd hc) it lo 1 n
    refine W.item i s _ _ hg st fun v h' tk hv st' kk=>?_
    obtain⟨t,rfl⟩:=hv
    have I1:Inv X pins σ H { s with heap:=h',toks:=tk }:=I.turned (fun b o hb e=>kk b o (by simpa using hb) e) f0 f1 f3 f4 f5
    refine⟨_,rfl,go_of (s:={ s with heap:=h',toks:=tk }) (n:="range_iterator") st' rfl rfl (by decide) ⟨.int (lo + i),H,I1,⟨t,?_⟩,⟨rfl,rfl⟩,st',fun b hb=>(hf b hb).1⟩⟩
    rw [Int.mul_one]
  done:=by
    intro X hP hw hK hc i pins s σ H E I hf st hg
    subst hP hw hK
    obtain⟨f0,f1,f2,f3,f4,f5⟩:=hf it (by simp)
    exact wpAny_pyNext_range_end (I.ok.hd hc) st (by have:n≤i:=hg;omega) fun h' eb=>⟨rfl,I.turned (t':=s.toks) (fun b o hb e=>eb b o hb e) f0 f1 f3 f4 f5⟩
  self:=fun _ _ _ _ _ st h=>wpAny_pyIter_rangeiter st h
end L2
namespace L2
open PySem PySem.Spec PyProof.Rows
section
variable {X:Cx} {tg:Expr}
def iList (K:PySem.W.Frag) (tl:TE):TI:=fun σ H R=>tl σ H fun x H1=>∃a,x = .ref a∧(∃xs,SqL K H1 a xs)∧R (Itl K a) H1
def iTup (K:PySem.W.Frag) (tl:TE):TI:=fun σ H R=>tl σ H fun x H1=>∃a,x = .ref a∧(∃xs,SqT K H1 a xs)∧R (Itt K a) H1
theorem pi_list {l:Expr} {tl:TE} (hl:PE X l tl):PI X tg l (iList X.K tl):=by
  intro pins s σ H R I h
  refine thn (hl pins s σ H _ I h) fun v s1 ⟨x,H1,I1,r1,q1⟩=>?_
  obtain⟨a,e,⟨xs,hq⟩,q⟩:=q1
  subst e
  cases r1
  obtain⟨its,rv,p,hz⟩:=I1.list hq
  refine wpAny_pyIter_list p.isList ?_
  refine⟨s1.heap.objs.size, [s1.heap.objs.size],_,_,H1,rfl,I1.kept (t':=s1.toks) fun b o e=>Heap.get?_push_of_some _ e,turn_list a _,⟨_,Heap.get?_push_size _ rfl,rfl,rfl⟩,fun b hb=>?_,q⟩
  have e:b = s1.heap.objs.size:=by simpa using hb
  subst e
  exact I1.fpOk (Nat.le_refl _) (I1.hok.fresh (Nat.le_refl _))
theorem range_it {pins:List (Addr×Obj)} {σ:St} {H:Hp} {s:Shared} {R:It→Hp→Prop} {E:Value→Shared→Prop} {lo hi:Int} {t u v:Tok} {tk:Nat} (I:Inv X pins σ H s) (h1: -(2 ^ 62)≤lo) (h2:lo < 2 ^ 62) (h3: -(2 ^ 62)≤hi) (h4:hi < 2 ^ 62)
    (q:R (Itr lo (hi - lo).toNat) H):wpAny (model X.prog X.w) X.A (pyIter (.ref s.heap.objs.size)) (PIE X pins σ tg R) E { s with heap:=s.heap.push { cls:= .type "range",data:= .fields #[.int lo t,.int hi u,.int 1 v] },toks:=tk }:=by
  refine wpAny_pyIter_range (IsRange.new ..) (small_one h1 h2 h3 h4) ?_
  have I1:Inv X pins σ H { s with heap:=s.heap.push { cls:= .type "range",data:= .fields #[.int lo t,.int hi u,.int 1 v] },toks:=tk }:=I.kept fun b o e=>Heap.get?_push_of_some _ e
  refine⟨(s.heap.push { cls:= .type "range",data:= .fields #[.int lo t,.int hi u,.int 1 v] }).objs.size, [(s.heap.push { cls:= .type "range",data:= .fields #[.int lo t,.int hi u,.int 1 v] }).objs.size],_,_,H,rfl,
    I1.kept (t':=tk) fun b o e=>Heap.get?_push_of_some _ e,turn_range _ lo (hi - lo).toNat,?_,fun b hb=>?_,q⟩
  · have e1:lo + ((0:Nat):Int) * 1 = lo:=by simp
    have e2:(((hi - lo).toNat:Nat):Int) - ((0:Nat):Int) = Builtin.Range.rangeSize lo hi 1:=by rw [rangeSize_one];split <;> omega
    show IsRangeIter _ _ (lo + ((0:Nat):Int) * 1) ((((hi - lo).toNat:Nat):Int) - ((0:Nat):Int)) 1
    rw [e1,e2]
    exact Heap.get?_push_size _ rfl
  · have e:b = (s.heap.push { cls:= .type "range",data:= .fields #[.int lo t,.int hi u,.int 1 v] }).objs.size:=by simpa using hb
    subst e
    exact I1.fpOk (Nat.le_refl _) (I1.hok.fresh (Nat.le_refl _))
def iRng1 (ta:TA):TI:=fun σ H R=>ta σ H fun vs H1=>∃j:Int,vs = [.int j]∧ -(2 ^ 62)≤j∧j < 2 ^ 62∧R (Itr 0 j.toNat) H1
def iRng2 (ta:TA):TI:=fun σ H R=>ta σ H fun vs H1=>∃i j:Int,vs = [.int i,.int j]∧(-(2 ^ 62)≤i∧i < 2 ^ 62∧ -(2 ^ 62)≤j∧j < 2 ^ 62)∧R (Itr i (j - i).toNat) H1
theorem pi_range1 {a:Expr} {ta:TA} {p pos:Pos} (hg:Gl X "range") (hm:X.mg "range" = none) (ha:PA X [a] ta) (hs:starEach [a] X.env = [(false,eval a X.env)]:=by rfl):PI X tg (.Call (.Name "range" p) [a] [] pos) (iRng1 ta):=by
  intro pins s σ H R I h
  refine Call_ (ld_blt I hg hm boot_range (PyProof.Rows.callWith_type1 (thn (ha pos pins s σ H _ I h) fun us s1 ⟨vs,H1,I1,r1,q1⟩=>?_) hs rfl))
  obtain⟨j,e,q1,q2,q⟩:=q1
  subst e
  cases r1 with
  | cons r rr=>
    cases rr
    obtain⟨t,rfl⟩:=r
    exact call_range_1 (range_it I1 (by omega) (by omega) q1 q2 (by simpa using q))
def tFor (wi:TI) (g:TG) (tb:TS):TS:=fun D σ H=>wi σ H fun J H1=>∃W:Nat→Nat→St→Hp→Prop,(∃m,W 0 m σ H1)∧∀i m σ H,W i m σ H→
  (J.stop i H∧D.nx σ H)∨(J.go i H∧∃N:St→Hp→Prop,(∀σ' H',N σ' H'→∃m',m' < m∧W (i + 1) m' σ' H')∧∀x H',J.yld i H x H'→g x σ H' fun σ2 H2=>tb { D with nx:=N,ct:=N,bk:=D.nx } σ2 H2)
def pinsAt (fp:List Addr) (h:Heap):List (Addr×Obj):=fp.filterMap fun b=>(h.get? b).map fun o=>(b,o)
theorem mem_pinsAt {fp:List Addr} {h:Heap} {b:Addr} {o:Obj} (hb:b∈fp) (e:h.get? b = some o):(b,o)∈pinsAt fp h:=List.mem_filterMap.mpr ⟨b,hb,by rw [e];rfl⟩
theorem of_pinsAt {fp:List Addr} {h:Heap} {p:Addr×Obj} (hp:p∈pinsAt fp h):p.1∈fp∧h.get? p.1 = some p.2:=by
  obtain⟨b,hb,e⟩:=List.mem_filterMap.mp hp
  cases q:h.get? b with
  | none=>rw [q] at e;cases e
  | some o=>
    rw [q] at e
    have e':(b,o) = p:=Option.some.inj e
    subst e'
    exact⟨hb,q⟩
theorem Inv.pinned {pins:List (Addr×Obj)} {σ:St} {H:Hp} {s:Shared} {fp:List Addr} (I:Inv X pins σ H s) (hf:∀b∈fp,FpOk X pins H b) (ho:∀b∈fp,∃o,s.heap.get? b = some o∧∀v,o.data≠ .cell v):Inv X (pins ++ pinsAt fp s.heap) σ H s:=
  I.pins_of fun p hp=>(List.mem_append.mp hp).elim (fun z=>I.pin p (List.mem_append_right _ z)) fun z=>by
    obtain⟨hb,e⟩:=of_pinsAt z
    obtain⟨f0,f1,f2,_⟩:=hf p.1 hb
    obtain⟨o,e',d⟩:=ho p.1 hb
    rw [e] at e';cases e'
    exact⟨e,f0,f1,f2,d⟩
theorem Inv.unpinned {pins pl:List (Addr×Obj)} {σ:St} {H:Hp} {s:Shared} (I:Inv X (pins ++ pl) σ H s):Inv X pins σ H s:=I.pins_of fun p hp=>I.pin p (List.mem_append_right _ (List.mem_append_left _ hp))
theorem ps_for {iter:Expr} {body:List Stmt} {wi:TI} {g:TG} {tb:TS} {pos:Pos} (hp:PassesOwn (model X.prog X.w) X.A X.env X.xe) (hc:X.calm = true) (hi:PI X tg iter wi) (hg:PG X tg g) (hb:PSs X body tb)
    (hs:∀x,foldedSetIterable iter X.env x = pure x:=by intro _;rfl):PS X (.For tg iter body [] pos) (tFor wi g tb):=by
  intro pins s σ H D I h
  refine wpAny_For (thn (hi pins s σ H _ I h) fun v s1 h1=>thn h1 fun itv s2 h2=>?_) hs
  obtain⟨it,fp,tn,J,H2,e,I2,T,st2,f2,W,⟨m0,w0⟩,turn⟩:=h2
  subst e
  have stat:∀{H':Hp},(∀b∈fp,H' b = none)→∀b∈fp,FpOk X pins H' b:=fun hn b hb=>⟨hn b hb,(f2 b hb).2⟩
  refine codeAny_forLoop_any (fun n s'=>∃i σ' H',Inv X pins σ' H' s'∧tn i s'.heap∧(∀b∈fp,H' b = none)∧W i n σ' H') ?_ m0 ⟨0,σ,H2,I2,st2,fun b hb=>(f2 b hb).1,w0⟩
  rintro n s3 ⟨i,σ3,H3,I3,st3,fr3,w3⟩
  rcases turn i n σ3 H3 w3 with ⟨stop,qn⟩ | ⟨go,N,hN,step⟩
  · refine wpAny_passesOwn hp (thn (T.done X rfl rfl rfl hc i pins s3 σ3 H3 X.xe I3 (stat fr3) st3 stop) fun r s4 ⟨hr,I4⟩=>?_)
    subst hr
    exact wpAny_execs_nil ⟨σ3,H3,I4,qn⟩
  · refine wpAny_passesOwn hp (thn (T.item X rfl rfl rfl hc i pins s3 σ3 H3 X.xe I3 (stat fr3) st3 go) fun r s4 ⟨u,hr,h4⟩=>?_)
    subst hr
    refine wpAny_passesOwn hp (thn h4 fun _ s5 ⟨x,H5,I5,r5,y5,st5,fr5⟩=>?_)
    have I5':=I5.pinned (stat fr5) (T.obj _ _ st5)
    refine wpAny_passesOwn hp (thn (hg _ s5 σ3 H5 x u _ I5' r5 (step x H5 y5)) fun _ s6 ⟨σ6,H6,I6,q6⟩=>?_)
    refine wpAny_passesOwn hp (thn (hb _ s6 σ6 H6 _ I6 q6) fun f s7 q7=>?_)
    have again:∀{σ7:St} {H7:Hp},Inv X (pins ++ pinsAt fp s5.heap) σ7 H7 s7→N σ7 H7→∃m,m < n∧∃i σ' H',Inv X pins σ' H' s7∧tn i s7.heap∧(∀b∈fp,H' b = none)∧W i m σ' H':=fun {σ7 H7} I7 n7=>by
      obtain⟨m',hm,w7⟩:=hN σ7 H7 n7
      refine⟨m',hm,i + 1,σ7,H7,I7.unpinned,T.keep _ _ _ st5 fun b hb o e=>(I7.pin (b,o) (List.mem_append_right _ (List.mem_append_right _ (mem_pinsAt hb e)))).1,fun b hb=>?_,w7⟩
      obtain⟨o,e,d⟩:=T.obj _ _ st5 b hb
      exact(I7.pin (b,o) (List.mem_append_right _ (List.mem_append_right _ (mem_pinsAt hb e)))).2.1
    cases f with
    | next=>obtain⟨σ7,H7,I7,n7⟩:=q7;exact again I7 n7
    | cont=>obtain⟨σ7,H7,I7,n7⟩:=q7;exact again I7 n7
    | brk=>obtain⟨σ7,H7,I7,q7⟩:=q7;exact⟨σ7,H7,I7.unpinned,q7⟩
    | ret v=>obtain⟨x7,σ7,H7,I7,r7,q7⟩:=q7;exact⟨x7,σ7,H7,I7.unpinned,r7,q7⟩
end
theorem for_range {lo:Int} {n:Nat} {g:TG} {tb:TS} {D:Ends} {σ:St} {H:Hp} (Pv:Nat→St→Hp→Prop) (h0:Pv 0 σ H)
    (hs:∀i σ H,i < n→Pv i σ H→g (.int (lo + i)) σ H fun σ2 H2=>tb { D with nx:=Pv (i + 1),ct:=Pv (i + 1),bk:=D.nx } σ2 H2) (hd:∀σ H,Pv n σ H→D.nx σ H) :
    ∃ W:Nat→Nat→St→Hp→Prop,(∃m,W 0 m σ H)∧∀i m σ H,W i m σ H→
      ((Itr lo n).stop i H∧D.nx σ H)∨((Itr lo n).go i H∧∃N:St→Hp→Prop,(∀σ' H',N σ' H'→∃m',m' < m∧W (i + 1) m' σ' H')∧∀x H',(Itr lo n).yld i H x H'→g x σ H' fun σ2 H2=>tb { D with nx:=N,ct:=N,bk:=D.nx } σ2 H2):=by
  refine⟨fun i m σ H=>m = n - i∧i≤n∧Pv i σ H,⟨n,by simp,Nat.zero_le _,h0⟩,?_⟩
  rintro i m σ H ⟨rfl,hi,p⟩
  by_cases hlt:i < n
  · refine .inr ⟨hlt,Pv (i + 1),fun σ' H' p'=>⟨n - (i + 1),by omega,rfl,hlt,p'⟩,fun x H' y=>?_⟩
    obtain⟨e,y⟩:=y
    subst e y
    exact hs i σ _ hlt p
  · have e:i = n:=by omega
    subst e
    exact .inl ⟨Nat.le_refl _,hd σ H p⟩
end L2
namespace L2
open PySem PySem.Spec PyProof.Rows
abbrev R2:=V→V→Hp→VK→Prop
def OpR (X:Cx) (f:Value→Value→Sem Value) (r:R2):Prop:=
  ∀ (pins:List (Addr×Obj)) (s:Shared) (σ:St) (H:Hp) (x y:V) (v u:Value) (Q:VK),Inv X pins σ H s→RelV x v→RelV y u→r x y H Q→
    wpAny (model X.prog X.w) X.A (f v u) (EP X pins σ Q) X.xe s
def UnR (X:Cx) (f:Value→Sem Value) (r:V→Hp→VK→Prop):Prop:=
  ∀ (pins:List (Addr×Obj)) (s:Shared) (σ:St) (H:Hp) (x:V) (v:Value) (Q:VK),Inv X pins σ H s→RelV x v→r x H Q→
    wpAny (model X.prog X.w) X.A (f v) (EP X pins σ Q) X.xe s
def CallR (X:Cx) (f:Value) (r:List V→Hp→VK→Prop):Prop:=
  ∀ (pins:List (Addr×Obj)) (s:Shared) (σ:St) (H:Hp) (xs:List V) (us:List Value) (Q:VK),Inv X pins σ H s→Vals xs us→r xs H Q→
    wpAny (model X.prog X.w) X.A (call f us) (EP X pins σ Q) X.xe s
def TruR (X:Cx) (r:V→Hp→(Bool→Hp→Prop)→Prop):Prop:=
  ∀ (pins:List (Addr×Obj)) (s:Shared) (σ:St) (H:Hp) (x:V) (v:Value) (Q:Bool→Hp→Prop),Inv X pins σ H s→RelV x v→r x H Q→
    wpAny (model X.prog X.w) X.A (truthy v) (TP X pins σ Q) X.xe s
def tOp (r:R2) (ta tb:TE):TE:=fun σ H Q=>ta σ H fun x H1=>tb σ H1 fun y H2=>r x y H2 Q
def tUn (r:V→Hp→VK→Prop) (ta:TE):TE:=fun σ H Q=>ta σ H fun x H1=>r x H1 Q
def rI (C:Int→Int→Prop) (g:Int→Int→V):R2:=fun x y H Q=>∃i j,x = .int i∧y = .int j∧C i j∧Q (g i j) H
def rI0 (g:Int→Int→V):R2:=fun x y H Q=>∃i j,x = .int i∧y = .int j∧Q (g i j) H
def rU (g:Int→V):V→Hp→VK→Prop:=fun x H Q=>∃i,x = .int i∧Q (g i) H
section
variable {X:Cx} {a b c:Expr} {ta tb tc:TE} {pos:Pos}
theorem binT (ha:PE X a ta) (hb:PE X b tb) {pins:List (Addr×Obj)} {s:Shared} {σ:St} {H:Hp} {R:V→V→Hp→Prop} (I:Inv X pins σ H s)
    (h:ta σ H fun x H1=>tb σ H1 fun y H2=>R x y H2) {Q:Value→Shared→Prop} {f:Value→Value→Sem Value}
    (hf:∀v u s2 x y H2,Inv X pins σ H2 s2→RelV x v→RelV y u→R x y H2→wpAny (model X.prog X.w) X.A (f v u) Q X.xe s2) :
    wpAny (model X.prog X.w) X.A (eval a X.env) (fun v s₁=>wpAny (model X.prog X.w) X.A (eval b X.env) (fun u s₂=>wpAny (model X.prog X.w) X.A (f v u) Q X.xe s₂) X.xe s₁) X.xe s:=by
  refine thn (ha pins s σ H _ I h) fun v s1 ⟨x,H1,I1,r1,q1⟩=>?_
  refine thn (hb pins s1 σ H1 _ I1 q1) fun u s2 ⟨y,H2,I2,r2,q2⟩=>?_
  exact hf v u s2 x y H2 I2 r1 r2 q2
theorem pe_op {op:Operator} {r:R2} (ho:OpR X (binaryOp op) r) (ha:PE X a ta) (hb:PE X b tb):PE X (.BinOp a op b pos) (tOp r ta tb):=by
  intro pins s σ H Q I h
  exact wpAny_BinOp (binT ha hb I h fun v u s2 x y H2 I2 rx ry q=>ho pins s2 σ H2 x y v u Q I2 rx ry q)
theorem pe_un {op:UnaryOp} {r:V→Hp→VK→Prop} (ho:UnR X (unaryOp op) r) (ha:PE X a ta):PE X (.UnaryOp op a pos) (tUn r ta):=by
  intro pins s σ H Q I h
  exact UnaryOp_ (thn (ha pins s σ H _ I h) fun v s1 ⟨x,H1,I1,r1,q1⟩=>ho pins s1 σ H1 x v Q I1 r1 q1)
theorem opI {f:Value→Value→Sem Value} {C:Int→Int→Prop} {g:Int→Int→Int}
    (rule:∀(i j:Int) (t u:Tok) (s:Shared) (Q:Value→Shared→Prop) (E:Value→Shared→Prop),C i j→Q (.int (g i j) s.toks) { s with toks:=s.toks + 1 }→wpAny (model X.prog X.w) X.A (f (.int i t) (.int j u)) Q E s) :
    OpR X f (rI C fun i j=> .int (g i j)):=by
  intro pins s σ H x y v u Q I rx ry h
  obtain⟨i,j,rfl,rfl,hc,q⟩:=h
  obtain⟨t,rfl⟩:=rx
  obtain⟨t',rfl⟩:=ry
  exact rule i j t t' s _ _ hc ⟨.int (g i j),H,I.tok _,⟨_,rfl⟩,q⟩
theorem opI0 {f:Value→Value→Sem Value} {g:Int→Int→Int}
    (rule:∀(i j:Int) (t u:Tok) (s:Shared) (Q:Value→Shared→Prop) (E:Value→Shared→Prop),Q (.int (g i j) s.toks) { s with toks:=s.toks + 1 }→wpAny (model X.prog X.w) X.A (f (.int i t) (.int j u)) Q E s) :
    OpR X f (rI0 fun i j=> .int (g i j)):=by
  intro pins s σ H x y v u Q I rx ry h
  obtain⟨i,j,rfl,rfl,q⟩:=h
  obtain⟨t,rfl⟩:=rx
  obtain⟨t',rfl⟩:=ry
  exact rule i j t t' s _ _ ⟨.int (g i j),H,I.tok _,⟨_,rfl⟩,q⟩
theorem opB0 {f:Value→Value→Sem Value} {g:Int→Int→Bool}
    (rule:∀(i j:Int) (t u:Tok) (s:Shared) (Q:Value→Shared→Prop) (E:Value→Shared→Prop),Q (.bool (g i j)) s→wpAny (model X.prog X.w) X.A (f (.int i t) (.int j u)) Q E s) :
    OpR X f (rI0 fun i j=> .bl (g i j)):=by
  intro pins s σ H x y v u Q I rx ry h
  obtain⟨i,j,rfl,rfl,q⟩:=h
  obtain⟨t,rfl⟩:=rx
  obtain⟨t',rfl⟩:=ry
  exact rule i j t t' s _ _ ⟨.bl (g i j),H,I,rfl,q⟩
def CDiv (i j:Int):Prop:=0 < j∧j < 1073741824
def CDivN (i j:Int):Prop:=j≠0∧j.natAbs < 1073741824
def CPow (i j:Int):Prop:=0≤j∧j≤1000000∧i.natAbs < 2 ^ 64
def CMul (i j:Int):Prop:=(-(2 ^ 64) < i∧i < 2 ^ 64)∨(-(2 ^ 64) < j∧j < 2 ^ 64)
theorem op_add:OpR X (binaryOp .Add) (rI0 fun i j=> .int (i + j)):=opI0 fun _ _ _ _ _ _ _ q=>add_int q
theorem op_sub:OpR X (binaryOp .Sub) (rI0 fun i j=> .int (i - j)):=opI0 fun _ _ _ _ _ _ _ q=>sub_int q
theorem op_fdiv:OpR X (binaryOp .FloorDiv) (rI CDiv fun i j=> .int (i / j)):=opI fun i j _ _ _ _ _ hc q=>by
  have h1:(0:Int) < j:=hc.1
  have h2:j < 1073741824:=hc.2
  exact floordiv_int (by omega) (by rw [Int.fdiv_eq_ediv_of_nonneg i (by omega)];exact q) (.inl (PyProof.noPylong_small (by omega)))
theorem op_mod:OpR X (binaryOp .Mod) (rI (fun _ j=>0 < j) fun i j=> .int (i % j)):=opI fun i j _ _ _ _ _ hc q=>by
  have h1:(0:Int) < j:=hc
  exact mod_int' (by omega) (by rw [Int.fmod_eq_emod_of_nonneg i (by omega)];exact q)
theorem unI {f:Value→Sem Value} {g:Int→Int}
    (rule:∀(i:Int) (t:Tok) (s:Shared) (Q:Value→Shared→Prop) (E:Value→Shared→Prop),Q (.int (g i) s.toks) { s with toks:=s.toks + 1 }→wpAny (model X.prog X.w) X.A (f (.int i t)) Q E s) :
    UnR X f (rU fun i=> .int (g i)):=by
  intro pins s σ H x v Q I rx h
  obtain⟨i,rfl,q⟩:=h
  obtain⟨t,rfl⟩:=rx
  exact rule i t s _ _ ⟨.int (g i),H,I.tok _,⟨_,rfl⟩,q⟩
theorem un_neg:UnR X (unaryOp .USub) (rU fun i=> .int (-i)):=unI fun _ _ _ _ _ q=>neg_int q
end
def scal:V→V→Bool
  | .non,.non=>true | .non,.int _=>true | .int _,.non=>true | .non,.bl _=>true | .bl _,.non=>true | .non,.str _=>true | .str _,.non=>true
  | .int _,.int _=>true | .bl _,.bl _=>true | .str _,.str _=>true | .byt _,.byt _=>true
  | .int _,.str _=>true | .str _,.int _=>true | .bl _,.str _=>true | .str _,.bl _=>true
  | _,_=>false
def rEq:R2:=fun x y H Q=>scal x y = true∧Q (.bl (decide (x = y))) H
def rNe:R2:=fun x y H Q=>scal x y = true∧Q (.bl (!decide (x = y))) H
theorem dec_int {i j:Int}:decide (V.int i = V.int j) = (i == j):=by
  rw [Bool.eq_iff_iff]
  simp
theorem dec_bl {i j:Bool}:decide (V.bl i = V.bl j) = (i == j):=by
  rw [Bool.eq_iff_iff]
  simp
theorem dec_str {i j:Str}:decide (V.str i = V.str j) = (i == j):=by
  rw [Bool.eq_iff_iff]
  simp
theorem dec_byt {i j:Array UInt8}:decide (V.byt i = V.byt j) = (i.toList == j.toList):=by
  rw [Bool.eq_iff_iff]
  cases i
  cases j
  simp
section
variable {X:Cx} {a b c:Expr} {ta tb tc:TE} {pos:Pos}
theorem fin_bl {pins:List (Addr×Obj)} {σ:St} {H:Hp} {s:Shared} {Q:VK} {k k':Bool} (I:Inv X pins σ H s) (q:Q (.bl k) H) (e:k = k'):EP X pins σ Q (.bool k') s:=by
  subst e
  exact⟨.bl k,H,I,rfl,q⟩
theorem op_eq:OpR X (compareOp .Eq) rEq:=by
  intro pins s σ H x y v u Q I rx ry h
  obtain⟨hs,q⟩:=h
  cases x with
  | non=>
    cases rx
    cases y with
    | non=>cases ry;exact PySem.EqNone.eq_none_none (fin_bl I q (by simp))
    | bl j=>cases ry;exact PySem.EqNone.eq_none_bool (fin_bl I q (by simp))
    | int j=>obtain⟨t',rfl⟩:=ry;exact PySem.EqNone.eq_none_int (fin_bl I q (by simp))
    | str j=>obtain⟨t',rfl⟩:=ry;exact PySem.EqNone.eq_none_str (fin_bl I q (by simp))
    | _=>exact absurd (show false = true from hs) Bool.false_ne_true
  | bl i=>
    cases rx
    cases y with
    | non=>cases ry;exact PySem.EqNone.eq_bool_none (fin_bl I q (by simp))
    | bl j=>cases ry;exact eq_bool (fin_bl I q dec_bl)
    | str j=>obtain⟨t',rfl⟩:=ry;exact PySem.EqMixed.eq_bool_str (fin_bl I q (by simp))
    | _=>exact absurd (show false = true from hs) Bool.false_ne_true
  | int i=>
    obtain⟨t,rfl⟩:=rx
    cases y with
    | non=>cases ry;exact PySem.EqNone.eq_int_none (fin_bl I q (by simp))
    | int j=>obtain⟨t',rfl⟩:=ry;exact eq_int (fin_bl I q dec_int)
    | str j=>obtain⟨t',rfl⟩:=ry;exact PySem.EqMixed.eq_int_str (fin_bl I q (by simp))
    | _=>exact absurd (show false = true from hs) Bool.false_ne_true
  | str i=>
    obtain⟨t,rfl⟩:=rx
    cases y with
    | non=>cases ry;exact PySem.EqNone.eq_str_none (fin_bl I q (by simp))
    | bl j=>cases ry;exact PySem.EqMixed.eq_str_bool (fin_bl I q (by simp))
    | int j=>obtain⟨t',rfl⟩:=ry;exact PySem.EqMixed.eq_str_int (fin_bl I q (by simp))
    | str j=>obtain⟨t',rfl⟩:=ry;exact eq_str (fin_bl I q dec_str)
    | _=>exact absurd (show false = true from hs) Bool.false_ne_true
  | byt i=>
    obtain⟨t,rfl⟩:=rx
    cases y with
    | byt j=>obtain⟨t',rfl⟩:=ry;exact PySem.W.eq_bytes (fin_bl I q dec_byt)
    | _=>exact absurd (show false = true from hs) Bool.false_ne_true
  | _=>cases y <;> exact absurd (show false = true from hs) Bool.false_ne_true
theorem op_ne:OpR X (compareOp .NotEq) rNe:=by
  intro pins s σ H x y v u Q I rx ry h
  obtain⟨hs,q⟩:=h
  cases x with
  | non=>
    cases rx
    cases y with
    | non=>cases ry;exact PySem.EqNone.ne_none_none (fin_bl I q (by simp))
    | bl j=>cases ry;exact PySem.EqNone.ne_none_bool (fin_bl I q (by simp))
    | int j=>obtain⟨t',rfl⟩:=ry;exact PySem.EqNone.ne_none_int (fin_bl I q (by simp))
    | str j=>obtain⟨t',rfl⟩:=ry;exact PySem.EqNone.ne_none_str (fin_bl I q (by simp))
    | _=>exact absurd (show false = true from hs) Bool.false_ne_true
  | bl i=>
    cases rx
    cases y with
    | non=>cases ry;exact PySem.EqNone.ne_bool_none (fin_bl I q (by simp))
    | bl j=>cases ry;exact ne_bool (fin_bl I q (congrArg not dec_bl))
    | str j=>obtain⟨t',rfl⟩:=ry;exact PySem.EqMixed.ne_bool_str (fin_bl I q (by simp))
    | _=>exact absurd (show false = true from hs) Bool.false_ne_true
  | int i=>
    obtain⟨t,rfl⟩:=rx
    cases y with
    | non=>cases ry;exact PySem.EqNone.ne_int_none (fin_bl I q (by simp))
    | int j=>obtain⟨t',rfl⟩:=ry;exact ne_int (fin_bl I q (congrArg not dec_int))
    | str j=>obtain⟨t',rfl⟩:=ry;exact PySem.EqMixed.ne_int_str (fin_bl I q (by simp))
    | _=>exact absurd (show false = true from hs) Bool.false_ne_true
  | str i=>
    obtain⟨t,rfl⟩:=rx
    cases y with
    | non=>cases ry;exact PySem.EqNone.ne_str_none (fin_bl I q (by simp))
    | bl j=>cases ry;exact PySem.EqMixed.ne_str_bool (fin_bl I q (by simp))
    | int j=>obtain⟨t',rfl⟩:=ry;exact PySem.EqMixed.ne_str_int (fin_bl I q (by simp))
    | str j=>obtain⟨t',rfl⟩:=ry;exact ne_str (fin_bl I q (congrArg not dec_str))
    | _=>exact absurd (show false = true from hs) Bool.false_ne_true
  | byt i=>
    obtain⟨t,rfl⟩:=rx
    cases y with
    | byt j=>obtain⟨t',rfl⟩:=ry;exact PySem.W.ne_bytes (fin_bl I q (congrArg not dec_byt))
    | _=>exact absurd (show false = true from hs) Bool.false_ne_true
  | _=>cases y <;> exact absurd (show false = true from hs) Bool.false_ne_true
theorem op_lt:OpR X (compareOp .Lt) (rI0 fun i j=> .bl (decide (i < j))):=opB0 fun _ _ _ _ _ _ _ q=>lt_int q
theorem op_le:OpR X (compareOp .LtE) (rI0 fun i j=> .bl (decide (i≤j))):=opB0 fun _ _ _ _ _ _ _ q=>le_int q
theorem op_gt:OpR X (compareOp .Gt) (rI0 fun i j=> .bl (decide (j < i))):=opB0 fun _ _ _ _ _ _ _ q=>gt_int q
theorem op_in_str:OpR X (compareOp .In) (fun x y H Q=>∃i j,x = .str i∧y = .str j∧Q (.bl (!(Builtin.Str.occurrences j i 0 j.length 1).isEmpty)) H):=by
  intro pins s σ H x y v u Q I rx ry h
  obtain⟨i,j,rfl,rfl,q⟩:=h
  obtain⟨t,rfl⟩:=rx
  obtain⟨t',rfl⟩:=ry
  exact in_str (fin_bl I q rfl)
theorem op_isN:OpR X (compareOp .Is) (fun x y H Q=>y = .non∧Q (.bl (decide (x = .non))) H):=by
  intro pins s σ H x y v u Q I rx ry h
  obtain⟨rfl,q⟩:=h
  cases ry
  refine is_none_gen (fin_bl I q ?_)
  cases x <;> first
    | (cases rx;rfl)
    | (obtain⟨t,rfl⟩:=rx;rfl)
theorem op_notN:OpR X (compareOp .IsNot) (fun x y H Q=>y = .non∧Q (.bl (!decide (x = .non))) H):=by
  intro pins s σ H x y v u Q I rx ry h
  obtain⟨rfl,q⟩:=h
  cases ry
  refine isnot_none_gen (fin_bl I q ?_)
  cases x <;> first
    | (cases rx;rfl)
    | (obtain⟨t,rfl⟩:=rx;rfl)
theorem op_notin_str:OpR X (compareOp .NotIn) (fun x y H Q=>∃i j,x = .str i∧y = .str j∧Q (.bl (!(!(Builtin.Str.occurrences j i 0 j.length 1).isEmpty))) H):=by
  intro pins s σ H x y v u Q I rx ry h
  obtain⟨i,j,rfl,rfl,q⟩:=h
  obtain⟨t,rfl⟩:=rx
  obtain⟨t',rfl⟩:=ry
  exact notIn_str (fin_bl I q rfl)
def isObj:HO→Bool
  | .lst _=>true
  | .ins _ _ _=>true
  | _=>false
theorem nomark (b:Expr) {op:CmpOp} (h:op≠ .In:=by decide) (h2:op≠ .NotIn:=by decide):behindInMarks op b = false:=by
  have e1:(op == CmpOp.In) = false:=by cases op <;> first | rfl | exact absurd rfl h
  have e2:(op == CmpOp.NotIn) = false:=by cases op <;> first | rfl | exact absurd rfl h2
  cases b <;> simp [behindInMarks,e1,e2]
theorem pe_cmpR {op:CmpOp} {r:R2} (ho:OpR X (compareOp op) r) (ha:PE X a ta) (hb:PE X b tb) (hm:behindInMarks op b = false):PE X (.Compare a [op] [b] pos) (tOp r ta tb):=by
  intro pins s σ H Q I h
  exact wpAny_Compare1 (binT ha hb I h fun v u s2 x y H2 I2 rx ry q=>ho pins s2 σ H2 x y v u Q I2 rx ry q) hm
def tTest (t:TE):TT:=fun σ H Q=>t σ H fun x H'=>∃k,x = .bl k∧Q k H'
theorem pt_cmpR {op:CmpOp} {r:R2} (ho:OpR X (compareOp op) r) (ha:PE X a ta) (hb:PE X b tb) (hm:behindInMarks op b = false):PT X (.Compare a [op] [b] pos) (tTest (tOp r ta tb)):=by
  intro pins s σ H Q I h
  refine wpAny_isTrue_Compare1 (thn (ha pins s σ H _ I h) fun v s1 ⟨x,H1,I1,r1,q1⟩=>thn (hb pins s1 σ H1 _ I1 q1) fun u s2 ⟨y,H2,I2,r2,q2⟩=>
    thn (ho pins s2 σ H2 x y v u _ I2 r1 r2 q2) fun c s3 ⟨z,H3,I3,r3,k,e,q3⟩=>?_) hm
  subst e
  cases r3
  exact wpAny_truthy_bool ⟨H3,I3,q3⟩
def tChain (r r':R2) (ta tb tc:TE):TE:=fun σ H Q=>ta σ H fun x H1=>tb σ H1 fun y H2=>r x y H2 fun z H3=>∃k,z = .bl k∧
  (if k = true then tc σ H3 fun w' H4=>r' y w' H4 Q else Q (.bl false) H3)
theorem pt_chain {op op':CmpOp} {r r':R2} (ho:OpR X (compareOp op) r) (ho':OpR X (compareOp op') r') (ha:PE X a ta) (hb:PE X b tb) (hc:PE X c tc)
    (hm:lastMarks [op,op'] [b,c] = false:=by with_unfolding_all rfl):PT X (.Compare a [op,op'] [b,c] pos) (tTest (tChain r r' ta tb tc)):=by
  intro pins s σ H Q I h
  refine isTrue_chain (thn (ha pins s σ H _ I h) fun v s1 ⟨x,H1,I1,r1,q1⟩=>test_link (thn (hb pins s1 σ H1 _ I1 q1) fun u s2 ⟨y,H2,I2,r2,q2⟩=>
    thn (ho pins s2 σ H2 x y v u _ I2 r1 r2 q2) fun d s3 ⟨z,H3,I3,r3,k,e,q3⟩=>?_)) hm
  subst e
  cases r3
  refine wpAny_truthy_bool ?_
  cases k with
  | false=>
    obtain⟨k',e',q'⟩:=q3
    cases e'
    exact ite_ff ⟨H3,I3,q'⟩
  | true=>
    refine ite_tt (test_last (thn (hc pins s3 σ H3 _ I3 q3) fun w' s4 ⟨z',H4,I4,r4,q4⟩=>thn (ho' pins s4 σ H4 y z' u w' _ I4 r2 r4 q4) fun d' s5 ⟨z2,H5,I5,r5,k2,e2,q5⟩=>?_))
    subst e2
    cases r5
    exact wpAny_truthy_bool ⟨H5,I5,q5⟩
def TruV (K:PySem.W.Frag) (x:V) (H:Hp) (k:Bool):Prop:=
  match x with
  | .non=>k = false
  | .bl b=>k = b
  | .int i=>k = (i != 0)
  | .str y=>y.length≤sizeLine∧k = ((y.length:Int) != 0)
  | .byt y=>y.size≤sizeLine∧k = ((y.size:Int) != 0)
  | .ref p=>(∃xs,SqL K H p xs∧k = !xs.isEmpty)∨(∃xs,SqT K H p xs∧k = !xs.isEmpty)∨∃kvs,H p = some (.dK kvs)∧k = !kvs.isEmpty
  | _=>False
theorem line63:(sizeLine:Nat) < 2 ^ 63:=by rw [sizeLine_eq];decide
theorem op_add_str:OpR X (binaryOp .Add) (fun x y H Q=>∃i j,x = .str i∧y = .str j∧i.length + j.length≤sizeLine∧Q (.str (i ++ j)) H):=by
  intro pins s σ H x y v u Q I rx ry h
  obtain⟨i,j,rfl,rfl,hz,q⟩:=h
  obtain⟨t,rfl⟩:=rx
  obtain⟨t',rfl⟩:=ry
  exact add_str (fun t' tk=>⟨.str (i ++ j),H,I.tok _,⟨_,rfl⟩,q⟩) hz
def PlainIxT (b:Expr):Prop:=∀o i,subscripted b false o i = operate [o,i] (getItem o i)
theorem vals1 {x:V} {us:List Value} (r:Vals [x] us):∃u,us = [u]∧RelV x u:=by
  cases r with
  | cons r1 r2=>cases r2;exact⟨_,rfl,r1⟩
theorem vals2 {x y:V} {us:List Value} (r:Vals [x,y] us):∃u w',us = [u,w']∧RelV x u∧RelV y w':=by
  cases r with
  | cons r1 r2=>
    cases r2 with
    | cons r3 r4=>cases r4;exact⟨_,_,rfl,r1,r3⟩
theorem call_max2 (hc:X.calm = true):CallR X (.builtin "max") (fun xs H Q=>∃i j,xs = [.int i,.int j]∧Q (.int (if j > i then j else i)) H):=by
  intro pins s σ H xs us Q I r h
  obtain⟨i,j,rfl,q⟩:=h
  obtain⟨u,w',rfl,⟨t,rfl⟩,⟨t',rfl⟩⟩:=vals2 r
  refine max_two_ints (I.ok.hd hc) fun h' tk k=>⟨_,H,I.kept k,?_,q⟩
  by_cases hj:j > i
  · rw [if_pos hj,if_pos hj];exact⟨_,rfl⟩
  · rw [if_neg hj,if_neg hj];exact⟨_,rfl⟩
theorem call_min2 (hc:X.calm = true):CallR X (.builtin "min") (fun xs H Q=>∃i j,xs = [.int i,.int j]∧Q (.int (if j < i then j else i)) H):=by
  intro pins s σ H xs us Q I r h
  obtain⟨i,j,rfl,q⟩:=h
  obtain⟨u,w',rfl,⟨t,rfl⟩,⟨t',rfl⟩⟩:=vals2 r
  refine min_two_ints (I.ok.hd hc) fun h' tk k=>⟨_,H,I.kept k,?_,q⟩
  by_cases hj:j < i
  · rw [if_pos hj,if_pos hj];exact⟨_,rfl⟩
  · rw [if_neg hj,if_neg hj];exact⟨_,rfl⟩
theorem call_int1:CallR X (.type "int") (fun xs H Q=>(∃i,xs = [.int i]∧Q (.int i) H)∨∃k,xs = [.bl k]∧Q (.int (if k then 1 else 0)) H):=by
  intro pins s σ H xs us Q I r h
  rcases h with ⟨i,rfl,q⟩ | ⟨k,rfl,q⟩
  · obtain⟨u,rfl,t,rfl⟩:=vals1 r
    exact call_int_int ⟨.int i,H,I,⟨_,rfl⟩,q⟩
  · obtain⟨u,rfl,r1⟩:=vals1 r
    cases r1
    exact call_int_bool ⟨.int (if k then 1 else 0),H,I.tok _,⟨_,rfl⟩,q⟩
def LenV (K:PySem.W.Frag) (x:V) (H:Hp) (n:Nat):Prop:=
  match x with
  | .str y=>y.length≤sizeLine∧n = y.length
  | .byt y=>y.size≤sizeLine∧n = y.size
  | .ref p=>(∃xs,SqL K H p xs∧n = xs.length)∨∃xs,SqT K H p xs∧n = xs.length
  | _=>False
end
end L2
namespace L2
open PySem PySem.Spec PyProof.Rows
structure ObjM (h:Heap) (x dx C:Addr) (mA:Str→Option Value):Prop where
  obj:h.get? x = some (PySem.W.instObj C dx)
  ns:h.Ns1 dx mA
  ne:dx≠x
theorem lookIn_ns {h:Heap} {dx:Addr} {mA:Str→Option Value} (n:h.Ns1 dx mA):∃od,h.get? dx = some od∧∀name,PySem.W.lookIn name od = some (mA name):=by
  obtain⟨o,es,ep,ho,hd,hk,_,hm⟩:=n
  refine⟨o,ho,fun name=>?_⟩
  have e:=hm name
  unfold nsFind findBy at e
  rw [←Array.find?_toList] at e
  unfold PySem.W.lookIn
  rw [hd]
  dsimp only
  split
  · rename_i y q
    rw [q] at e
    exact congrArg some e
  · rename_i q
    rw [q] at e
    have a:es.toList.any (·.refKey) = false:=by
      rw [List.any_eq_false]
      intro y hy
      obtain⟨z,t,hkey⟩:=hk y (Array.mem_toList_iff.mp hy)
      simp [DictEntry.refKey,hkey]
    have a':¬ es.toList.any (·.refKey) = true:=by rw [a];exact Bool.false_ne_true
    rw [if_neg a']
    exact congrArg some e
theorem ObjM.look {h:Heap} {x dx C:Addr} {mA:Str→Option Value} (I:ObjM h x dx C mA):∃od,PySem.W.InstAt h x (PySem.W.instObj C dx) C (some od)∧∀name,PySem.W.lookIn name od = some (mA name):=
  let ⟨od,ho,hl⟩:=lookIn_ns I.ns
  ⟨od,⟨I.obj,rfl,rfl,ho⟩,hl⟩
section
variable {prog:Program} {w:World} {A:Around} {E:Value→Shared→Prop} {s:Shared} {K:PySem.W.Frag} {x dx C f:Addr} {mA:Str→Option Value} {name:Str} {v:Value}
end
def putF (f:Str) (v:V):List (Str×V)→List (Str×V)
  | []=>[(f,v)]
  | (g,x) :: r=>if g = f then (g,v) :: r else (g,x) :: putF f v r
section
variable {P:Program} {w:World} {H H':Hp} {h h':Heap} {a C dx:Addr} {fs fs':List (Str×V)}
theorem ins_get (hok:HOk P w H h) (e:H a = some (.ins C dx fs)):∃mA,ObjM h a dx C mA∧(∀f,RelO (fs.lookup f) (mA f))∧PySem.Within mA (fs.map (·.1))∧fs.length≤1000∧H dx = some (.own a):=by
  obtain⟨d,z,ne,ob,mA,n,r,q⟩:=(show ObjOk P w H h a (.ins C dx fs) from hok a _ e)
  exact⟨mA,⟨ob,n,ne⟩,r,q,z,d⟩
end
structure Cls (K:PySem.W.Frag) (C:Addr):Prop where
  pg:PySem.W.plainGet K C Str.empty = true
  hd:PySem.W.hasDictIn K C = true
  po:PySem.W.plainOver K C = true
  sa:PySem.W.findIn K (.ref C) "__setattr__" = some (some (.builtin "object.__setattr__"))
theorem Cls.get {K:PySem.W.Frag} {C:Addr} (c:Cls K C) (f:Str):PySem.W.plainGet K C f = true:=c.pg
def NoAttr (K:PySem.W.Frag) (C:Addr) (f:Str):Prop:=PySem.W.findIn K (.ref C) f = some none
structure Con (K:PySem.W.Frag) (C:Addr) (f:Str) (v:V) (u:Value):Prop where
  at_:PySem.W.findIn K (.ref C) f = some (some u)
  rel:RelV v u
  get:PySem.W.specialIn K u "__get__" = some none
  cp:PySem.W.copiedNames.contains f = false
structure Meth (K:PySem.W.Frag) (C:Addr) (m:Str) (f:Addr):Prop where
  at_:PySem.W.findIn K (.ref C) m = some (some (.ref f))
  fn:PySem.W.isFn K (.ref f) = true
  kp:PySem.W.keepIn K (.ref f) = true
section
variable {X:Cx} {pins:List (Addr×Obj)} {σ:St} {H:Hp} {s:Shared} {a C dx:Addr} {fs:List (Str×V)} {f:Str} {v:V} {A:Around} {E:Value→Shared→Prop}
end
def tFld (K:PySem.W.Frag) (ta:TE) (f:Str):TE:=fun σ H Q=>ta σ H fun x H1=>∃a C dx fs v,x = .ref a∧H1 a = some (.ins C dx fs)∧Cls K C∧NoAttr K C f∧fs.lookup f = some v∧Q v H1
def tCon (K:PySem.W.Frag) (ta:TE) (f:Str):TE:=fun σ H Q=>ta σ H fun x H1=>∃a C dx fs v u,x = .ref a∧H1 a = some (.ins C dx fs)∧Cls K C∧Con K C f v u∧fs.lookup f = none∧Q v H1
def sFld (K:PySem.W.Frag) (ta tv:TE) (f:Str):TS:=fun D σ H=>tv σ H fun y H1=>ta σ H1 fun x H2=>∃a C dx fs,x = .ref a∧H2 a = some (.ins C dx fs)∧Cls K C∧NoAttr K C f∧fs.length < 1000∧
  D.nx σ (upd H2 a (.ins C dx (putF f y fs)))
def InOp (X:Cx) (op:Operator) (rd:V→V→Hp→VK→Prop):Prop:=
  ∀(pins:List (Addr×Obj)) (s:Shared) (σ:St) (H:Hp) (x y:V) (u v:Value) (Q:VK),Inv X pins σ H s→RelV x u→RelV y v→rd x y H Q→wpAny (model X.prog X.w) X.A (inplaceOp op u v) (EP X pins σ Q) X.xe s
def sFldAug (K:PySem.W.Frag) (ta tv:TE) (rd:V→V→Hp→VK→Prop) (f:Str):TS:=fun D σ H=>ta σ H fun x H1=>∃a C dx fs v,x = .ref a∧H1 a = some (.ins C dx fs)∧Cls K C∧NoAttr K C f∧fs.lookup f = some v∧
  tv σ H1 fun y H2=>rd v y H2 fun z H3=>∃dx' fs',H3 a = some (.ins C dx' fs')∧fs'.length < 1000∧D.nx σ (upd H3 a (.ins C dx' (putF f z fs')))
section
variable {X:Cx} {o e value:Expr} {f:Str} {pos pos' tpos:Pos} {ta tv:TE}
def rAdd:V→V→Hp→VK→Prop:=fun x y H Q=>∃i j,x = .int i∧y = .int j∧Q (.int (i + j)) H
def rSub:V→V→Hp→VK→Prop:=fun x y H Q=>∃i j,x = .int i∧y = .int j∧Q (.int (i - j)) H
end
section
variable {X:Cx} {pins:List (Addr×Obj)} {σ:St} {H:Hp} {s:Shared} {A:Around} {E:Value→Shared→Prop} {Q:Value→Shared→Prop} {c:Value} {b:Bool}
inductive TyOf (K:PySem.W.Frag) (H:Hp):V→Value→Prop where
  | non:TyOf K H .non (.type "NoneType")
  | bl (x:Bool):TyOf K H (.bl x) (.type "bool")
  | int (i:Int):TyOf K H (.int i) (.type "int")
  | str (x:Str):TyOf K H (.str x) (.type "str")
  | flt (x:UInt64):TyOf K H (.flt x) (.type "float")
  | lst {a:Addr} {xs:List V} (e:H a = some (.lst xs)):TyOf K H (.ref a) (.type "list")
  | frz {a:Addr} {o:Obj} {xs:List V} (e:H a = some (.frz o (.lst xs))):TyOf K H (.ref a) (.type "list")
  | tup {a:Addr} {xs:List V} (e:H a = some (.tup xs)):TyOf K H (.ref a) (.type "tuple")
  | dK {a:Addr} {kvs:List (Key×V)} (e:H a = some (.dK kvs)):TyOf K H (.ref a) (.type "dict")
  | dT {a:Addr} {kvs:List (List Key×V)} (e:H a = some (.dT kvs)):TyOf K H (.ref a) (.type "dict")
  | ins {a C dx:Addr} {fs:List (Str×V)} (e:H a = some (.ins C dx fs)) (cl:Cls K C) (ha:PySem.W.findIn K (.ref C) "__class__" = some (some (.builtin "object.__class__")))
      (hn:PySem.W.specialIn K (.builtin "object.__class__") "__get__" = some (some (.builtin "getset_descriptor.__get__"))) (htk:PySem.W.takesIn K (.builtin "object.__class__") = some true)
      (hm:PySem.W.mroIn K C (.type "object") = some true):TyOf K H (.ref a) (.ref C)
theorem isinst_ok {x:V} {u t:Value} (I:Inv X pins σ H s) (rx:RelV x u) (ty:TyOf X.K H x t) (e:PySem.W.kitOne X.K t c = some b) (h:∀tk,Q (.bool b) { s with toks:=tk }) :
    wpAny (model X.prog X.w) A (call (.builtin "isinstance") [u,c]) Q E s:=by
  cases ty with
  | non=>cases (show u = Value.none from rx);exact PySem.W.kia_one PySem.W.kitx_none I.kIn True.intro e (fun z=>nomatch z) h
  | bl y=>cases (show u = Value.bool y from rx);exact PySem.W.kia_one PySem.W.kitx_bool I.kIn True.intro e (fun z=>nomatch z) h
  | int i=>obtain⟨t,q⟩:=(show ∃t,u = Value.int i t from rx);cases q;exact PySem.W.kia_one PySem.W.kitx_int I.kIn True.intro e (fun z=>nomatch z) h
  | str y=>obtain⟨t,q⟩:=(show ∃t,u = Value.str y t from rx);cases q;exact PySem.W.kia_one PySem.W.kitx_str I.kIn True.intro e (fun z=>nomatch z) h
  | flt y=>obtain⟨t,q⟩:=(show ∃t,u = Value.float y t from rx);cases q;exact PySem.W.kia_one PySem.W.kitx_float I.kIn True.intro e (fun z=>nomatch z) h
  | @lst a xs ea=>
    cases (show u = Value.ref a from rx)
    obtain⟨_,_,n,_,h1⟩:=(show ObjOk X.prog X.w H s.heap a (.lst xs) from I.hok a _ ea)
    exact PySem.W.kia_one PySem.W.kitx_list I.kIn ⟨_,h1,rfl⟩ e (fun z=>nomatch z) h
  | @frz a ob xs ea=>
    cases (show u = Value.ref a from rx)
    obtain⟨_,_,_,n,_,h1⟩:=(show ObjOk X.prog X.w H s.heap a (.frz ob (.lst xs)) from I.hok a _ ea)
    exact PySem.W.kia_one PySem.W.kitx_list I.kIn ⟨_,h1,rfl⟩ e (fun z=>nomatch z) h
  | @tup a xs ea=>
    cases (show u = Value.ref a from rx)
    obtain⟨_,_,_,p⟩:=(show ObjOk X.prog X.w H s.heap a (.tup xs) from I.hok a _ ea)
    obtain⟨o,h1,h2,_⟩:=p
    exact PySem.W.kia_one PySem.W.kitx_tuple I.kIn ⟨o,h1,h2⟩ e (fun z=>nomatch z) h
  | @dK a kvs ea=>
    cases (show u = Value.ref a from rx)
    obtain⟨_,_,vs,_,p⟩:=(show ObjOk X.prog X.w H s.heap a (.dK kvs) from I.hok a _ ea)
    obtain⟨o,es,ep,h1,h2,_⟩:=p
    exact PySem.W.kia_one PySem.W.kitx_dict I.kIn ⟨o,h1,h2.1⟩ e (fun z=>nomatch z) h
  | @dT a kvs ea=>
    cases (show u = Value.ref a from rx)
    obtain⟨_,_,xs,_,o,es,ep,h1,h2,_⟩:=(show ObjOk X.prog X.w H s.heap a (.dT kvs) from I.hok a _ ea)
    exact PySem.W.kia_one PySem.W.kitx_dict I.kIn ⟨o,h1,h2.1⟩ e (fun z=>nomatch z) h
  | @ins a C dx fs ea cl ha hn htk hm=>
    cases (show u = Value.ref a from rx)
    obtain⟨mA,O,_⟩:=ins_get I.hok ea
    obtain⟨od,J,_⟩:=O.look
    exact PySem.W.kia_one (PySem.W.kitx_own (cl.get _) cl.hd ha hn htk hm) I.kIn J e (fun z=>nomatch z) h
end
end L2
namespace L2
open PySem PySem.Spec PyProof.Rows
structure Room (k:Nat) (A:Around):Prop where
  hd:A.handled = none
  dp:A.depth + 3 * k + 5 < recursionLimit
  un:A.units + 16 * k + 200 < cLine
theorem Room.mono {j k:Nat} {A:Around} (r:Room k A) (h:j≤k):Room j A:=⟨r.hd,by have:=r.dp;omega,by have:=r.un;omega⟩
theorem Room.deeper {k:Nat} {A:Around} (r:Room (k + 1) A) (env:Env):Room k (A.deeper env):=
  ⟨r.hd,by have:=r.dp;show A.depth + 1 + 3 * k + 5 < _;omega,by have:=r.un;show A.units + 3 + 16 * k + 200 < _;omega⟩
theorem Room.depth {k:Nat} {A:Around} (r:Room k A):A.depth < recursionLimit:=by have:=r.dp;omega
theorem Room.units {k:Nat} {A:Around} (r:Room k A):A.units + 64 < cLine:=by have:=r.un;omega
def tNil:TA:=fun _ H Q=>Q [] H
def tCons (ta:TE) (tr:TA):TA:=fun σ H Q=>ta σ H fun x H1=>tr σ H1 fun xs H2=>Q (x :: xs) H2
section
variable {X:Cx} {e:Expr} {es:List Expr} {te:TE} {t:TA} {pos:Pos}
theorem pa_nil:PA X [] tNil:=fun _ _ _ _ H Q I h=>Calls.spliced_nil ⟨[],H,I,.nil,h⟩
theorem pa_cons (ha:PE X e te) (hr:PA X es t) (hs:starEach (e :: es) X.env = (false,eval e X.env) :: starEach es X.env:=by rfl):PA X (e :: es) (tCons te t):=by
  intro pos pins s σ H Q I h
  rw [hs]
  show wpAny _ _ (spliced ((false,eval e X.env) :: backTo pos (starEach es X.env))) _ _ s
  refine Calls.spliced_cons (thn (ha pins s σ H _ I h) fun u s1 ⟨x,H1,I1,r1,q1⟩=>?_)
  exact thn (hr pos pins s1 σ H1 _ I1 q1) fun us s2 ⟨xs,H2,I2,r2,q2⟩=>⟨x :: xs,H2,I2,.cons r1 r2,q2⟩
def tTup (t:TA):TE:=fun σ H Q=>t σ H fun xs H1=>xs.length≤sizeLine∧∀p,H1 p = none→Q (.ref p) (upd H1 p (.tup xs))
def tLst (t:TA):TE:=fun σ H Q=>t σ H fun xs H1=>xs.length≤sizeLine∧∀p,H1 p = none→Q (.ref p) (upd H1 p (.lst xs))
theorem pe_tup {x1} (h:PA X es t):PE X (.Tuple es x1 pos) (tTup t):=by
  intro pins s σ H Q I hq
  refine wpAny_Tuple_spliced (thn (h pos pins s σ H _ I hq) fun us s1 ⟨xs,H1,I1,r,z,q⟩=>⟨by rw [←r.length];exact z,?_⟩)
  have hf:H1 s1.heap.objs.size = none:=I1.hok.fresh (Nat.le_refl _)
  refine⟨.ref s1.heap.objs.size,upd H1 s1.heap.objs.size (.tup xs),I1.laid (t':=s1.toks) (fun b u e=>Heap.get?_push_of_some _ e) (Nat.le_refl _) ?_,rfl,q _ hf⟩
  exact⟨z,us,r,⟨_,Heap.get?_push_size _ rfl,rfl,_,rfl⟩⟩
theorem pe_lst (h:PA X es t):PE X (.List es pos) (tLst t):=by
  intro pins s σ H Q I hq
  refine wpAny_List_spliced (thn (h pos pins s σ H _ I hq) fun us s1 ⟨xs,H1,I1,r,z,q⟩=>⟨by rw [←r.length];exact z,?_⟩)
  have hf:H1 s1.heap.objs.size = none:=I1.hok.fresh (Nat.le_refl _)
  refine⟨.ref s1.heap.objs.size,upd H1 s1.heap.objs.size (.lst xs),I1.laid (t':=s1.toks) (fun b u e=>Heap.get?_push_of_some _ e) (Nat.le_refl _) ?_,rfl,q _ hf⟩
  exact⟨z,us,0,r,Heap.get?_push_size _ rfl⟩
end
abbrev Sp:=List V→Hp→VK→XK→Prop
abbrev CXT:=List Env→Hp→Shared→XK→Value→Shared→Prop
structure Env0 (P:Program) (w:World) (K:PySem.W.Frag) (mg:Str→Option Value) (base:Heap) (A:Around) (outer:List Env) (s:Shared) (H:Hp):Prop where
  frames:A.frames = some outer
  mod:Mod K mg base
  bs:∀b o,base.get? b = some o→s.heap.get? b = some o∧H b = none
  bsz:base.objs.size≤s.heap.objs.size
  funs:s.heap.FunFrames base outer
  frf:∀b∈frs outer,H b = none
  hok:HOk P w H s.heap
  bare:AllBare s.gens
def CE (outer:List Env) (P:Program) (w:World) (H:Hp) (s:Shared) (Q:VK) (u:Value) (s':Shared):Prop:=
  ∃v H',s'.os = s.os∧AllBare s'.gens∧Un (frs outer) [] H H' s.heap s'.heap∧HOk P w H' s'.heap∧RelV v u∧Q v H'
def CR (CX:CXT) (outer:List Env) (P:Program) (w:World) (H:Hp) (s:Shared) (Q:VK) (E:XK) (r:Result) (s':Shared):Prop:=
  match r with
  | .ok (.ret u)=>CE outer P w H s Q u s'
  | .ok _=>False
  | .error e=>CX outer H s E e s'
structure FnOk (P:Program) (w:World) (K:PySem.W.Frag) (mg:Str→Option Value) (base:Heap) (CX:CXT) (k:Nat) (f:Addr) (fd:FuncData) (ps:List Str) (sp:Sp):Prop where
  len:∀vs H Q E,sp vs H Q E→vs.length = ps.length
  run:∀(A:Around) (outer:List Env) (s:Shared) (H:Hp) (args:Args) (us:List Value) (vs:List V) (Q:VK) (E:XK),Room k A→Env0 P w K mg base A outer s H→BindsTo s fd args (ps.zip us)→Vals vs us→sp vs H Q E→
    codeAny (model P w) A (.call (.ref f) args) (CR CX outer P w H s Q E) s
section
variable {X:Cx} {pins:List (Addr×Obj)} {σ:St} {H:Hp} {s s':Shared}
theorem Inv.env0 (I:Inv X pins σ H s):Env0 X.prog X.w X.K X.mg X.base X.A X.stack s H:=
  ⟨I.ok.frames,I.ok.mod,I.bs,Nat.le_trans I.ok.bsz I.sz,I.stack,I.stkFree,I.hok,I.bare⟩
theorem Inv.after {Q:VK} {u:Value} (I:Inv X pins σ H s) (h:CE X.stack X.prog X.w H s Q u s'):EP X pins σ Q u s':=by
  obtain⟨v,H',os,bare,un,hok,r,q⟩:=h
  obtain⟨hh,g,d,t,os'⟩:=s'
  obtain rfl:os' = s.os:=os
  exact⟨v,H',I.call (h':=hh) (g':=g) (d':=d) (t':=t) (ch:=[]) un hok bare (fun b z=>absurd z (by simp)),r,q⟩
end
def tCall (sp:Sp) (dvs:List V) (E:XK) (t:TA):TE:=fun σ H Q=>t σ H fun vs H1=>sp (vs ++ dvs) H1 Q E
def tMeth (C:Addr) (m:Str) (sp:Sp) (dvs:List V) (E:XK) (ta:TE) (t:TA):TE:=fun σ H Q=>ta σ H fun x H1=>∃a dx fs,x = .ref a∧H1 a = some (.ins C dx fs)∧fs.lookup m = none∧
  t σ H1 fun vs H2=>sp (x :: (vs ++ dvs)) H2 Q E
def tMake (C:Addr) (sp:Sp) (dvs:List V) (E:XK) (t:TA):TE:=fun σ H Q=>t σ H fun vs H1=>∀x dx,H1 x = none→H1 dx = none→dx≠x→
  sp (.ref x :: (vs ++ dvs)) (upd (upd H1 dx (.own x)) x (.ins C dx [])) (fun v H2=>v = .non∧Q (.ref x) H2) E
def Binds (K:PySem.W.Frag) (fd:FuncData) (ps:List Str) (ds:List Value):Prop:=
  ∀(s:Shared) (us:List Value),K.In s.heap→(us ++ ds).length = ps.length→BindsTo s fd ⟨us, []⟩ (ps.zip (us ++ ds))
theorem Binds.all {K:PySem.W.Frag} {fd:FuncData} {ps:List Str} (h:∀us:List Value,us.length = ps.length→bindArgs fd ⟨us, []⟩ = pure (ps.zip us)):Binds K fd ps []:=fun s us _ hl=>by
  rw [List.append_nil] at hl ⊢
  exact .of_eq (h us hl)
def Passes (CX:CXT) (X:Cx) (E:XK):Prop:=∀(pins:List (Addr×Obj)) (σ:St) (H:Hp) (s:Shared) (e:Value) (s':Shared),Inv X pins σ H s→CX X.stack H s E e s'→X.xe e s'
section
variable {X:Cx} {CX:CXT} {k:Nat} {f C:Addr} {fd:FuncData} {ps:List Str} {sp:Sp} {dvs:List V} {ds:List Value} {E:XK} {x m:Str} {p pos apos:Pos} {e o:Expr} {es:List Expr} {ta:TE} {t:TA}
theorem run_fn {pins:List (Addr×Obj)} {σ:St} {H:Hp} {s:Shared} {Q:VK} {us:List Value} {vs:List V} (F:FnOk X.prog X.w X.K X.mg X.base CX k f fd ps sp) (hr:Room k X.A) (hb:Binds X.K fd ps ds) (hd:Vals dvs ds) (hx:Passes CX X E)
    (I:Inv X pins σ H s) (r:Vals vs us) (h:sp (vs ++ dvs) H Q E):wpAny (model X.prog X.w) X.A (call (.ref f) us) (EP X pins σ Q) X.xe s:=by
  have r2:Vals (vs ++ dvs) (us ++ ds):=r.append hd
  have hl:(us ++ ds).length = ps.length:=by rw [←r2.length];exact F.len _ _ _ _ h
  refine wpAny_call (codeAny_mono (F.run X.A X.stack s H ⟨us, []⟩ (us ++ ds) (vs ++ dvs) Q E hr I.env0 (hb s us I.kIn hl) r2 h) fun r s' hq=>?_)
  cases r with
  | error e=>exact hx pins σ H s e s' I hq
  | ok fl=>
    cases fl with
    | ret u=>exact I.after hq
    | next=>exact False.elim hq
    | brk=>exact False.elim hq
    | cont=>exact False.elim hq
theorem pe_call (F:FnOk X.prog X.w X.K X.mg X.base CX k f fd ps sp) (hr:Room k X.A) (hg:Gl X x) (hm:X.mg x = some (.ref f)) (hk:PySem.W.keepIn X.K (.ref f) = true) (hb:Binds X.K fd ps ds) (hd:Vals dvs ds) (hx:Passes CX X E)
    (ha:PA X (e :: es) t) (hdb:(x == ("__debug__":Str)) = false:=by decide) (he:starEach (e :: es) X.env = (false,eval e X.env) :: starEach es X.env:=by rfl) (hpl:(backTo pos (starEach es X.env)).any (·.1) = false:=by rfl) :
    PE X (.Call (.Name x p) (e :: es) [] pos) (tCall sp dvs E t):=by
  intro pins s σ H Q I h
  refine wpAny_Call_Name_kw (ld_glob I hg hm ?_ hdb)
  refine PySem.W.callWith_K (h₀:=X.base) I.ok.mod.kin hk (thn (ha pos pins s σ H _ I h) fun us s1 ⟨vs,H1,I1,r,q⟩=>⟨I1.kIn,?_⟩) he hpl
  exact run_fn F hr hb hd hx I1 r q
structure Mk (K:PySem.W.Frag) (C f:Addr):Prop where
  makes:PySem.W.makesIn K C = true
  init:PySem.W.findIn K (.ref C) "__init__" = some (some (.ref f))
  fn:PySem.W.isFn K (.ref f) = true
  kp:PySem.W.keepIn K (.ref C) = true
end
def PK (X:Cx) (kws:List Keyword) (t:TA):Prop:=
  ∀(pos:Pos) (pins:List (Addr×Obj)) (s:Shared) (σ:St) (H:Hp) (Q:List V→Hp→Prop),Inv X pins σ H s→t σ H Q→wpAny (model X.prog X.w) X.A (evalAll ((backToKw pos (keywordEach kws X.env)).map (·.2))) (AP X pins σ Q) X.xe s
section
variable {X:Cx} {CX:CXT} {k:Nat} {f C:Addr} {fd:FuncData} {ps ks:List Str} {sp:Sp} {E:XK} {x m:Str} {p pos apos kpos:Pos} {e o:Expr} {es:List Expr} {kws:List Keyword} {te ta:TE} {t tk:TA} {nm:Option Str}
structure KBinds (K:PySem.W.Frag) (fd:FuncData) (ps ks:List Str) (g:List Value→List Value→List Value) (gV:List V→List V→List V):Prop where
  to:∀(s:Shared) (us ws:List Value),K.In s.heap→(g us ws).length = ps.length→BindsTo s fd ⟨us,ks.zip ws⟩ (ps.zip (g us ws))
  rel:∀{vs:List V} {us:List Value} {zs:List V} {ws:List Value},Vals vs us→Vals zs ws→Vals (gV vs zs) (g us ws)
def tCallK (sp:Sp) (gV:List V→List V→List V) (E:XK) (t tk:TA):TE:=fun σ H Q=>t σ H fun vs H1=>tk σ H1 fun zs H2=>sp (gV vs zs) H2 Q E
variable {g:List Value→List Value→List Value} {gV:List V→List V→List V}
end
structure FnScope (N P:List Str) (sc:Scope):Prop where
  kind:sc.kind = .function
  co:sc.isCoroutine = false
  gen:sc.isGenerator = false
  nd:N.Nodup
  pre:N.take P.length = P
  par:∀x∈P,sc.names.lookup x = some .local∨sc.names.lookup x = some .cell
  nofree:∀y∈sc.names,y.2≠ .free
theorem bindL_out {kindOf:Str→Option NameKind} {x:Str}:∀{binds:List (Str×Value)} {m:Str→Option Value},(∀v,(x,v)∉binds)→bindL kindOf binds m x = m x
  | [],_,_=>rfl
  | (n,v) :: r,m,h=>by
    unfold bindL
    rw [bindL_out fun w hw=>h w (List.mem_cons_of_mem _ hw)]
    split
    · have:x≠n:=by rintro rfl;exact h v List.mem_cons_self
      simp [this]
    · rfl
theorem bindC_out {kindOf:Str→Option NameKind} {x:Str}:∀{binds:List (Str×Value)} {m:Str→Option Value},(∀v,(x,v)∉binds)→bindC kindOf binds m x = m x
  | [],_,_=>rfl
  | (n,v) :: r,m,h=>by
    unfold bindC
    rw [bindC_out fun w hw=>h w (List.mem_cons_of_mem _ hw)]
    split
    · rfl
    · have:x≠n:=by rintro rfl;exact h v List.mem_cons_self
      simp [this]
theorem bindL_get {kindOf:Str→Option NameKind} {x:Str} {v:Value}:∀{P:List Str} {vs:List Value} {i:Nat} {m:Str→Option Value},P.Nodup→P[i]? = some x→vs[i]? = some v→kindOf x = some .local→
    bindL kindOf (P.zip vs) m x = some v
  | [],_,_,_,_,h,_,_=>by simp at h
  | _ :: _, [],_,_,_,_,h,_=>by simp at h
  | p :: P,w :: vs,0,m,nd,h1,h2,hk=>by
    simp at h1 h2;subst h1;subst h2
    show bindL kindOf ((p,w) :: P.zip vs) m p = _
    unfold bindL
    rw [bindL_out fun v hv=>(List.nodup_cons.mp nd).1 (List.of_mem_zip hv).1,if_pos hk]
    simp
  | p :: P,w :: vs,i + 1,m,nd,h1,h2,hk=>by
    show bindL kindOf ((p,w) :: P.zip vs) m x = _
    unfold bindL
    exact bindL_get (i:=i) (List.nodup_cons.mp nd).2 (by simpa using h1) (by simpa using h2) hk
theorem bindC_get {kindOf:Str→Option NameKind} {x:Str} {v:Value}:∀{P:List Str} {vs:List Value} {i:Nat} {m:Str→Option Value},P.Nodup→P[i]? = some x→vs[i]? = some v→kindOf x≠some .local→
    bindC kindOf (P.zip vs) m x = some v
  | [],_,_,_,_,h,_,_=>by simp at h
  | _ :: _, [],_,_,_,_,h,_=>by simp at h
  | p :: P,w :: vs,0,m,nd,h1,h2,hk=>by
    simp at h1 h2;subst h1;subst h2
    show bindC kindOf ((p,w) :: P.zip vs) m p = _
    unfold bindC
    rw [bindC_out fun v hv=>(List.nodup_cons.mp nd).1 (List.of_mem_zip hv).1,if_neg hk]
    simp
  | p :: P,w :: vs,i + 1,m,nd,h1,h2,hk=>by
    show bindC kindOf ((p,w) :: P.zip vs) m x = _
    unfold bindC
    exact bindC_get (i:=i) (List.nodup_cons.mp nd).2 (by simpa using h1) (by simpa using h2) hk
def start (N:List Str) (vs:List V):St:=vs.map some ++ List.replicate (N.length - vs.length) none
def cxOf (CX:CXT) (P:Program) (w:World) (K:PySem.W.Frag) (mg:Str→Option Value) (base:Heap) (N:List Str) (qual:Str) (scope:Scope) (f:Addr) (cd:Value) (A:Around) (outer:List Env) (s:Shared) (H:Hp) (E:XK):Cx where
  prog:=P
  w:=w
  K:=K
  mg:=mg
  base:=base
  A:=A.deeper (envOfC qual scope s.heap.objs.size f cd)
  N:=N
  s₀:=s
  H₀:=H
  env:=envOfC qual scope s.heap.objs.size f cd
  outer:=outer
  stack:=envOfC qual scope s.heap.objs.size f cd :: outer
  ex:=[]
  calm:=true
  fn:=fun _=>true
  pn:=[]
  xe:=fun e s'=>wpAny (model P w) (A.deeper (envOfC qual scope s.heap.objs.size f cd)) (leaving (envOfC qual scope s.heap.objs.size f cd) e) (fun _ s''=>CX outer H s E e s'') (fun e' s''=>CX outer H s E e' s'') s'
theorem cell_has {sc:Scope} {n:Nat} {x:Str} (h:sc.names.lookup x = some .cell):∃c,(cellsFrom n sc.names []).lookup x = some c:=by
  have q:=PySem.W.cellsFrom_some sc.names n [] (.inl h)
  exact Option.isSome_iff_exists.mp q
theorem inv_start {CX:CXT} {P:Program} {w:World} {K:PySem.W.Frag} {mg:Str→Option Value} {base:Heap} {N ps:List Str} {qual:Str} {scope:Scope} {f:Addr} {cd:Value} {A:Around} {outer:List Env} {s s1:Shared} {H:Hp} {E:XK} {us:List Value} {vs:List V}
    (S:FnScope N ps scope) (hd:A.handled = none) (e0:Env0 P w K mg base A outer s H) (hl:vs.length = ps.length) (r:Vals vs us)
    (x:InCallC s s.heap.objs.size (bindL (envOfC qual scope s.heap.objs.size f cd).kindOf (ps.zip us) fun _=>none) (cellsFrom (s.heap.objs.size + 1) scope.names []) (bindC (envOfC qual scope s.heap.objs.size f cd).kindOf (ps.zip us) fun _=>none) s1) :
    Inv (cxOf CX P w K mg base N qual scope f cd A outer s H E) [] (start N vs) H s1:=by
  have hpl:ps.length≤N.length:=by have:=congrArg List.length S.pre;rw [List.length_take] at this;omega
  obtain⟨h1,tk,rfl,hk⟩:=x.done
  have noA:∀b:Addr,b∉(cxOf CX P w K mg base N qual scope f cd A outer s H E).ex:=fun b z=>absurd (show b∈([]:List Addr) from z) (by simp)
  refine⟨⟨e0.mod,S.kind,rfl,rfl,Nat.le_refl _,fun y z c h1 h2=>?_,fun y hy=>?_,fun y c _ h=>?_,fun _=>hd,Around.frames_deeper e0.frames,.inr ⟨rfl,rfl⟩,fun b z=>absurd z (noA b),e0.bs,e0.bsz,fun b _ _=>noA b,fun b z=>absurd z (noA b),e0.funs,e0.frf⟩,
    rfl,e0.bare,Un.kept hk,⟨_,x.toInCall.ns,fun i y v h1 h2 h3=>?_⟩,fun y c h=>⟨_,x.cell y c h⟩,e0.hok.fresh (Nat.le_refl _),fun y c h=>?_,fun p hp=>absurd (show p∈([]:List (Addr×Obj)) from hp) (by simp),e0.hok.kept hk,?_⟩
  · exact name_of_addr x.apart (PySem.mem_of_lookup h1) (PySem.mem_of_lookup h2)
  · have hy:scope.names.lookup y = some .cell∨scope.names.lookup y = some .free:=hy
    rcases hy with hy | hy
    · exact cell_has hy
    · exact absurd rfl (S.nofree _ (PySem.mem_of_lookup hy))
  · exact Nat.le_of_lt (x.above y c (PySem.mem_of_lookup h))
  · have hi:i < vs.length:=by
      unfold start at h2
      by_cases hi:i < vs.length
      · exact hi
      · rw [List.getElem?_append_right (by simpa using hi)] at h2
        rw [List.getElem?_replicate] at h2
        split at h2 <;> cases h2
    have ha:vs[i]? = some v:=by
      unfold start at h2
      rw [List.getElem?_append_left (by simpa using hi),List.getElem?_map] at h2
      cases e:vs[i]? with
      | none=>rw [e] at h2;cases h2
      | some a=>rw [e] at h2;cases h2;rfl
    obtain⟨u,hu,rv⟩:=r.get ha
    have hp:ps[i]? = some y:=by
      rw [←S.pre,List.getElem?_take_of_lt (by omega)];exact h1
    have ndP:ps.Nodup:=by rw [←S.pre];exact S.nd.sublist (List.take_sublist _ _)
    refine⟨u,rv,?_⟩
    rcases S.par y (List.mem_of_getElem? hp) with k | k
    · exact .inl ⟨k,bindL_get ndP hp hu k⟩
    · obtain⟨c,e⟩:=cell_has (n:=s.heap.objs.size + 1) k
      refine .inr ⟨.inl k,c,e,?_⟩
      have q:=x.cell y c e
      rw [bindC_get ndP hp hu (by show scope.names.lookup y≠_;rw [k];decide)] at q
      exact q
  · exact e0.hok.fresh (Nat.le_of_lt (x.above y c (PySem.mem_of_lookup h)))
  · unfold start
    show _ = N.length
    rw [List.length_append,List.length_map,List.length_replicate]
    omega
theorem fn_of {CX:CXT} {P:Program} {w:World} {K:PySem.W.Frag} {mg:Str→Option Value} {base:Heap} {k:Nat} {f:Addr} {name qual:Str} {params:Arguments} {body:List Stmt} {scope:Scope} {dV kV doc pm cdv ct oc:Value} {an od:Option Addr}
    {osl:Array (Option Value)} {N ps:List Str} {sp:Sp} (lk:K.lookup f = some ⟨oc,od,.func (PySem.W.fnOf name qual params body scope dV kV doc pm an cdv ct),osl⟩) (hcd:PySem.W.codeIn K cdv qual = true) (S:FnScope N ps scope)
    (len:∀vs H Q E,sp vs H Q E→vs.length = ps.length)
    (hbody:∀(A:Around) (outer:List Env) (s:Shared) (H:Hp) (vs:List V) (Q:VK) (E:XK),Room k (A.deeper (envOfC qual scope s.heap.objs.size f cdv))→sp vs H Q E→
      ∃t,PSs (cxOf CX P w K mg base N qual scope f cdv A outer s H E) body t∧t { nx:=fun _ H'=>Q .non H',rt:=Q } (start N vs) H) :
    FnOk P w K mg base CX (k + 1) f (PySem.W.fnOf name qual params body scope dV kV doc pm an cdv ct) ps sp:=by
  refine⟨len,fun A outer s H args us vs Q E hr e0 hb r hsp=>?_⟩
  have hl:=len _ _ _ _ hsp
  have KX:K.In s.heap:=e0.mod.kin.keeps fun b o e=>(e0.bs b o e).1
  have lim:s.heap.NoLimit:=e0.mod.nolimit.keeps fun b o e=>(e0.bs b o e).1
  have hkind:∀y∈ps.zip us,scope.names.lookup y.1 = some .local∨(scope.names.lookup y.1 = some .cell∧((cellsFrom (s.heap.objs.size + 1) scope.names []).lookup y.1).isSome = true):=fun ⟨n,v⟩ hy=>by
    rcases S.par n (List.of_mem_zip hy).1 with q | q
    · exact .inl q
    · exact .inr ⟨q,PySem.W.cellsFrom_some _ _ _ (.inl q)⟩
  refine codeAny_call_function hr.depth (KX _ _ lk) rfl S.co S.gen rfl (PySem.W.codeRec_of KX hcd) (hb _ _ _ _ ?_)
  refine wpAny_newFunctionEnv_cells S.kind hkind fun env he s1 x=>?_
  subst he
  refine⟨lim.keeps x.toInCall.keep,codeAny_func ?_⟩
  obtain⟨t,ht,hq⟩:=hbody A outer s H vs Q E (hr.deeper _) hsp
  have I:Inv (cxOf CX P w K mg base N qual scope f cdv A outer s H E) [] (start N vs) H s1:=inv_start S hr.hd e0 hl r x
  refine wpAny_mono (ht [] s1 (start N vs) H _ I hq) (fun fl s' hs=>?_) fun e s' hs=>hs
  have fin:∀{σ':St} {H':Hp} {v:V} {u:Value},Inv (cxOf CX P w K mg base N qual scope f cdv A outer s H E) [] σ' H' s'→RelV v u→Q v H'→CE outer P w H s Q u s':=
    fun {σ' H' v u} J rv q=>⟨v,H',J.os,J.bare,J.base,J.hok,rv,q⟩
  cases fl with
  | ret u=>
    obtain⟨v,σ',H',J,rv,q⟩:=hs
    exact fin J rv q
  | next=>
    obtain⟨σ',H',J,q⟩:=hs
    exact fin (v:=V.non) (u:=Value.none) J rfl q
  | brk=>
    obtain⟨_,_,_,q⟩:=hs
    exact False.elim q
  | cont=>
    obtain⟨_,_,_,q⟩:=hs
    exact False.elim q
end L2
namespace L2
open PySem PySem.Spec PyProof.Rows
section
variable {X:Cx} {x:Str} {p pos:Pos} {e:Expr} {es:List Expr} {t:TA} {id T:String} {r:List V→Hp→VK→Prop}
def tCB (r:List V→Hp→VK→Prop) (t:TA):TE:=fun σ H Q=>t σ H fun vs H1=>r vs H1 Q
theorem pe_callB (hc:CallR X (.builtin id) r) (hg:Gl X x) (hm:X.mg x = none) (hv:bootBuiltins x = some (.builtin id)) (ha:PA X (e :: es) t) (hn:x≠"__name__":=by decide) (hdb:(x == ("__debug__":Str)) = false:=by decide)
    (he:starEach (e :: es) X.env = (false,eval e X.env) :: starEach es X.env:=by rfl) (hpl:(backTo pos (starEach es X.env)).any (·.1) = false:=by rfl):PE X (.Call (.Name x p) (e :: es) [] pos) (tCB r t):=by
  intro pins s σ H Q I h
  refine wpAny_Call_Name_kw (ld_blt I hg hm hv ?_ hn hdb)
  exact PyProof.Rows.callWith_builtin1 (thn (ha pos pins s σ H _ I h) fun us s1 ⟨vs,H1,I1,r1,q1⟩=>hc pins s1 σ H1 vs us Q I1 r1 q1) he hpl
theorem pe_callTy (hc:CallR X (.type T) r) (hg:Gl X x) (hm:X.mg x = none) (hv:bootBuiltins x = some (.type T)) (ha:PA X (e :: es) t) (hn:x≠"__name__":=by decide) (hdb:(x == ("__debug__":Str)) = false:=by decide)
    (he:starEach (e :: es) X.env = (false,eval e X.env) :: starEach es X.env:=by rfl) (hpl:(backTo pos (starEach es X.env)).any (·.1) = false:=by rfl):PE X (.Call (.Name x p) (e :: es) [] pos) (tCB r t):=by
  intro pins s σ H Q I h
  refine wpAny_Call_Name_kw (ld_blt I hg hm hv ?_ hn hdb)
  exact PyProof.Rows.callWith_type1 (thn (ha pos pins s σ H _ I h) fun us s1 ⟨vs,H1,I1,r1,q1⟩=>hc pins s1 σ H1 vs us Q I1 r1 q1) he hpl
end
end L2
namespace HT
open PySem PyProof.Rows
def lexLt:List Int→List Int→Bool
  | [], []=>false
  | [],_ :: _=>true
  | _ :: _, []=>false
  | x :: xs,y :: ys=>if x = y then lexLt xs ys else decide (x < y)
section
open PySem.SeqAt
open PySem.AutoSeq1 (wpAny_loadPart')
open PySem.MeetsSeq PySem.MeetsSeq2 PySem.MeetsSeq3
end
section
variable {prog:Program} {w:World} {A:Around} {E:Value→Shared→Prop} {s:Shared}
def sIx (n d:Nat):Option Int→Nat
  | none=>d
  | some v=>if v < 0 then (v + (n:Int)).toNat else min v.toNat n
end
end HT
namespace L2
open PySem PySem.Spec PyProof.Rows
abbrev TO:=St→Hp→(Option Int→Hp→Prop)→Prop
def PO (X:Cx) (e:Option Expr) (t:TO):Prop:=
  ∀ (pins:List (Addr×Obj)) (s:Shared) (σ:St) (H:Hp) (Q:Option Int→Hp→Prop),Inv X pins σ H s→t σ H Q→
    wpAny (model X.prog X.w) X.A (evalPart e X.env) (fun u s'=>∃o H',Inv X pins σ H' s'∧IsPart u o∧Q o H') X.xe s
def tNoPart:TO:=fun _ H Q=>Q none H
def tPart (t:TE):TO:=fun σ H Q=>t σ H fun x H1=>∃i,x = .int i∧Q (some i) H1
section
variable {X:Cx} {e:Expr} {te:TE} {lo hi:Option Expr} {tl th:TO} {pos p2:Pos}
theorem po_none:PO X none tNoPart:=by
  intro pins s σ H Q I h
  rw [evalPart_none]
  exact wpAny_pure ⟨none,H,I,.none,h⟩
theorem po_some (h:PE X e te):PO X (some e) (tPart te):=by
  intro pins s σ H Q I hw
  rw [evalPart_some]
  refine thn (h pins s σ H _ I hw) fun u s1 ⟨x,H1,I1,r1,q1⟩=>?_
  obtain⟨i,rfl,q⟩:=q1
  obtain⟨t,rfl⟩:=r1
  exact⟨some i,H1,I1,.int i t,q⟩
def SlR (X:Cx) (r:V→Option Int→Option Int→Hp→VK→Prop):Prop:=
  ∀ (pins:List (Addr×Obj)) (s:Shared) (σ:St) (H:Hp) (x:V) (v vl vu:Value) (lo hi:Option Int) (sl:Addr) (Q:VK),Inv X pins σ H s→RelV x v→s.heap.IsSliceOf sl vl vu .none→IsPart vl lo→IsPart vu hi→r x lo hi H Q→
    ∃T id,typeLookup (.type T) "__getitem__" = pure (some (.builtin id))∧s.TypeIs v T∧wpAny (model X.prog X.w) X.A (getItem v (.ref sl)) (EP X pins σ Q) X.xe s
def tSl (r:V→Option Int→Option Int→Hp→VK→Prop) (te:TE) (tl th:TO):TE:=fun σ H Q=>te σ H fun x H1=>tl σ H1 fun l H2=>th σ H2 fun u H3=>r x l u H3 Q
theorem pe_slice {r:V→Option Int→Option Int→Hp→VK→Prop} (hr:SlR X r) (he:PE X e te) (hl:PO X lo tl) (hu:PO X hi th):PE X (.Subscript e (.Slice lo hi none p2) pos) (tSl r te tl th):=by
  intro pins s σ H Q I h
  refine Subscript_ (thn (he pins s σ H _ I h) fun v s1 ⟨x,H1,I1,r1,q1⟩=>?_)
  refine wpAny_Slice (thn (hl pins s1 σ H1 _ I1 q1) fun vl s2 ⟨l,H2,I2,pl,q2⟩=>thn (hu pins s2 σ H2 _ I2 q2) fun vu s3 ⟨u,H3,I3,pu,q3⟩=>?_)
  rw [evalPart_none]
  refine wpAny_pure ?_
  have I4:Inv X pins σ H3 { s3 with heap:=s3.heap.push { cls:= .type "slice",data:= .fields #[vl,vu,.none] } }:=I3.kept (t':=s3.toks) fun b ob q=>Heap.get?_push_of_some _ q
  obtain⟨T,id,hT,ht,hg⟩:=hr pins { s3 with heap:=s3.heap.push { cls:= .type "slice",data:= .fields #[vl,vu,.none] } } σ H3 x v vl vu l u s3.heap.objs.size Q I4 r1 (Heap.IsSliceOf.new ..) pl pu q3
  show wpAny (model X.prog X.w) X.A (subscriptTail e (.Slice lo hi none p2) v (.ref s3.heap.objs.size)) (EP X pins σ Q) X.xe { s3 with heap:=s3.heap.push { cls:= .type "slice",data:= .fields #[vl,vu,.none] } }
  exact tail_any (ops:=[.ref s3.heap.objs.size,v]) ht hT hg (by with_unfolding_all rfl)
def cutV (xs:List V) (lo hi:Option Int):List V:=(xs.drop (HT.sIx xs.length 0 lo)).take (HT.sIx xs.length xs.length hi - HT.sIx xs.length 0 lo)
theorem cutV_length (xs:List V) (lo hi:Option Int):(cutV xs lo hi).length≤xs.length:=by
  unfold cutV
  rw [List.length_take,List.length_drop]
  omega
def rSlT (K:PySem.W.Frag):V→Option Int→Option Int→Hp→VK→Prop:=fun x lo hi H Q=>∃a xs,x = .ref a∧SqT K H a xs∧
  ¬ (HT.sIx xs.length 0 lo = 0∧HT.sIx xs.length xs.length hi = xs.length)∧∀p,H p = none→Q (.ref p) (upd H p (.tup (cutV xs lo hi)))
def rLtT (K:PySem.W.Frag):R2:=fun x y H Q=>∃a b ns ms,x = .ref a∧y = .ref b∧SqT K H a (ns.map V.int)∧SqT K H b (ms.map V.int)∧Q (.bl (HT.lexLt ns ms)) H
def rCatT (K:PySem.W.Frag):R2:=fun x y H Q=>∃a b xs ys,x = .ref a∧y = .ref b∧SqT K H a xs∧SqT K H b ys∧xs≠ []∧xs.length + ys.length≤sizeLine∧
  (ys = []→Q (.ref a) H)∧(ys≠ []→∀p,H p = none→Q (.ref p) (upd H p (.tup (xs ++ ys))))
end
end L2
namespace L2
open PySem PySem.Spec PyProof.Rows
def ixN (n:Nat) (i:Int):Option Nat:=if 0≤i then (if i < n then some i.toNat else none) else if -(n:Int)≤i then some (i + n).toNat else none
def atI {α:Type} (xs:List α) (i:Int):Option α:=(ixN xs.length i).bind fun j=>xs[j]?
theorem ixN_seq {n:Nat} {i:Int} {j:Nat} (h:ixN n i = some j):seqIndex? i n = some j∧j < n∧ -(n:Int)≤i∧i < n:=by
  unfold ixN at h
  by_cases h0:0≤i
  · rw [if_pos h0] at h
    by_cases h1:i < n
    · rw [if_pos h1] at h
      have e:i.toNat = j:=Option.some.inj h
      exact⟨by rw [seqIndex_of h0 h1,e],by omega,by omega,h1⟩
    · rw [if_neg h1] at h;cases h
  · rw [if_neg h0] at h
    by_cases h1: -(n:Int)≤i
    · rw [if_pos h1] at h
      have e:(i + n).toNat = j:=Option.some.inj h
      exact⟨by rw [seqIndex_neg (by omega) h1,e],by omega,h1,by omega⟩
    · rw [if_neg h1] at h;cases h
theorem atI_get {α:Type} {xs:List α} {i:Int} {v:α} (h:atI xs i = some v):∃j,seqIndex? i xs.length = some j∧xs[j]? = some v∧j < xs.length∧ -(xs.length:Int)≤i∧i < xs.length:=by
  unfold atI at h
  cases e:ixN xs.length i with
  | none=>rw [e] at h;cases h
  | some j=>
    rw [e] at h
    obtain⟨h1,h2,h3,h4⟩:=ixN_seq e
    exact⟨j,h1,h,h2,h3,h4⟩
theorem atI_nat {α:Type} {xs:List α} {j:Nat} {v:α} (h:xs[j]? = some v):atI xs (j:Int) = some v:=by
  have hj:j < xs.length:=(List.getElem?_eq_some_iff.mp h).1
  have e:ixN xs.length (j:Int) = some j:=by
    unfold ixN
    rw [if_pos (by omega),if_pos (by omega)];simp
  unfold atI;rw [e];exact h
def PlainIx (b:Expr):Prop:=∀o i,subscripted b false o i = operate [o,i] (getItem o i)
def IxR (X:Cx) (r:R2):Prop:=
  ∀ (value slice:Expr) (pins:List (Addr×Obj)) (s:Shared) (σ:St) (H:Hp) (x y:V) (v u:Value) (Q:VK),Inv X pins σ H s→RelV x v→RelV y u→r x y H Q→
    subscripted slice false v u = operate [v,u] (getItem v u)→wpAny (model X.prog X.w) X.A (subscriptTail value slice v u) (EP X pins σ Q) X.xe s
def MtR (X:Cx) (id:String) (r:V→List V→Hp→VK→Prop):Prop:=
  ∀ (pins:List (Addr×Obj)) (s:Shared) (σ:St) (H:Hp) (x:V) (xs:List V) (v:Value) (us:List Value) (Q:VK),Inv X pins σ H s→RelV x v→Vals xs us→r x xs H Q→
    wpAny (model X.prog X.w) X.A (call (.builtin id) (v :: us)) (EP X pins σ Q) X.xe s
section
variable {X:Cx} {a b:Expr} {ta tb:TE} {pos:Pos}
theorem pe_ix {r:R2} (hr:IxR X r) (ha:PE X a ta) (hb:PE X b tb) (hs:PlainIx b):PE X (.Subscript a b pos) (tOp r ta tb):=by
  intro pins s σ H Q I h
  exact Subscript_ (binT ha hb I h fun v u s2 x y H2 I2 rx ry q=>hr a b pins s2 σ H2 x y v u Q I2 rx ry q (hs _ _))
def rIxL (K:PySem.W.Frag):R2:=fun x y H Q=>∃p xs i v,x = .ref p∧y = .int i∧SqL K H p xs∧atI xs i = some v∧Q v H
def rIxT (K:PySem.W.Frag):R2:=fun x y H Q=>∃p xs i v,x = .ref p∧y = .int i∧SqT K H p xs∧atI xs i = some v∧Q v H
def rIxS:R2:=fun x y H Q=>∃z i c,x = .str z∧y = .int i∧z.length≤sizeLine∧atI z.cps.toList i = some c∧Q (.str ⟨#[c]⟩) H
theorem ix_list:IxR X (rIxL X.K):=by
  intro value slice pins s σ H x y v u Q I rx ry h hs
  obtain⟨p,xs,i,z,rfl,rfl,hq,he,q⟩:=h
  cases rx
  obtain⟨t,rfl⟩:=ry
  obtain⟨its,r,pl,hz⟩:=I.list hq
  obtain⟨j,h1,h2,h3,h4,h5⟩:=atI_get he
  obtain⟨w,ew,rw'⟩:=r.get h2
  have hl:=r.length
  have hn:=line63
  have fin:EP X pins σ Q w s:=⟨z,H,I,rw',q⟩
  by_cases h0:0≤i
  · have hj:i.toNat = j:=by
      rw [seqIndex_of h0 h5] at h1
      exact Option.some.inj h1
    exact item_listR pl.isList h0 (by omega) (by rw [hj];simpa using ew) fin hs
  · have hj:(i + (its.toArray.size:Int)).toNat = j:=by
      rw [seqIndex_neg (by omega) h4] at h1
      rw [List.size_toArray,←hl]
      exact Option.some.inj h1
    exact subscriptTail_builtinR (x:=w) pl.isList.typeIs slot_list_getitem.lookup
      (wpAny_getItem_list_neg (Q:=fun r s'=>r = w∧EP X pins σ Q r s') pl.isList (by omega) (by rw [List.size_toArray] <;> omega) (by omega) (by rw [hj];simpa using ew) ⟨rfl,fin⟩) hs
theorem ix_tup:IxR X (rIxT X.K):=by
  intro value slice pins s σ H x y v u Q I rx ry h hs
  obtain⟨p,xs,i,z,rfl,rfl,hq,he,q⟩:=h
  cases rx
  obtain⟨t,rfl⟩:=ry
  obtain⟨its,r,pl,hz⟩:=I.tuple hq
  obtain⟨j,h1,h2,h3,h4,h5⟩:=atI_get he
  obtain⟨w,ew,rw'⟩:=r.get h2
  have hl:=r.length
  have hn:=line63
  have fin:EP X pins σ Q w s:=⟨z,H,I,rw',q⟩
  exact subscriptTail_builtinR (x:=w) pl.typeIs slot_tuple_getitem.lookup
    (getItem_tuple (j:=j) (Q:=fun r s'=>r = w∧EP X pins σ Q r s') pl (by omega) (by omega) (by rw [List.size_toArray,←hl];exact h1) (by simpa using ew) ⟨rfl,fin⟩) hs
theorem ix_str:IxR X rIxS:=by
  intro value slice pins s σ H x y v u Q I rx ry h hs
  obtain⟨z,i,c,rfl,rfl,hz,he,q⟩:=h
  obtain⟨t,rfl⟩:=rx
  obtain⟨t',rfl⟩:=ry
  obtain⟨j,h1,h2,h3,h4,h5⟩:=atI_get he
  have hl:z.cps.toList.length = z.length:=by simp [Str.length]
  rw [hl] at h1 h4 h5
  have hn:=line63
  exact tail_any (typeIs_str s z t) slot_str_getitem.lookup (getItem_str (c:=c) (by
    have e1:decide (i < -(2 ^ 63:Int)) = false:=decide_eq_false (by omega)
    have e2:decide (i≥2 ^ 63) = false:=decide_eq_false (by omega)
    rw [e1,e2,Bool.or_false]) (by rw [h1];simpa using h2) ⟨.str ⟨#[c]⟩,H,I.tok _,⟨_,rfl⟩,q⟩) hs
def rIx (K:PySem.W.Frag):R2:=fun x y H Q=>rIxL K x y H Q∨rIxT K x y H Q∨rIxS x y H Q
theorem mapSeq_set (its:List Value) (n j:Nat) (u:Value):Obj.mapSeq (·.setIfInBounds j u) { cls:= .type "list",data:= .seq its.toArray n } = { cls:= .type "list",data:= .seq (its.set j u).toArray n }:=by
  simp [Obj.mapSeq]
theorem Inv.lst {pins:List (Addr×Obj)} {σ:St} {H:Hp} {s:Shared} {p:Addr} {xs:List V} (I:Inv X pins σ H s) (h:H p = some (.lst xs)) :
    ∃(its:List Value) (n:Nat),Vals xs its∧s.heap.get? p = some { cls:= .type "list",data:= .seq its.toArray n }∧xs.length≤sizeLine:=by
  obtain⟨z,its,n,r,e⟩:=I.hok p _ h
  exact⟨its,n,r,e,z⟩
theorem Inv.lstUpd {pins:List (Addr×Obj)} {σ:St} {H:Hp} {s:Shared} {p:Addr} {xs ys:List V} {its its':List Value} {n n':Nat} {f:Obj→Obj} (I:Inv X pins σ H s) (h:H p = some (.lst xs))
    (ho:s.heap.get? p = some { cls:= .type "list",data:= .seq its.toArray n }) (hf:f { cls:= .type "list",data:= .seq its.toArray n } = { cls:= .type "list",data:= .seq its'.toArray n' }) (r:Vals ys its') (hz:ys.length≤sizeLine) (t:Nat) :
    Inv X pins σ (upd H p (.lst ys)) { s with heap:=s.heap.update p f,toks:=t }:=by
  have e:(s.heap.update p f).get? p = some { cls:= .type "list",data:= .seq its'.toArray n' }:=by
    rw [Heap.get?_update_self f ho (by rw [hf] <;> rfl),hf]
  refine I.write (x:=p) (e:=p) (by rw [h];trivial) (.inl rfl) (fun b u hb q=>(Heap.get?_update_other _ _ (Ne.symm hb)).trans q) ⟨_,e⟩ ?_
  exact⟨hz,its',n',r,e⟩
def rSetL:V→V→V→Hp→(Hp→Prop)→Prop:=fun o i v H Q=>∃p xs k j,o = .ref p∧i = .int k∧H p = some (.lst xs)∧ixN xs.length k = some j∧Q (upd H p (.lst (xs.set j v)))
theorem set_list:PSet X rSetL:=by
  intro pins s σ H o i v ov iv u Q I ro ri rv h
  obtain⟨p,xs,k,j,rfl,rfl,hp,hj,q⟩:=h
  cases ro
  obtain⟨t,rfl⟩:=ri
  obtain⟨its,n,r,ho,hz⟩:=I.lst hp
  obtain⟨h1,h2,h3,h4⟩:=ixN_seq hj
  have hl:=r.length
  have hn:=line63
  have I':Inv X pins σ (upd H p (.lst (xs.set j v))) { s with heap:=s.heap.update p (Obj.mapSeq (·.setIfInBounds j u)) }:=
    I.lstUpd hp ho (mapSeq_set its n j u) (r.set rv j) (by rw [List.length_set];exact hz) s.toks
  by_cases h0:0≤k
  · have hk:k.toNat = j:=by
      rw [seqIndex_of h0 h4] at h1
      exact Option.some.inj h1
    exact PySem.W.ki_setAt ho h0 (by omega) (by rw [List.size_toArray,←hl];exact h4) (by rw [hk];exact⟨_,I',q⟩)
  · have hk:(k + (its.toArray.size:Int)).toNat = j:=by
      rw [seqIndex_neg (by omega) h3] at h1
      rw [List.size_toArray,←hl]
      exact Option.some.inj h1
    exact PySem.W.ki_setBack ho (by omega) (by rw [List.size_toArray,←hl];exact h3) (by omega) (by rw [hk];exact⟨_,I',q⟩)
theorem slice_bounds (lo hi:Option Int) (n:Nat):(sliceBounds lo hi none n).1 = ((HT.sIx n 0 lo:Nat):Int)∧(sliceBounds lo hi none n).2.1 = ((HT.sIx n n hi:Nat):Int)∧(sliceBounds lo hi none n).2.2 = 1:=by
  refine⟨?_,?_,rfl⟩
  · cases lo with
    | none=>simp [sliceBounds,HT.sIx]
    | some i=>
      simp only [sliceBounds,HT.sIx,Option.getD_none,show (1:Int) > 0 by decide,if_true]
      by_cases h:i < 0
      · simp only [h,if_true] <;> omega
      · simp only [h,if_false] <;> omega
  · cases hi with
    | none=>simp [sliceBounds,HT.sIx]
    | some i=>
      simp only [sliceBounds,HT.sIx,Option.getD_none,show (1:Int) > 0 by decide,if_true]
      by_cases h:i < 0
      · simp only [h,if_true] <;> omega
      · simp only [h,if_false] <;> omega
theorem slicePick_cut (its:List Value) (lo hi:Option Int):slicePick its.toArray lo hi none = ((its.drop (HT.sIx its.length 0 lo)).take (HT.sIx its.length its.length hi - HT.sIx its.length 0 lo)).toArray:=by
  obtain⟨h1,h2,h3⟩:=slice_bounds lo hi its.toArray.size
  unfold slicePick
  rw [h1,h2,h3]
  simp only [sliceRange_one,pick_run,List.size_toArray] <;> rfl
def rSlL (K:PySem.W.Frag):V→Option Int→Option Int→Hp→VK→Prop:=fun x lo hi H Q=>∃a xs,x = .ref a∧SqL K H a xs∧∀p,H p = none→Q (.ref p) (upd H p (.lst (cutV xs lo hi)))
theorem sl_list:SlR X (rSlL X.K):=by
  intro pins s σ H x v vl vu lo hi sl Q I rx hs pl pu h
  obtain⟨a,xs,rfl,hx,q⟩:=h
  cases rx
  obtain⟨its,r,ht,hz⟩:=I.list hx
  have hlen:=r.length
  refine⟨"list",_,slot_list_getitem.lookup,ht.isList.typeIs,?_⟩
  refine wpAny_getItem_list_slice ht.isList hs pl pu .none (by simp) ?_ (by rw [List.size_toArray] <;> omega)
  rw [slicePick_cut,←hlen]
  refine⟨.ref s.heap.objs.size,_,I.laid (t':=s.toks) (o:= .lst (cutV xs lo hi)) (fun b ob q=>Heap.get?_push_of_some _ q) (Nat.le_refl _) ?_,rfl,q _ (I.hok.fresh (Nat.le_refl _))⟩
  exact⟨Nat.le_trans (cutV_length xs lo hi) hz,_,0,(r.drop (HT.sIx xs.length 0 lo)).take (HT.sIx xs.length xs.length hi - HT.sIx xs.length 0 lo),Heap.get?_push_size _ rfl⟩
def flatV:V→Bool
  | .non=>true
  | .bl _=>true
  | .int _=>true
  | .str _=>true
  | _=>false
def eqV:V→V→Bool
  | .non,.non=>true
  | .bl a,.bl b=>a == b
  | .bl a,.int b=>(if a then 1 else 0) == b
  | .int a,.bl b=>a == (if b then 1 else 0)
  | .int a,.int b=>a == b
  | .str a,.str b=>a == b
  | _,_=>false
def eqU (x:V) (u:Value):Bool:=match u with
  | .none=>eqV .non x
  | .bool b=>eqV (.bl b) x
  | .int i _=>eqV (.int i) x
  | .str z _=>eqV (.str z) x
  | _=>false
def inV (x:V) (xs:List V):Bool:=xs.any fun y=>eqV y x
def rIn (K:PySem.W.Frag) (neg:Bool):R2:=fun x y H Q=>∃p xs,y = .ref p∧(SqL K H p xs∨SqT K H p xs)∧flatV x = true∧xs.all flatV = true∧Q (.bl (if neg then !inV x xs else inV x xs)) H
theorem call_len_seq:CallR X (.builtin "len") (fun xs H Q=>∃p ys,xs = [.ref p]∧(SqL X.K H p ys∨SqT X.K H p ys)∧Q (.int ys.length) H):=by
  intro pins s σ H xs us Q I r h
  obtain⟨p,ys,rfl,hq,q⟩:=h
  obtain⟨u,rfl,rx⟩:=vals1 r
  cases rx
  have hn:=line63
  rcases hq with hq | hq
  · obtain⟨its,r',pl,hz⟩:=I.list hq
    have hlen:=r'.length
    exact Calls.call_len_list pl.isList (by simp only [List.size_toArray] <;> omega) ⟨.int ys.length,H,I.tok _,⟨s.toks + 1,by rw [List.size_toArray,hlen]⟩,q⟩
  · obtain⟨its,r',pl,hz⟩:=I.tuple hq
    have hlen:=r'.length
    exact len_tuple pl (by simp only [List.size_toArray] <;> omega) ⟨.int ys.length,H,I.tok _,⟨s.toks + 1,by rw [List.size_toArray,hlen]⟩,q⟩
theorem call_len_str:CallR X (.builtin "len") (fun xs H Q=>∃z,xs = [.str z]∧z.length≤sizeLine∧Q (.int z.length) H):=by
  intro pins s σ H xs us Q I r h
  obtain⟨z,rfl,hz,q⟩:=h
  obtain⟨u,rfl,t,rfl⟩:=vals1 r
  have hn:=line63
  exact len_str (by omega) ⟨.int z.length,H,I.tok _,⟨_,rfl⟩,q⟩
theorem call_list_of:CallR X (.type "list") (fun xs H Q=>∃p ys,xs = [.ref p]∧(SqL X.K H p ys∨SqT X.K H p ys)∧∀l,H l = none→Q (.ref l) (upd H l (.lst ys))):=by
  intro pins s σ H xs us Q I r h
  obtain⟨p,ys,rfl,hq,q⟩:=h
  obtain⟨u,rfl,rx⟩:=vals1 r
  cases rx
  have fin:∀(its:List Value),Vals ys its→ys.length≤sizeLine→∀(h':Heap) (c':Nat),(∀b o',s.heap.get? b = some o'→h'.get? b = some o')→
      h'.get? s.heap.objs.size = some { cls:= .type "list",dict:=none,data:= .seq its.toArray c',slots:=#[] }→EP X pins σ Q (.ref s.heap.objs.size) { s with heap:=h' }:=fun its r' hz h' c' kp e=>
    ⟨.ref s.heap.objs.size,_,I.laid (t':=s.toks) kp (Nat.le_refl _) (show ObjOk X.prog X.w _ h' _ (.lst ys) from ⟨hz,its,c',r',e⟩),rfl,q _ (I.hok.fresh (Nat.le_refl _))⟩
  rcases hq with hq | hq
  · obtain⟨its,r',pl,hz⟩:=I.list hq
    have hlen:=r'.length
    obtain⟨o,ho,hc,n,hd⟩:=pl.isList
    exact call_list_seq p (.inl rfl) ho hc hd (fun h' c' kp e=>fin its r' hz h' c' kp e) (by simp only [List.size_toArray] <;> omega)
  · obtain⟨its,r',pl,hz⟩:=I.tuple hq
    have hlen:=r'.length
    obtain⟨o,ho,hc,n,hd⟩:=pl
    exact call_list_seq p (.inr rfl) ho hc hd (fun h' c' kp e=>fin its r' hz h' c' kp e) (by simp only [List.size_toArray] <;> omega)
def tyV (K:PySem.W.Frag) (T:String) (x:V) (H:Hp):Prop:=match x with
  | .str _=>T = "str"
  | .int _=>T = "int"
  | .ref p=>(T = "list"∧∃xs,SqL K H p xs)∨(T = "tuple"∧∃o,K.lookup p = some o∧o.cls = .type "tuple"∧o.dict = none)∨
      (T = "dict"∧((∃kvs,H p = some (.dK kvs))∨∃kvs,H p = some (.dT kvs)))∨(T = "set"∧∃S n,H p = some (.set S n))
  | _=>False
theorem tyV_is {pins:List (Addr×Obj)} {σ:St} {H:Hp} {s:Shared} {T:String} {x:V} {v:Value} (I:Inv X pins σ H s) (r:RelV x v) (ty:tyV X.K T x H) :
    s.TypeIs v T∧∀a,v = .ref a→∃ob,s.heap.get? a = some ob∧ob.dict = none:=by
  cases x with
  | str z=>
    obtain⟨t,rfl⟩:=r
    cases (show T = "str" from ty)
    exact⟨typeIs_str s z t,fun _ e=>nomatch e⟩
  | int i=>
    obtain⟨t,rfl⟩:=r
    cases (show T = "int" from ty)
    exact⟨typeIs_int s i t,fun _ e=>nomatch e⟩
  | ref p =>
    cases r
    rcases ty with ⟨rfl,xs,hq⟩ | ⟨rfl,o,hk,hc,hd⟩ | ⟨rfl,hk⟩ | ⟨rfl,S,n,hk⟩
    · obtain⟨its,_,pl,_⟩:=I.list hq
      refine⟨pl.isList.typeIs,fun a e=>?_⟩
      cases e
      obtain⟨o,n,e,c,hd,_⟩:=pl
      exact⟨o,e,hd⟩
    · refine⟨⟨o,I.kIn p o hk,hc⟩,fun a e=>?_⟩
      cases e
      exact⟨o,I.kIn _ o hk,hd⟩
    · have z:∃o,s.heap.get? p = some o∧o.ExactDict:=by
        rcases hk with ⟨kvs,hk⟩ | ⟨kvs,hk⟩
        · obtain⟨_,_,_,_,o,_,_,e,ex,_⟩:=I.hok p _ hk
          exact⟨o,e,ex⟩
        · obtain⟨_,_,_,_,o,_,_,e,ex,_⟩:=I.hok p _ hk
          exact⟨o,e,ex⟩
      obtain⟨o,e,ex⟩:=z
      refine⟨⟨o,e,ex.1⟩,fun a e2=>?_⟩
      cases e2
      exact⟨o,e,ex.2.1⟩
    · obtain⟨o,_,_,_,e,ex,_⟩:=I.hok p _ hk
      refine⟨⟨o,e,ex.1⟩,fun a e2=>?_⟩
      cases e2
      exact⟨o,e,ex.2.1⟩
  | _=>exact False.elim ty
def tBM0 (K:PySem.W.Frag) (T:String) (r:V→List V→Hp→VK→Prop) (to:TE):TE:=fun σ H Q=>to σ H fun x H1=>tyV K T x H1∧r x [] H1 Q
def tBM (K:PySem.W.Frag) (T:String) (r:V→List V→Hp→VK→Prop) (to:TE) (t:TA):TE:=fun σ H Q=>to σ H fun x H1=>tyV K T x H1∧t σ H1 fun xs H2=>r x xs H2 Q
variable {o e:Expr} {es:List Expr} {to:TE} {t:TA} {name:Str} {apos cpos:Pos} {T id:String} {r:V→List V→Hp→VK→Prop}
theorem pe_bm (pa:PlainAttrs T) (slot:Slot T name id) (hty:typeOf (.builtin id) = pure (.type "method_descriptor")) (hm:MtR X id r) (ho:PE X o to) (ha:PA X (e :: es) t)
    (hbase:attributeBase o name X.env (eval o X.env) = eval o X.env:=by rfl)
    (hfew:((backTo cpos (starEach (e :: es) X.env)).all (fun x=>!x.1) && (backToKw cpos (keywordEach [] X.env)).all (fun x=>x.1.isSome)
      && decide ((e :: es).length + ([]:List Keyword).length + (if ([]:List Keyword).isEmpty then 0 else 1) < 30)) = true:=by rfl)
    (hline:(apos.endLine == cpos.line) = true:=by rfl) (hs:starEach (e :: es) X.env = (false,eval e X.env) :: starEach es X.env:=by rfl) (hplain:(backTo cpos (starEach es X.env)).any (·.1) = false:=by rfl) :
    PE X (.Call (.Attribute o name apos) (e :: es) [] cpos) (tBM X.K T r to t):=by
  intro pins s σ H Q I h
  refine wpAny_Call_method_late hbase hfew hline rfl (thn (ho pins s σ H _ I h) fun v s1 ⟨x,H1,I1,r1,ty,q1⟩=>?_)
  obtain⟨h1,h2⟩:=tyV_is I1 r1 ty
  refine⟨T,id,pa,slot,hty,h1,h2,?_⟩
  have hA:=ha cpos pins s1 σ H1 _ I1 q1
  rw [hs] at hA ⊢
  refine Calls.callWith_builtin (by show (false || (backTo cpos (starEach es X.env)).any (·.1)) = false;rw [hplain] <;> rfl) (Calls.evalArgs_plain ?_)
  exact thn hA fun us s2 ⟨vs,H2,I2,r2,q2⟩=>hm pins s2 σ H2 x vs v us Q I2 r1 r2 q2
end
end L2
namespace L2
open PySem PySem.Spec PyProof.Rows
def MtM (X:Cx) (id:String) (r:V→List V→Hp→VK→Prop):Prop:=
  ∀ (pins:List (Addr×Obj)) (s:Shared) (σ:St) (H:Hp) (x:V) (xs:List V) (v:Value) (us:List Value) (Q:VK),Inv X pins σ H s→RelV x v→Vals xs us→r x xs H Q→
    wpAny (model X.prog X.w) X.A (call (.builtin id) (v :: us)) (EP X pins σ Q) X.xe s
theorem Vals.one:∀{x:V} {us:List Value},Vals [x] us→∃u,us = [u]∧RelV x u
  | _,_,.cons r .nil=>⟨_,rfl,r⟩
theorem Vals.two:∀{x y:V} {us:List Value},Vals [x,y] us→∃u v,us = [u,v]∧RelV x u∧RelV y v
  | _,_,_,.cons r (.cons q .nil)=>⟨_,_,rfl,r,q⟩
theorem Vals.eraseIdx:∀{xs:List V} {us:List Value} (i:Nat),Vals xs us→Vals (xs.eraseIdx i) (us.eraseIdx i)
  | _,_,_,.nil=> .nil
  | _,_,0,.cons _ t=>t
  | _,_,i + 1,.cons r t=> .cons r (Vals.eraseIdx i t)
theorem len_erase {α:Type}:∀(l:List α) (i:Nat),(l.eraseIdx i).length≤l.length
  | [],_=>Nat.le_refl _
  | _ :: _,0=>Nat.le_succ _
  | _ :: r,i + 1=>Nat.succ_le_succ (len_erase r i)
section
variable {X:Cx} {pins:List (Addr×Obj)} {σ:St} {H:Hp} {s:Shared} {l b:Addr} {xs ys zs:List V}
theorem Inv.lset {its its':List Value} {n:Nat} {f:Array Value→Array Value} {t':Nat} (I:Inv X pins σ H s) (hH:H l = some (.lst xs))
    (e:s.heap.get? l = some { cls:= .type "list",data:= .seq its.toArray n }) (hf:f its.toArray = its'.toArray) (hv:Vals ys its') (hz:ys.length≤sizeLine) :
    Inv X pins σ (upd H l (.lst ys)) { s with heap:=s.heap.update l (Obj.mapSeq f),toks:=t' }:=by
  have q:=PySem.IsL.update e f
  rw [hf] at q
  refine I.write (x:=l) (e:=l) (by rw [hH];exact trivial) (.inl rfl) (fun b' u hb hu=>(Heap.get?_update_other s.heap (Obj.mapSeq f) (Ne.symm hb)).trans hu) ⟨_,q⟩ ?_
  exact⟨hz,its',_,hv,q⟩
theorem Inv.lstM (I:Inv X pins σ H s) (hH:H l = some (.lst xs)):xs.length≤sizeLine∧∃(its:List Value) (n:Nat),Vals xs its∧xs.length = its.length∧s.heap.get? l = some { cls:= .type "list",data:= .seq its.toArray n }:=by
  obtain⟨z,its,n,r,e⟩:=I.hok l _ hH
  exact⟨z,its,n,r,r.length,e⟩
theorem notLongL {n:Nat} (h:n≤sizeLine):Builtin.List.listTooLong n = false:=by
  unfold Builtin.List.listTooLong
  exact decide_eq_false (by omega)
end
section
variable {X:Cx}
def rAppend:V→List V→Hp→VK→Prop:=fun x vs H Q=>∃l xs y,x = .ref l∧vs = [y]∧H l = some (.lst xs)∧xs.length < sizeLine∧Q .non (upd H l (.lst (xs ++ [y])))
theorem mt_append:MtM X "list.append" rAppend:=by
  intro pins s σ H x vs v us Q I rx rv h
  obtain⟨l,xs,y,rfl,rfl,hH,hz,q⟩:=h
  cases rx
  obtain⟨u,rfl,ru⟩:=rv.one
  obtain⟨z,its,n,r,hl,e⟩:=I.lstM hH
  refine call_meets F.slot_list_append ⟨_,e,rfl⟩ F.entry_list_append (F.args_list_append_2 _ _) (PySem.list_append l its.toArray n u (by rw [List.size_toArray];omega)) ⟨e,?_⟩
  refine⟨.non,_,I.lset (its':=its ++ [u]) hH e (by simp) (r.append (.cons ru .nil)) ?_,rfl,q⟩
  rw [List.length_append,List.length_singleton]
  omega
def rExtend:V→List V→Hp→VK→Prop:=fun x vs H Q=>∃l b xs zs,x = .ref l∧vs = [.ref b]∧H l = some (.lst xs)∧H b = some (.lst zs)∧xs.length + zs.length≤sizeLine∧Q .non (upd H l (.lst (xs ++ zs)))
theorem mt_extend:MtM X "list.extend" rExtend:=by
  intro pins s σ H x vs v us Q I rx rv h
  obtain⟨l,b,xs,zs,rfl,rfl,hH,hB,hz,q⟩:=h
  cases rx
  obtain⟨u,rfl,ru⟩:=rv.one
  cases ru
  obtain⟨z,its,n,r,hl,e⟩:=I.lstM hH
  obtain⟨z2,its2,n2,r2,hl2,e2⟩:=I.lstM hB
  have hsz:its.toArray.size + its2.toArray.size≤sizeLine:=by rw [List.size_toArray,List.size_toArray];omega
  have hlong:¬ (!its.toArray.isEmpty && Builtin.List.listTooLong (its.toArray.size + its2.toArray.size)) = true:=by
    rw [notLongL hsz,Bool.and_false]
    exact Bool.false_ne_true
  refine call_meets F.slot_list_extend ⟨_,e,rfl⟩ F.entry_list_extend (F.args_list_extend_2 _ _)
    (AutoSeq1.list_extend_list_list_0 l its.toArray n b its2.toArray n2 hlong (by rw [List.size_toArray];omega) (by omega)) ⟨e,e2,?_⟩
  refine⟨.non,_,I.lset (its':=its ++ its2) hH e (by simp) (r.append r2) ?_,rfl,q⟩
  rw [List.length_append]
  omega
def rPop:V→List V→Hp→VK→Prop:=fun x vs H Q=>∃l xs y,x = .ref l∧vs = []∧H l = some (.lst xs)∧xs[xs.length - 1]? = some y∧Q y (upd H l (.lst xs.dropLast))
def rPopAt:V→List V→Hp→VK→Prop:=fun x vs H Q=>∃l xs i k y,x = .ref l∧vs = [.int i]∧H l = some (.lst xs)∧ -(2 ^ 63)≤i∧i < 2 ^ 63∧seqIndex? i xs.length = some k∧xs[k]? = some y∧Q y (upd H l (.lst (xs.eraseIdx k)))
theorem mt_popAt:MtM X "list.pop" rPopAt:=by
  intro pins s σ H x vs v us Q I rx rv h
  obtain⟨l,xs,i,k,y,rfl,rfl,hH,h1,h2,hk,hy,q⟩:=h
  cases rx
  obtain⟨u,rfl,ru⟩:=rv.one
  obtain⟨t,rfl⟩:=ru
  obtain⟨z,its,n,r,hl,e⟩:=I.lstM hH
  obtain⟨w,hw,rw'⟩:=r.get hy
  refine call_meets F.slot_list_pop ⟨_,e,rfl⟩ F.entry_list_pop (F.args_list_pop_2 _ _)
    (MeetsSeq.list_pop_at l its.toArray n i t k w (fitsIndex_both h1 h2) (by rw [List.size_toArray,←hl];exact hk) (by rw [←Array.getElem?_toList];exact hw) (by rw [List.size_toArray];omega)) ⟨e,?_⟩
  refine⟨y,_,I.lset (its':=its.eraseIdx k) hH e ?_ (r.eraseIdx k) ?_,rw',q⟩
  · show its.toArray.eraseIdxIfInBounds k = (its.eraseIdx k).toArray
    rw [List.eraseIdxIfInBounds_toArray]
  · have:=len_erase xs k
    omega
def rReverse:V→List V→Hp→VK→Prop:=fun x vs H Q=>∃l xs,x = .ref l∧vs = []∧H l = some (.lst xs)∧Q .non (upd H l (.lst xs.reverse))
def rClear:V→List V→Hp→VK→Prop:=fun x vs H Q=>∃l xs,x = .ref l∧vs = []∧H l = some (.lst xs)∧Q .non (upd H l (.lst []))
def rCat:R2:=fun x y H Q=>∃l b xs zs,x = .ref l∧y = .ref b∧H l = some (.lst xs)∧H b = some (.lst zs)∧xs.length + zs.length≤sizeLine∧∀p,H p = none→Q (.ref p) (upd H p (.lst (xs ++ zs)))
def rRep:R2:=fun x y H Q=>∃l k xs,x = .ref l∧y = .int k∧H l = some (.lst xs)∧ -(2 ^ 63)≤k∧k < 2 ^ 63∧xs.length * k.toNat≤sizeLine∧
  ∀p,H p = none→Q (.ref p) (upd H p (.lst (List.replicate k.toNat xs).flatten))
end
section
variable {prog:Program} {w:World} {A:Around} {E:Value→Shared→Prop} {s:Shared}
end
section
variable {X:Cx}
end
end L2
namespace Att
open PySem PySem.W PySem.Calls PyProof.Rows
theorem ints_of_wellAll {P:Params} {h:Heap}:∀(ns:List Int) (vs:List Value),WellAll P h vs (ns.map WData.int)→IntsAre vs ns:=by
  intro ns
  induction ns with
  | nil=>
    intro vs w
    rw [List.map_nil] at w
    cases w
    exact .nil
  | cons n ns ih=>
    intro vs w
    rw [List.map_cons] at w
    cases w with
    | cons a b=>
      cases a
      exact .cons _ _ (ih _ b)
theorem script_of {l:OpenLaw} {n:Nat} (hn:l.most = some n) {P:Params} {h:Heap} {args:List WData} {vals:List Value}
    (hpre:l.row.toRowW.claim.pre args = true) (hwl:WellAll P h vals args) :
    ∃a vs ns,vals = [Value.ref a]∧args = [WData.list (ns.map WData.int)]∧h.get? a = some { cls:= .type "list",data:= .seq vs.toArray }∧IntsAre vs ns∧ns.length≤n:=by
  have hsh:WShape.hasAll [] args [.list .int] = true:=(pre_splitW hpre).1
  have hc:l.pre.holds [] { args:=args } = true:=(pre_splitW hpre).2
  obtain⟨d,r,rfl,h1,h2⟩:=hasAllW_cons hsh
  obtain rfl:=hasAllW_nil h2
  obtain⟨xs,rfl,h3⟩:=hasW_list h1
  obtain⟨ns,rfl⟩:=items_int h3
  have hlen:ns.length≤n:=by
    unfold OpenLaw.pre at hc
    have h4:(WTm.not (.lt (.lit (.int (n:Int))) (.len (.arg 0)))).holds [] { args:=[.list (ns.map .int)] } = true:=by
      have h4:=(holds_andW hc).1
      rw [hn] at h4
      exact h4
    have h5:=condW_of h4 (w_not (w_lt w_lit (w_len_list (w_arg rfl))))
    rw [List.length_map] at h5
    refine Nat.le_of_not_lt fun q=>?_
    have q':(n:Int) < ((ns.length:Nat):Int):=by omega
    first
      | (rw [decide_eq_true q'] at h5;exact absurd h5 (by decide))
      | (simp at h5;omega)
  cases hwl with
  | cons w1 w2=>
    cases w2
    cases w1 with
    | list ho hall=>exact⟨_,_,ns,rfl,rfl,ho,ints_of_wellAll ns _ hall,hlen⟩
theorem post_true (l:OpenLaw) (args:List WData):l.row.toRowW.claim.post args (.bool true) args = true:=
  postW_of (r:=l.row.toRowW) (X:=(true == true))
    (show WShape.has [] (.bool true) .bool = true by first | rfl | decide | simp [WShape.has,WShape.arms,WShape.armsAll])
    (show (WTm.eq .res (.lit (.bool true))).value [] { args:=args,res:=some (.bool true),after:=args } = some (.bool (true == true)) from w_eq_bool (w_res rfl) w_lit) rfl
theorem attach_call {l:OpenLaw} {n:Nat} {q:Program} {loose:List Str} {XP:(Str→Option Value)→Heap→Prop} {YP:World→Heap→Prop} {d:DefRec}
    (hn:l.most = some n) (hdf:d.params.defaults = [])
    (call:∀(w:World) (s₀ s₁:Shared) (mg mb:Str→Option Value) (fa:Addr) (o:Obj) (pm cd doc:Value) (a:Addr) (vs:List Value) (ns:List Int),
      Ground q loose [] XP w s₀ mg mb s₁.heap→YP w s₁.heap→
      s₁.heap.get? fa = some o→o.data = .func (docDef d.name d.params d.body d.scope pm cd doc)→s₁.heap.CodeRec cd d.name→mg d.name = some (.ref fa)→
      s₁.heap.get? a = some { cls:= .type "list",data:= .seq vs.toArray }→IntsAre vs ns→ns.length≤n→s₁.gens = #[]→
      codeAny (model l.prog w) callerA (.call (.ref fa) ⟨[.ref a], []⟩) (fun r s'=>r = .ok (.ret (.bool true))∧OldK s₁.heap s'.heap∧s'.os = s₁.os∧AllBare s'.gens) s₁) :
    WalkO q loose XP YP l.row.toRowW d [] (fun f vs=>PySem.call f vs):=by
  intro w s₀ s₁ mg mb G Y fa o pm cd doc dV kV ho hd hcd hD hmg hg args vals as hpre hlay hrd hwl hlo
  obtain rfl:dV = .none:=Dflts.none hD hdf
  obtain rfl:kV = .none:=Dflts.noKw hD
  obtain⟨a,vs,ns,rfl,rfl,hobj,hints,hlen⟩:=script_of hn hpre hwl
  refine enter_call (codeAny_mono (call w s₀ s₁ mg mb fa o pm cd doc a vs ns G Y ho (fd_plain hd) hcd hmg hobj hints hlen hg) fun r s' hq=>?_)
  obtain⟨rfl,h2,h3,h4⟩:=hq
  exact⟨.inl ⟨.bool true,.bool true, [],rfl,fun _=>rfl,.bool true,post_true l _,fun _=>⟨List.Pairwise.nil,fun _ hm=>(nomatch hm)⟩⟩,h2,h3,h4⟩
section
variable {prog:Program} {w:World} {A:Around} {E:Value→Shared→Prop} {s:Shared} {K:Frag}
def noObjs (h:Heap):Heap:={ h with objs:=#[] }
def ledger (h:Heap) (L d:Addr):List (Addr×Obj):=(List.range h.objs.size).filterMap fun a=>if a = L∨a = d then none else (h.get? a).map fun o=>(a,o)
end
end Att
namespace L2
open PySem PySem.Spec PyProof.Rows
theorem vals_ints:∀{vs:List Value} {ns:List Int},IntsAre vs ns→Vals (ns.map V.int) vs
  | _,_,.nil=> .nil
  | _,_,.cons n t h=> .cons ⟨t,rfl⟩ (vals_ints h)
def Only (H:Hp):Prop:=∀b,H b = none∨∃o xs,H b = some (.frz o (.lst xs))
theorem law_call {P:Program} {w:World} {K:PySem.W.Frag} {mg mb:Str→Option Value} {CX:CXT} {k:Nat} {fa a:Addr} {fd:FuncData} {x:Str} {sp:Sp} {s₁:Shared} {vs:List Value} {ns:List Int}
    (KX:K.In s₁.heap) (hns:s₁.heap.Ns mainGlobals mg) (hb:s₁.heap.Ns builtinsNs mb) (hbb:∀x:Str,x≠"__name__"→mb x = bootBuiltins x) (hlim:s₁.heap.NoLimit) (hg:s₁.gens = #[])
    (ha:s₁.heap.get? a = some { cls:= .type "list",data:= .seq vs.toArray }) (hi:IntsAre vs ns) (hl:ns.length≤sizeLine) (hr:Room k callerA)
    (F:∀base:Heap,K.In base→base.Ns mainGlobals mg→FnOk P w K mg base CX k fa fd [x] sp) (hbind:∀(s:Shared) (u:Value),BindsTo s fd ⟨[u], []⟩ [(x,u)])
    (hsp:∀H:Hp,Only H→SqL K H a (ns.map V.int)→sp [.ref a] H (fun v _=>v = .bl true) fun _ _ _=>False)
    (hCX:∀H e s',CX [] H s₁ (fun _ _ _=>False) e s'→False) :
    codeAny (model P w) callerA (.call (.ref fa) ⟨[.ref a], []⟩) (fun r s'=>r = .ok (.ret (.bool true))∧OldK s₁.heap s'.heap∧s'.os = s₁.os∧AllBare s'.gens) s₁:=by
  have rv:=vals_ints hi
  have lenV:=hi.length
  have core :∀H:Hp,Only H→SqL K H a (ns.map V.int)→HOk P w H s₁.heap→(∀b,H b≠none→b = a)→(H a≠none→K.lookup a = none)→
      codeAny (model P w) callerA (.call (.ref fa) ⟨[.ref a], []⟩) (fun r s'=>r = .ok (.ret (.bool true))∧OldK s₁.heap s'.heap∧s'.os = s₁.os∧AllBare s'.gens) s₁:=by
    intro H hO hS hok hA hK
    have base_of:∀{b:Addr} {o:Obj},s₁.heap.get? b = some o→H b = none→(hidT s₁.heap H).get? b = some o:=fun e n=>hidT_get e n
    have noA:∀{b:Addr} {o:Obj} {es:Array DictEntry} {ep:Nat},s₁.heap.get? b = some o→o.data = .dict es ep→H b = none:=fun {b o es ep} e d=>by
      cases q:H b with
      | none=>rfl
      | some u=>
        have e':b = a:=hA b (by rw [q];simp)
        subst e'
        rw [ha] at e;cases e
        have d':Data.seq vs.toArray _ = Data.dict es ep:=d
        cases d'
    have nsK:∀{b:Addr} {m:Str→Option Value},s₁.heap.Ns b m→(hidT s₁.heap H).Ns b m:=fun {b m} ⟨o,es,ep,e,d,r⟩=>⟨o,es,ep,base_of e (noA e d),d,r⟩
    have hKb:K.In (hidT s₁.heap H):=fun b o e=>base_of (KX b o e) (by
      cases q:H b with
      | none=>rfl
      | some u=>
        have e':b = a:=hA b (by rw [q];simp)
        subst e'
        rw [hK (by rw [q];simp)] at e;cases e)
    have hM:Mod K mg (hidT s₁.heap H):=⟨hKb,nsK hns,⟨mb,nsK hb,hbb⟩,let ⟨mc,h1,h2⟩:=hlim;⟨mc,nsK h1,h2⟩⟩
    have e0:Env0 P w K mg (hidT s₁.heap H) callerA [] s₁ H:=⟨rfl,hM,fun b o e=>of_hidT e,Nat.le_of_eq (hidT_size _ _),trivial,fun b hb=>absurd (show b∈([]:List Addr) from hb) (by simp),hok,.of_eq hg⟩
    refine codeAny_mono ((F _ hKb (nsK hns)).run callerA [] s₁ H ⟨[.ref a], []⟩ [.ref a] [.ref a] _ _ hr e0 (hbind s₁ (.ref a)) (.cons rfl .nil) (hsp H hO hS)) fun r s' h=>?_
    cases r with
    | error e=>exact(hCX H e s' h).elim
    | ok fl =>
      cases fl with
      | next=>exact False.elim h
      | brk=>exact False.elim h
      | cont=>exact False.elim h
      | ret u=>
        obtain⟨v,H',os,bare,un,hok',r',q⟩:=h
        have q':v = .bl true:=q
        subst q'
        obtain rfl:u = Value.bool true:=r'
        refine⟨rfl,OldK.of_keep fun b o e=>?_,os,bare⟩
        cases q:H b with
        | none=>exact un.keep b o e q (by intro z;exact absurd (show b∈([]:List Addr) from z) (by simp)) (by simp)
        | some u=>
          rcases hO b with z | ⟨ob,xs,z⟩
          · rw [q] at z;cases z
          · have z2:=un.frzs b ob _ z
            obtain⟨e1,_⟩:=hok b _ z
            obtain⟨e2,_⟩:=hok' b _ z2
            rw [e] at e1;cases e1
            exact e2
  cases hk:K.lookup a with
  | some o=>
    have e:=KX a o hk
    rw [ha] at e
    cases e
    refine core (fun _=>none) (fun _=> .inl rfl) (.inr ⟨_,vs.toArray,_,hk,rfl,rfl,rfl,by rw [List.size_toArray,lenV];exact hl,by simpa using rv⟩) (fun b u z=>by have z':(none:Option HO) = some u:=z;cases z') (fun b z=>absurd rfl z) fun z=>absurd rfl z
  | none =>
    refine core (fun b=>if b = a then some (.frz { cls:= .type "list",data:= .seq vs.toArray } (.lst (ns.map V.int))) else none) (fun b=>?_) (.inl (.inr ⟨{ cls:= .type "list",data:= .seq vs.toArray },if_pos rfl⟩)) (fun b u z=>?_) (fun b z=>?_) fun _=>hk
    · by_cases hb:b = a
      · exact .inr ⟨_,_,if_pos hb⟩
      · exact .inl (if_neg hb)
    · by_cases hb:b = a
      · have z':=(if_pos hb).symm.trans z
        cases z'
        subst hb
        exact⟨ha,by rw [List.length_map];exact hl,vs,_,rv,ha⟩
      · have z':=(if_neg hb).symm.trans z
        cases z'
    · by_cases hb:b = a
      · exact hb
      · exact absurd (if_neg hb) z
end L2
namespace L2
open PySem PySem.Spec PyProof.Rows
abbrev KOf {K:PySem.W.Frag} {h:Heap} (_:K.In h):PySem.W.Frag:=K
theorem walk_of {l:PySem.W.OpenLaw} {n k:Nat} {q:Program} {loose:List Str} {XP:(Str→Option Value)→Heap→Prop} {YP:World→Heap→Prop} {d:DefRec} {K:Params→PySem.W.Frag} {CX:World→CXT} {sp:World→Sp} {x:Str}
    (hn:l.most = some n) (hn2:n≤sizeLine) (hdf:d.params.defaults = []) (hr:Room k callerA)
    (hY:∀(w:World) (h:Heap),YP w h→(K w.params).In h)
    (F : ∀(w:World) (mg:Str→Option Value) (fa:Addr) (h:Heap),(K w.params).In h→h.Ns mainGlobals mg→mg d.name = some (.ref fa)→
      ∃ fd:FuncData,(∀(s:Shared) (u:Value),BindsTo s fd ⟨[u], []⟩ [(x,u)])∧
        ∀base:Heap,(K w.params).In base→base.Ns mainGlobals mg→FnOk l.prog w (K w.params) mg base (CX w) k fa fd [x] (sp w))
    (hsp:∀(w:World) (H:Hp) (a:Addr) (ns:List Int),ns.length≤n→Only H→SqL (K w.params) H a (ns.map V.int)→sp w [.ref a] H (fun v _=>v = .bl true) fun _ _ _=>False)
    (hCX:∀(w:World) (H:Hp) (s:Shared) (e:Value) (s':Shared),CX w [] H s (fun _ _ _=>False) e s'→False) :
    PySem.W.WalkO q loose XP YP l.row.toRowW d [] (fun f vs=>PySem.call f vs):=by
  refine Att.attach_call hn hdf fun w s₀ s₁ mg mb fa o pm cd doc a vs ns G Y ho hd hcd hmg hobj hints hlen hg=>?_
  have KX:=hY w _ Y
  obtain⟨fd,hb,hF⟩:=F w mg fa _ KX G.T.g hmg
  exact law_call KX G.T.g G.T.b G.T.builtins G.T.nolimit hg hobj hints (Nat.le_trans hlen hn2) hr hF hb (fun H hO hS=>hsp w H a ns hlen hO hS) fun H e s'=>hCX w H s₁ e s'
end L2
namespace L2
open PySem PySem.Spec PyProof.Rows
def inClass (s:Stmt) (j:Nat):Stmt:=match s with
  | .ClassDef _ _ _ body _ _ _ _ _ _ _=>body.getD j (.Pass ⟨0,0,0,0⟩)
  | _=> .Pass ⟨0,0,0,0⟩
def defArgs (s:Stmt):Arguments:=match s with
  | .FunctionDef _ a _ _ _ _ _ _ _ _=>a
  | _=>{ posonlyargs:=[],args:=[],vararg:=none,kwonlyargs:=[],kw_defaults:=[],kwarg:=none,defaults:=[] }
def defBody (s:Stmt):List Stmt:=match s with
  | .FunctionDef _ _ b _ _ _ _ _ _ _=>b
  | _=>[]
def defScope (s:Stmt):Scope:=match s with
  | .FunctionDef _ _ _ _ _ _ sc _ _ _=>sc
  | _=>{ kind:= .function,names:=[],isGenerator:=false,isCoroutine:=false }
abbrev CX0:CXT:=fun _ _ _ _ _ _=>False
abbrev E0:XK:=fun _ _ _=>False
theorem pass0 {X:Cx}:Passes CX0 X E0:=fun _ _ _ _ _ _ _ h=>h.elim
structure Fun (K:PySem.W.Frag) (x qual:Str) (st:Stmt) (f:Addr) (fd:FuncData):Prop where
  ex :∃(oc:Value) (od:Option Addr) (kV doc pm:Value) (an:Option Addr) (cdv ct:Value) (osl:Array (Option Value)),
    fd = PySem.W.fnOf x qual (defArgs st) (defBody st) (defScope st) .none kV doc pm an cdv ct∧K.lookup f = some ⟨oc,od,.func fd,osl⟩∧PySem.W.codeIn K cdv qual = true
  kp:PySem.W.keepIn K (.ref f) = true
section
variable {P:Program} {w:World} {K:PySem.W.Frag} {mg:Str→Option Value} {base:Heap}
theorem Fun.ok {x qual:Str} {st:Stmt} {f:Addr} {fd:FuncData} {N ps:List Str} {k:Nat} {sp:Sp} (F:Fun K x qual st f fd) (S:FnScope N ps (defScope st)) (len:∀vs H Q E,sp vs H Q E→vs.length = ps.length)
    (hbody:∀(cdv:Value) (A:Around) (outer:List Env) (s:Shared) (H:Hp) (vs:List V) (Q:VK) (E:XK),Room k (A.deeper (envOfC qual (defScope st) s.heap.objs.size f cdv))→sp vs H Q E→
      ∃t,PSs (cxOf CX0 P w K mg base N qual (defScope st) f cdv A outer s H E).nox (defBody st) t∧t { nx:=fun _ H'=>Q .non H',rt:=Q } (start N vs) H):FnOk P w K mg base CX0 (k + 1) f fd ps sp:=by
  obtain⟨oc,od,kV,doc,pm,an,cdv,ct,osl,rfl,lk,hcd⟩:=F.ex
  refine fn_of lk hcd S len fun A outer s H vs Q E hr hsp=>?_
  obtain⟨t,h,q⟩:=hbody cdv A outer s H vs Q E hr hsp
  exact⟨t,h.nox,q⟩
theorem Fun.binds {x qual:Str} {st:Stmt} {f:Addr} {fd:FuncData} {ps:List Str} (F:Fun K x qual st f fd)
    (h:∀(kV doc pm:Value) (an:Option Addr) (cdv ct:Value) (us:List Value),us.length = ps.length→bindArgs (PySem.W.fnOf x qual (defArgs st) (defBody st) (defScope st) .none kV doc pm an cdv ct) ⟨us, []⟩ = pure (ps.zip us)):Binds K fd ps []:=by
  obtain⟨oc,od,kV,doc,pm,an,cdv,ct,osl,rfl,lk,hcd⟩:=F.ex
  exact .all (h kV doc pm an cdv ct)
theorem fun_mk {x qual:Str} {st:Stmt} {f:Addr} {oc:Value} {od an:Option Addr} {osl:Array (Option Value)} {kV doc pm cdv ct:Value} (l:K.lookup f = some ⟨oc,od,.func (PySem.W.fnOf x qual (defArgs st) (defBody st) (defScope st) .none kV doc pm an cdv ct),osl⟩)
    (c:PySem.W.codeIn K cdv qual = true) (k:PySem.W.keepIn K (.ref f) = true):Fun K x qual st f (PySem.W.fnOf x qual (defArgs st) (defBody st) (defScope st) .none kV doc pm an cdv ct):=⟨⟨oc,od,kV,doc,pm,an,cdv,ct,osl,rfl,l,c⟩,k⟩
end
theorem small1000 {n:Nat} (h:n≤1000):n < sizeLine:=Nat.lt_of_le_of_lt h (by decide)
section
variable {X:Cx}
end
theorem ite2 {c A B:Prop} [Decidable c] (h1:c→A) (h2:¬ c→B):if c then A else B:=by
  by_cases h:c
  · rw [if_pos h]
    exact h1 h
  · rw [if_neg h]
    exact h2 h
def Same (H H':Hp):Prop:=∀b o,H b = some o→H' b = some o
theorem Same.refl (H:Hp):Same H H:=fun _ _ h=>h
theorem Same.trans {H H1 H2:Hp} (a:Same H H1) (b:Same H1 H2):Same H H2:=fun c o h=>b c o (a c o h)
theorem Same.seq {K:PySem.W.Frag} {H H':Hp} {a:Addr} {xs:List V} (e:Same H H') (h:SqL K H a xs):SqL K H' a xs:=by
  rcases h with (h | ⟨o,h⟩) | h
  · exact .inl (.inl (e _ _ h))
  · exact .inl (.inr ⟨o,e _ _ h⟩)
  · exact .inr h
end L2
namespace L2
open PySem PySem.Spec PyProof.Rows
theorem bt_len:bootBuiltins "len" = some (.builtin "len"):=by decide +kernel
theorem bt_min:bootBuiltins "min" = some (.builtin "min"):=by decide +kernel
theorem bt_max:bootBuiltins "max" = some (.builtin "max"):=by decide +kernel
theorem bt_isinstance:bootBuiltins "isinstance" = some (.builtin "isinstance"):=by decide +kernel
theorem bt_list:bootBuiltins "list" = some (.type "list"):=by decide +kernel
theorem bt_int:bootBuiltins "int" = some (.type "int"):=by decide +kernel
theorem bt_bool:bootBuiltins "bool" = some (.type "bool"):=by decide +kernel
theorem bt_tuple:bootBuiltins "tuple" = some (.type "tuple"):=by decide +kernel
theorem bt_ValueError:bootBuiltins "ValueError" = some (.type "ValueError"):=by decide +kernel
theorem bits_leI {i:Int} {n:Nat} (h:i.natAbs < 2 ^ n):Builtin.Int.intBits i≤n:=by
  unfold Builtin.Int.intBits
  split
  · exact Nat.zero_le _
  · rename_i h0
    have h1:i.natAbs≠0:=by
      intro q
      apply h0
      have:i = 0:=by omega
      subst this;rfl
    exact(Nat.log2_lt h1).mpr h
def Big:Nat:=2 ^ 4000
def IsBig (i:Int):Prop:=i.natAbs < 2 ^ 4000
section
variable {X:Cx}
def rN (C:Nat→Nat→Prop) (g:Nat→Nat→Nat):R2:=fun x y H Q=>∃a b:Nat,x = .int a∧y = .int b∧C a b∧Q (.int ((g a b:Nat):Int)) H
def CShl (i j:Int):Prop:=0≤j∧j≤4000∧i.natAbs < 2 ^ 4000
def CMulB (i j:Int):Prop:=i.natAbs < 2 ^ 4000∧j.natAbs < 2 ^ 4000
theorem CMulB.ok {i j:Int} (h:CMulB i j):IntMulOk i j:=by
  unfold IntMulOk
  have h1:=bits_leI h.1
  have h2:=bits_leI h.2
  have h3:Builtin.Int.intTooBig ((Builtin.Int.intBits i:Int) + (Builtin.Int.intBits j:Int)) = false:=by
    unfold Builtin.Int.intTooBig
    apply decide_eq_false
    have:(8000:Int)≤bitsLine:=by decide
    omega
  simp only [h3,Bool.and_false]
  decide
theorem op_mulB:OpR X (binaryOp .Mult) (rI CMulB fun i j=> .int (i * j)):=opI fun _ _ _ _ _ _ _ hc q=>mul_int q hc.ok
def clsV:V→Option Value
  | .ref a=>some (.ref a)
  | .ty n=>some (.type n)
  | _=>none
theorem clsV_is {c:V} {cv u:Value} (e:clsV c = some cv) (r:RelV c u):u = cv:=by
  cases c <;> simp only [clsV] at e <;> first | (cases e;exact r) | cases e
theorem call_isi:CallR X (.builtin "isinstance") (fun xs H Q=>∃x c cv t b,xs = [x,c]∧clsV c = some cv∧TyOf X.K H x t∧PySem.W.kitOne X.K t cv = some b∧Q (.bl b) H):=by
  intro pins s σ H xs us Q I rv h
  obtain⟨x,c,cv,t,b,rfl,ec,ty,e,q⟩:=h
  obtain⟨u,v,rfl,rx,rc⟩:=rv.two
  cases clsV_is ec rc
  exact isinst_ok I rx ty e fun tk=>⟨.bl b,H,I.tok _,rfl,q⟩
end
section
variable {K:PySem.W.Frag}
theorem isi_int_bool:PySem.W.kitOne K (.type "int") (.type "bool") = some false:=by first | rfl | decide +kernel
theorem isi_bool_bool:PySem.W.kitOne K (.type "bool") (.type "bool") = some true:=by rfl
theorem isi_tuple_tuple:PySem.W.kitOne K (.type "tuple") (.type "tuple") = some true:=by rfl
end
section
variable {X:Cx} {e:Expr} {te:TE} {st:Stmt} {ts:TS}
def tCut (t:TE):TE:=fun σ H Q=>∃P:VK,t σ H P∧∀x H',P x H'→Q x H'
theorem pe_cut (h:PE X e te):PE X e (tCut te):=by
  intro pins s σ H Q I hw
  obtain⟨P,h1,h2⟩:=hw
  exact thn (h pins s σ H P I h1) fun v s1 ⟨x,H1,I1,r,q⟩=>⟨x,H1,I1,r,h2 x H1 q⟩
def tCutS (t:TS):TS:=fun D σ H=>∃N:St→Hp→Prop,t { D with nx:=N } σ H∧∀σ' H',N σ' H'→D.nx σ' H'
theorem ps_cut (h:PS X st ts):PS X st (tCutS ts):=by
  intro pins s σ H D I hw
  obtain⟨N,h1,h2⟩:=hw
  refine thn (h pins s σ H { D with nx:=N } I h1) fun f s1 q=>?_
  cases f with
  | next=>obtain⟨σ',H',I',q⟩:=q;exact⟨σ',H',I',h2 σ' H' q⟩
  | ret v=>exact q
  | brk=>exact q
  | cont=>exact q
end
theorem dec_true {p:Prop} [Decidable p] (h:decide p = true):p:=of_decide_eq_true h
theorem dec_false {p:Prop} [Decidable p] (h:¬ decide p = true):¬ p:=fun q=>h (decide_eq_true q)
theorem big_of {z:Int} {n:Nat} (h:z.natAbs < 2 ^ n) (hn:n≤4000:=by decide):z.natAbs < 2 ^ 4000:=Nat.lt_of_lt_of_le h (Nat.pow_le_pow_right (by decide) hn)
theorem big64 {z:Int} (h0: -18446744073709551616 < z) (h1:z < 18446744073709551616):z.natAbs < 2 ^ 4000:=big_of (n:=64) (by omega)
theorem at_mod {ns:List Int} {k:Int} (h:0 < ns.length):∃v:Int,atI (ns.map V.int) (k % (((ns.map V.int).length:Nat):Int)) = some (.int v):=by
  rw [List.length_map]
  have h0:0≤k % ((ns.length:Nat):Int):=Int.emod_nonneg _ (by omega)
  have h1:k % ((ns.length:Nat):Int) < ((ns.length:Nat):Int):=Int.emod_lt_of_pos _ (by omega)
  generalize k % ((ns.length:Nat):Int) = j at h0 h1
  have hk:j.toNat < ns.length:=by omega
  refine⟨ns[j.toNat],?_⟩
  have q:atI (ns.map V.int) ((j.toNat:Nat):Int) = some (.int ns[j.toNat]):=atI_nat (by rw [List.getElem?_map,List.getElem?_eq_getElem hk] <;> rfl)
  have e:((j.toNat:Nat):Int) = j:=by omega
  rw [e] at q
  exact q
def spLaw (K:PySem.W.Frag):Sp:=fun vs H Q _=>∃(a:Addr) (ns:List Int),vs = [.ref a]∧SqL K H a (ns.map V.int)∧ns.length≤63∧∀H',Q (.bl true) H'
def spDraw (K:PySem.W.Frag):Sp:=fun vs H Q _=>∃(a:Addr) (ns:List Int) (k m:Int),vs = [.ref a,.int k,.int m]∧SqL K H a (ns.map V.int)∧ns.length≤63∧0≤k∧k≤100000∧0 < m∧∀d:Int,0≤d→d < m→Q (.int d) H
end L2
namespace L2
open PySem PySem.Spec PyProof.Rows
theorem dict_mapF (g:Array Value→Array Value) (o:Obj):(Obj.mapFields g o).dict = o.dict:=by
  obtain⟨c,d,x,sl⟩:=o
  cases x <;> rfl
def TrD (h B:Heap) (e:Addr) (k a0:Value) (od:Option Addr) (fl:Value):Prop:=
  ∃oe vs T oT ts,(h.get? e = some oe∧oe.cls = k∧oe.dict = od∧oe.data = .fields vs)∧(vs[0]? = some a0∧vs[1]? = some (.ref T))∧(B.get? T = none∧T≠e)∧h.get? T = some oT∧oT.data = .fields ts∧ts[3]? = some fl
def FlyD (B:Heap) (l:List Env) (e:Addr) (k a0:Value) (od:Option Addr) (h:Heap):Prop:=(B.StaysIn h∧B.get? e = none)∧h.FunFrames B l∧TrD h B e k a0 od .none
def HeldD (B:Heap) (l:List Env) (e:Addr) (k a0:Value) (od:Option Addr) (L:Addr) (h:Heap):Prop:=(B.StaysIn h∧B.get? e = none)∧h.FunFrames B l∧TrD h B e k a0 od (rawInt L)
theorem FlyD.obj {B h:Heap} {l:List Env} {e:Addr} {k a0:Value} {od:Option Addr} (x:FlyD B l e k a0 od h):∃oe vs,h.get? e = some oe∧oe.cls = k∧oe.dict = od∧oe.data = .fields vs:=by
  obtain⟨_,_,oe,vs,_,_,_,⟨q1,q2,q3,q4⟩,_⟩:=x
  exact⟨oe,vs,q1,q2,q3,q4⟩
theorem FlyD.tail {B h:Heap} {env:Env} {l:List Env} {e:Addr} {k a0:Value} {od:Option Addr} (x:FlyD B (env :: l) e k a0 od h):FlyD B l e k a0 od h:=
  let ⟨a,⟨_,_,b⟩,c⟩:=x;⟨a,b,c⟩
section
variable {M:Model} {A:Around} {E:Value→Shared→Prop} {s:Shared} {B:Heap} {env:Env} {outer l:List Env} {L e:Addr} {k a0:Value} {od:Option Addr}
theorem entryD {oe:Obj} {vs:Array Value} {hd0:Value} {nxt:Bool} {Q:Unit→Shared→Prop} (fr:A.frames = some (env :: outer)) (ff:s.heap.FunFrames B (env :: outer)) (fL:env.frame = some L) (st:B.StaysIn s.heap∧B.get? e = none)
    (at_:s.heap.get? e = some oe) (dat:oe.data = .fields vs) (sz:1 < vs.size) (arg:vs[0]? = some a0)
    (next:∀h',HeldD B (env :: outer) e oe.cls a0 oe.dict L h'→s.heap.UpToSlots h'→Q () { s with heap:=h' }) :
    wpAny M A (do let a←frameOf env;let pl←entryPlaceOf L nxt;let b←EntryCells.newEntry hd0 a .none (rawInt L) .none pl;setField (.ref e) 1 b) Q E s:=by
  have eF:e∉frs (env :: outer):=fun z=>by
    obtain⟨_,o,q,n⟩:=ff.mem z
    cases at_.symm.trans q
    exact n vs dat
  refine wpAny_bind (wpAny_frameOf_fun fr ff fL fun h1 so=>wpAny_bind (wpAny_entryPlaceOf fun pl isp=>?_))
  unfold EntryCells.newEntry newFields
  refine wpAny_bind (wpAny_newObj_type ?_ (isp.sizeOk5 _ _ _ _ _))
  generalize htb:([hd0,Value.ref L,Value.none,rawInt L,Value.none] ++ (if pl.isEmpty then List.replicate 6 Value.none else pl)).toArray = tb
  have tb3:tb[3]? = some (rawInt L):=by
    subst htb
    rcases isp with rfl | ⟨_,_,_,_,_,_,_,rfl⟩ <;> simp
  clear htb isp
  have e1:h1.get? e = some oe:=(so.2.1 e eF).trans at_
  have B1:B.StaysIn h1:=fun b o q=>(so.2.1 b fun z=>by have:=(ff.mem z).1;rw [q] at this;cases this).trans (st.1 b o q)
  have tE:h1.objs.size≠e:=Nat.ne_of_gt (Heap.lt_size e1)
  have e2:=Heap.get?_push_of_some (h:=h1) { cls:= .type "traceback",dict:=none,data:= .fields tb } e1
  refine wpAny_setField e2 dat sz (next _ ?_ ?_)
  all_goals
    have keep:∀b o,b≠e→h1.get? b = some o→((h1.push { cls:= .type "traceback",dict:=none,data:= .fields tb }).update e (Obj.mapFields (·.setIfInBounds 1 (Value.ref h1.objs.size)))).get? b = some o:=fun b o n q=>by
      rw [Heap.get?_update_other _ _ (Ne.symm n)]
      exact Heap.get?_push_of_some _ q
    have apart:∀b o,s.heap.get? b = some o→(∀ws,o.data≠ .fields ws)→b≠e:=fun b o q n z=>by
      subst z
      cases at_.symm.trans q
      exact n vs dat
  · have d3:=Obj.data_mapFields dat (·.setIfInBounds 1 (Value.ref h1.objs.size))
    have e3:=Heap.get?_update_self (Obj.mapFields (·.setIfInBounds 1 (Value.ref h1.objs.size))) e2 (Obj.isFreed_of_fields d3)
    have t3:=(Heap.get?_update_other (h1.push { cls:= .type "traceback",dict:=none,data:= .fields tb }) (Obj.mapFields (·.setIfInBounds 1 (Value.ref h1.objs.size))) (Ne.symm tE)).trans (Heap.get?_push_size h1 rfl)
    refine⟨⟨fun b o q=>keep b o (fun z=>by rw [z,st.2] at q;cases q) (B1 b o q),st.2⟩,ff.of_keeps fun b o q n=>?_,_,_,h1.objs.size,_,_,⟨e3,Obj.cls_mapFields _ _,dict_mapF _ _,d3⟩,⟨?_,by simp [sz]⟩,⟨B1.fresh,tE⟩,t3,rfl,tb3⟩
    · obtain⟨sl,q1⟩:=so.2.2 b o q
      exact⟨_,keep b _ (apart b o q n) q1,rfl⟩
    · rw [Array.getElem?_setIfInBounds_ne (by decide)]
      exact arg
  · intro b o q n
    obtain⟨sl,q1⟩:=so.2.2 b o q
    exact⟨sl,keep b _ (apart b o q n) q1⟩
theorem landAnyD {fl:Value} {Q:Unit→Shared→Prop} (st:B.StaysIn s.heap∧B.get? e = none) (ff:s.heap.FunFrames B l) (tr:TrD s.heap B e k a0 od fl)
    (next:∀h',FlyD B l e k a0 od h'→s.heap.UpToSlots h'→Q () { s with heap:=h' }):wpAny M A (setFlight (.ref e) none) Q E s:=by
  obtain⟨oe,vs,T,oT,ts,⟨q1,q2,q3,q4⟩,⟨q5,q6⟩,⟨q7,q8⟩,q9,q10,q11⟩:=tr
  have sz:3 < ts.size:=(Array.getElem?_eq_some_iff.mp q11).1
  have off:∀b,b≠T→(s.heap.update T (Obj.mapFields (·.setIfInBounds 3 ((none:Option Addr).elim Value.none fun f=>rawInt f)))).get? b = s.heap.get? b:=fun b n=>Heap.get?_update_other _ _ (Ne.symm n)
  have apart:∀b o,s.heap.get? b = some o→(∀ws,o.data≠ .fields ws)→b≠T:=fun b o q n z=>by
    subst z
    cases q9.symm.trans q
    exact n ts q10
  unfold setFlight
  refine wpAny_bind (wpAny_field q1 q4 q6 ?_)
  rw [if_pos (show (Value.ref T != Value.none) = true by simp)]
  refine wpAny_setField q9 q10 sz (next _ ⟨⟨fun b o q=>(off b fun z=>by rw [z,q7] at q;cases q).trans (st.1 b o q),st.2⟩,ff.of_keeps fun b o q n=>⟨o,(off b (apart b o q n)).trans q,rfl⟩,?_⟩ fun b o q n=>⟨o.slots,(off b (apart b o q n)).trans q⟩)
  exact⟨oe,vs,T,_,_,⟨(off e (Ne.symm q8)).trans q1,q2,q3,q4⟩,⟨q5,q6⟩,⟨q7,q8⟩,Heap.get?_update_self _ q9 (Obj.isFreed_of_fields (Obj.data_mapFields q10 _)),Obj.data_mapFields q10 _,by simp [sz]⟩
theorem landD {Q:Unit→Shared→Prop} (x:HeldD B l e k a0 od L s.heap) (next:∀h',FlyD B l e k a0 od h'→s.heap.UpToSlots h'→Q () { s with heap:=h' }):wpAny M A (setFlight (.ref e) none) Q E s:=
  landAnyD x.1 x.2.1 x.2.2 next
theorem landAgainD {Q:Unit→Shared→Prop} (x:FlyD B l e k a0 od s.heap) (next:∀h',FlyD B l e k a0 od h'→s.heap.UpToSlots h'→Q () { s with heap:=h' }):wpAny M A (setFlight (.ref e) none) Q E s:=
  landAnyD x.1 x.2.1 x.2.2 next
theorem lookOnD {Q:Unit→Shared→Prop} (fr:A.frames = some (env :: outer)) (fL:env.frame = some L) (x:FlyD B (env :: outer) e k a0 od s.heap)
    (next:∀h',HeldD B (env :: outer) e k a0 od L h'→s.heap.UpToSlots h'→Q () { s with heap:=h' }):wpAny M A (noteFrame (.ref e) env) Q E s:=by
  obtain⟨st,ff,oe,vs,T,oT,ts,⟨q1,q2,q3,q4⟩,⟨q5,q6⟩,⟨q7,q8⟩,q9,q10,q11⟩:=x
  subst q2 q3
  have off:∀b,b≠T→(s.heap.update T (Obj.mapFields (·.setIfInBounds 3 Value.none))).get? b = s.heap.get? b:=fun b n=>Heap.get?_update_other _ _ (Ne.symm n)
  have apart:∀b o,s.heap.get? b = some o→(∀ws,o.data≠ .fields ws)→b≠T:=fun b o q n z=>by
    subst z
    cases q9.symm.trans q
    exact n ts q10
  unfold noteFrame
  simp only [fL]
  refine wpAny_bind (wpAny_field q1 q4 q6 ?_)
  rw [if_pos (show (Value.ref T != Value.none) = true by simp)]
  refine wpAny_bind (wpAny_field q9 q10 q11 ?_)
  rw [if_neg (show ¬ ((Value.none == rawInt L) = true) by simp [rawInt])]
  refine wpAny_bind (wpAny_setField q9 q10 (Array.getElem?_eq_some_iff.mp q11).1 ?_)
  refine entryD (B:=B) fr (ff.of_keeps fun b o q n=>⟨o,(off b (apart b o q n)).trans q,rfl⟩) fL ⟨fun b o q=>(off b fun z=>by rw [z,q7] at q;cases q).trans (st.1 b o q),st.2⟩ ((off e (Ne.symm q8)).trans q1) q4 (Array.getElem?_eq_some_iff.mp q6).1 q5 fun h' x1 x2=>?_
  exact next h' x1 fun b o q n=>x2 b o ((off b (apart b o q n)).trans q) n
theorem leaveFirstD {oe:Obj} {vs:Array Value} {Q:Unit→Shared→Prop} (fr:A.frames = some (env :: outer)) (fL:env.frame = some L) (st:B.StaysIn s.heap∧B.get? e = none) (ff:s.heap.FunFrames B (env :: outer))
    (at_:s.heap.get? e = some oe) (dat:oe.data = .fields vs) (arg:vs[0]? = some a0) (bare:vs[1]? = some .none) (next:∀h',FlyD B outer e oe.cls a0 oe.dict h'→s.heap.UpToSlots h'→Q () { s with heap:=h' }) :
    wpAny M A (leaving env (.ref e)) Q E s:=by
  unfold leaving noteFrame
  simp only [fL]
  refine wpAny_bind (wpAny_bind (wpAny_field at_ dat bare ?_))
  rw [if_neg (by decide)]
  refine entryD (B:=B) fr ff fL st at_ dat (Array.getElem?_eq_some_iff.mp bare).1 arg fun h1 x1 x2=>?_
  exact landD x1 fun h2 x3 x4=>next h2 x3.tail (x2.trans x4)
theorem leaveOnD {Q:Unit→Shared→Prop} (fr:A.frames = some (env :: outer)) (fL:env.frame = some L) (x:FlyD B (env :: outer) e k a0 od s.heap)
    (next:∀h',FlyD B outer e k a0 od h'→s.heap.UpToSlots h'→Q () { s with heap:=h' }):wpAny M A (leaving env (.ref e)) Q E s:=by
  unfold leaving
  exact wpAny_bind (lookOnD fr fL x fun h1 x1 x2=>landD x1 fun h2 x3 x4=>next h2 x3.tail (x2.trans x4))
end
end L2
namespace L2
open PySem PySem.Spec PyProof.Rows
theorem excObj {K:PySem.W.Frag} {h:Heap} {C:Addr} {bmB:List Value} {newId:String} (kin:K.In h) (hq:PySem.W.excIn K C bmB newId = true) :
    ∃bm N nm qn bs hdct sn sub ab col dd k0 k1 k2 k3 k5 mN,h.get? C = some (excClassObj nm qn C N bs bm hdct sn sub ab col dd k0 k1 k2 k3 k5 newId)∧h.Ns N mN∧mN "__init__" = none∧OwnTail h bmB bm:=by
  unfold PySem.W.excIn at hq
  split at hq
  · rename_i dd cdt slots look
    split at hq
    · rename_i C1 bm j0 j1 j2 j3 nid j5 em es
      simp only [Bool.and_eq_true,beq_iff_eq,Bool.not_eq_true'] at hq
      obtain⟨⟨⟨⟨⟨e1,e2⟩,e3⟩,e4⟩,e5⟩,e6⟩:=hq
      subst e1 e2
      obtain⟨c1,c2,c3,c4,c5,c6,c7,c8,c9,c10,c11⟩:=cdt
      dsimp only at em e3 e5 e6
      subst em e3
      have esl:slots = #[j0,j1,j2,j3,some (.builtin nid),j5]:=by
        cases slots with
        | mk l=>
          have:l = _:=es
          rw [this]
      subst esl
      exact⟨bm,c4,c1,c5,c2,c6,c7,c8,c9,c10,dd,j0,j1,j2,j3,j5,_,kin _ _ look,.of_isNs (PySem.W.isNs_of_in kin e5),PySem.W.nsMap_none_of_in kin e5 e6,PySem.W.tail_of_in kin e4⟩
    · cases hq
  · cases hq
theorem ObjOk.there {P:Program} {w:World} {H:Hp} {h:Heap} {a:Addr} {o:HO} (x:ObjOk P w H h a o):∃ob,h.get? a = some ob:=by
  cases o with
  | lst xs=>obtain⟨_,_,_,_,e⟩:=x;exact⟨_,e⟩
  | tup xs=>obtain⟨_,_,_,ob,e,_⟩:=x;exact⟨_,e⟩
  | dK kvs=>obtain⟨_,_,_,_,o,_,_,e,_⟩:=x;exact⟨_,e⟩
  | dT kvs=>obtain⟨_,_,_,_,o,_,_,e,_⟩:=x;exact⟨_,e⟩
  | set S n=>obtain⟨o,_,_,_,e,_⟩:=x;exact⟨_,e⟩
  | ins C dx fs=>obtain⟨_,_,_,e,_⟩:=x;exact⟨_,e⟩
  | own y=>exact x
  | xd fs=>obtain⟨_,⟨_,_,_,e,_⟩,_⟩:=x;exact⟨_,e⟩
  | rng lo hi=>obtain⟨_,_,_,e⟩:=x;exact⟨_,e⟩
  | frz ob u=>obtain⟨e,_⟩:=x;exact⟨_,e⟩
  | tbl ps=>exact⟨_,(show h.get? a = some _ from x)⟩
  | met f y=>exact⟨_,(show h.get? a = some _ from x)⟩
  | ext φ=>obtain⟨_,e,_⟩:=x;exact e
structure Fly (P:Program) (w:World) (outer:List Env) (H H':Hp) (s s':Shared) (a t:Addr) (cls:Value) (od:Option Addr) (B:Heap):Prop where
  os:s'.os = s.os
  bare:AllBare s'.gens
  un:Un (frs outer) [] H H' s.heap s'.heap
  hok:HOk P w H' s'.heap
  new:H' a = none
  fly:FlyD B outer a cls (.ref t) od s'.heap
  old:∀b o,s.heap.get? b = some o→H b = none→b∉frs outer→B.get? b = some o
  trk:∀b u,H' b = some u→∃o,s'.heap.get? b = some o∧B.get? b = some o
  all:∀b o,s.heap.get? b = some o→b∉frs outer→∃o',B.get? b = some o'
def CXR (P:Program) (w:World):CXT:=fun outer H s E e s'=>∃(a t:Addr) (cls:Value) (od:Option Addr) (H':Hp) (B:Heap),e = .ref a∧Fly P w outer H H' s s' a t cls od B∧E cls od H'
theorem HOk.fromB {P:Program} {w:World} {H:Hp} {h h' B:Heap} (ok:HOk P w H h) (trk:∀b u,H b = some u→∃o,h.get? b = some o∧B.get? b = some o) (st:B.StaysIn h'):HOk P w H h':=fun a u q=>
  (ok a u q).stay (fun b o hb e=>by
    have:∃v,H b = some v:=by
      rcases hb with rfl | hb
      · exact⟨u,q⟩
      · exact⟨_,hb⟩
    obtain⟨v,hv⟩:=this
    obtain⟨o',e1,e2⟩:=trk b v hv
    rw [e] at e1;cases e1
    exact st b o e2) (fun _ z=>z) fun _ _ z=>z
section
variable {P:Program} {w:World} {K:PySem.W.Frag} {mg:Str→Option Value} {base:Heap} {N:List Str} {qual:Str} {scope:Scope} {f:Addr} {cd:Value} {A:Around} {outer:List Env} {s:Shared} {H:Hp} {E:XK}
theorem notFrame {pins:List (Addr×Obj)} {σ:St} {H1:Hp} {s1:Shared} {CX:CXT} (I:Inv (cxOf CX P w K mg base N qual scope f cd A outer s H E) pins σ H1 s1) {b:Addr} {o:Obj} (e:s.heap.get? b = some o) (n:b∉frs outer) :
    b∉frs (cxOf CX P w K mg base N qual scope f cd A outer s H E).stack:=fun hb=>by
  have hb':=I.stkSub b hb
  rcases List.mem_cons.mp hb' with z | z
  · have lt:=Heap.lt_size e
    have z':b = s.heap.objs.size:=z
    rw [z'] at lt
    exact Nat.lt_irrefl _ lt
  · exact n z
theorem raise_leavesD {pins:List (Addr×Obj)} {σ:St} {H1:Hp} {s1:Shared} {e t:Addr} {oe:Obj} {vs:Array Value} (I:Inv (cxOf (CXR P w) P w K mg base N qual scope f cd A outer s H E) pins σ H1 s1)
    (he:s1.heap.get? e = some oe) (hd:oe.data = .fields vs) (h0:vs[0]? = some (.ref t)) (h1:vs[1]? = some .none) (new:s.heap.get? e = none) (free:H1 e = none) (hE:E oe.cls oe.dict H1) :
    (cxOf (CXR P w) P w K mg base N qual scope f cd A outer s H E).xe (.ref e) s1:=by
  have fr:=I.ok.frames
  have ff:=I.stack
  generalize hst:(cxOf (CXR P w) P w K mg base N qual scope f cd A outer s H E).stack = stk at fr ff
  have hst':stk = (cxOf (CXR P w) P w K mg base N qual scope f cd A outer s H E).env :: outer:=hst.symm
  have nfr:e∉frs stk:=fun z=>by
    obtain⟨_,o,q,n⟩:=Heap.FunFrames.mem ff z
    cases he.symm.trans q
    exact n vs hd
  have hin:∀env∈stk,∀a,env.frame = some a→a∈e :: frs stk:=fun env h a ha=>List.mem_cons_of_mem _ (List.mem_filterMap.mpr ⟨env,h,ha⟩)
  have mk:∀b o,s1.heap.get? b = some o→b∉frs stk→b≠e→(PySem.W.hideAll s1.heap (e :: frs stk)).get? b = some o:=fun b o q n z=>PySem.W.hideAll_get _ q fun m=>by
    rcases List.mem_cons.mp m with m | m
    · exact z m
    · exact n m
  have nf0:∀b o,s.heap.get? b = some o→b∉frs outer→b∉frs stk:=fun b o q n=>by rw [←hst];exact notFrame I q n
  have ne0:∀b o,s.heap.get? b = some o→b≠e:=fun b o q z=>by rw [z,new] at q;cases q
  refine leaveFirstD (B:=PySem.W.hideAll s1.heap (e :: frs stk)) (show _ = some ((cxOf (CXR P w) P w K mg base N qual scope f cd A outer s H E).stack) from hst▸fr) rfl ⟨fun b o q=>PySem.W.of_hideAll _ q,PySem.W.hideAll_none _ (List.mem_cons_self ..)⟩ (show Heap.FunFrames _ _ (cxOf (CXR P w) P w K mg base N qual scope f cd A outer s H E).stack from by rw [hst];exact PySem.W.funFrames_hide ff hin) he hd h0 h1 fun h2 x1 x4=>?_
  have old:∀b o,s.heap.get? b = some o→H b = none→b∉frs outer→(PySem.W.hideAll s1.heap (e :: frs stk)).get? b = some o:=fun b o q n nf=>
    mk b o (I.base.keep b o q n nf (fun z=>by cases z)) (nf0 b o q nf) (ne0 b o q)
  have trk0:∀b u,H1 b = some u→∃o,s1.heap.get? b = some o∧(PySem.W.hideAll s1.heap (e :: frs stk)).get? b = some o:=fun b u q=>by
    obtain⟨o,eo⟩:=(I.hok b u q).there
    refine⟨o,eo,mk b o eo (fun z=>?_) fun z=>by rw [z,free] at q;cases q⟩
    rw [I.stkFree b (by rw [hst];exact z)] at q
    cases q
  have slots:∀b o,s1.heap.get? b = some o→b∈frs outer→∃sl,h2.get? b = some { o with slots:=sl }:=fun b o q hb=>by
    have hm:b∈frs stk:=by
      obtain⟨env,h,hf⟩:=List.mem_filterMap.mp hb
      rw [hst']
      exact List.mem_filterMap.mpr ⟨env,List.mem_cons_of_mem _ h,hf⟩
    obtain⟨_,o',ho',nf⟩:=Heap.FunFrames.mem ff hm
    rw [q] at ho';cases ho'
    exact x4 b o q nf
  refine⟨e,t,oe.cls,oe.dict,H1,_,rfl,⟨I.os,I.bare,⟨?_,?_,?_,?_,?_,?_,?_⟩,HOk.fromB I.hok trk0 x1.1.1,free,x1,old,?_,?_⟩,hE⟩
  · exact fun b o q n nf _=>x1.1.1 b o (old b o q n nf)
  · intro b o q n hb nx
    obtain⟨sl,q1⟩:=I.base.slot b o q n hb nx
    obtain⟨sl',q2⟩:=slots b _ q1 hb
    exact⟨sl',q2⟩
  · exact fun b o q n nx=>I.base.free b o q n nx
  · intro b o q nx
    obtain⟨o',q1⟩:=I.base.there b o q nx
    by_cases hb:b∈frs outer
    · obtain⟨sl',q2⟩:=slots b _ q1 hb
      exact⟨_,q2⟩
    · exact⟨o',x1.1.1 b o' (mk b o' q1 (nf0 b o q hb) (ne0 b o q))⟩
  · exact I.base.tups
  · exact I.base.frzs
  · exact I.base.tbls
  · intro b u q
    obtain⟨o,_,e2⟩:=trk0 b u q
    exact⟨o,x1.1.1 b o e2,e2⟩
  · intro b o q nf
    obtain⟨o',q1⟩:=I.base.there b o q (fun z=>by cases z)
    exact⟨o',mk b o' q1 (nf0 b o q nf) (ne0 b o q)⟩
theorem raise_leaves {pins:List (Addr×Obj)} {σ:St} {H1:Hp} {s1:Shared} {h':Heap} {e:Addr} {cls:Value} {vs:List Value} (I:Inv (cxOf (CXR P w) P w K mg base N qual scope f cd A outer s H E) pins σ H1 s1)
    (hx:Heap.MadeExcOf s1.heap h' e cls vs) (hE:E cls none H1):(cxOf (CXR P w) P w K mg base N qual scope f cd A outer s H E).xe (.ref e) { s1 with heap:=h' }:=by
  obtain⟨t,he,_,_⟩:=hx.there
  have J:Inv (cxOf (CXR P w) P w K mg base N qual scope f cd A outer s H E) pins σ H1 { s1 with heap:=h' }:=I.kept hx.keeps
  refine raise_leavesD J (t:=t) he rfl rfl rfl ?_ ?_ hE
  · cases q:s.heap.get? e with
    | none=>rfl
    | some o=>
      obtain⟨o',q1⟩:=I.base.there e o q (fun z=>by cases z)
      rw [hx.new] at q1;cases q1
  · cases q:H1 e with
    | none=>rfl
    | some u=>
      obtain⟨o,eo⟩:=(I.hok e u q).there
      rw [hx.new] at eo;cases eo
theorem passR {E1:XK} (hE:∀cls od H',E1 cls od H'→E cls od H'):Passes (CXR P w) (cxOf (CXR P w) P w K mg base N qual scope f cd A outer s H E) E1:=by
  intro pins σ H1 s1 ev s2 I h
  obtain⟨a,t,cls,od,H',B,rfl,F,q⟩:=h
  have fr:=I.ok.frames
  refine leaveOnD fr rfl F.fly fun h2 x1 x2=>?_
  have old:∀b o,s.heap.get? b = some o→H b = none→b∉frs outer→B.get? b = some o:=fun b o e n nf=>
    F.old b o (I.base.keep b o e n nf (fun z=>by cases z)) (I.base.free b o e n (fun z=>by cases z)) (notFrame I e nf)
  have slots:∀b o,s2.heap.get? b = some o→b∈frs outer→∃sl,h2.get? b = some { o with slots:=sl }:=fun b o e hb=>by
    have hm:b∈frs (cxOf (CXR P w) P w K mg base N qual scope f cd A outer s H E).stack:=List.mem_filterMap.mpr (by
      obtain⟨env,he,hf⟩:=List.mem_filterMap.mp hb
      exact⟨env,List.mem_cons_of_mem _ he,hf⟩)
    obtain⟨_,o',ho',nf⟩:=Heap.FunFrames.mem F.fly.2.1 hm
    rw [e] at ho';cases ho'
    exact x2 b o e nf
  have hst:∀b,b∈frs outer→b∈frs (cxOf (CXR P w) P w K mg base N qual scope f cd A outer s H E).stack:=fun b hb=>List.mem_filterMap.mpr (by
      obtain⟨env,he,hf⟩:=List.mem_filterMap.mp hb
      exact⟨env,List.mem_cons_of_mem _ he,hf⟩)
  refine⟨a,t,cls,od,H',B,rfl,⟨F.os.trans I.os,F.bare,⟨?_,?_,?_,?_,?_,?_,?_⟩,HOk.fromB F.hok F.trk x1.1.1,F.new,x1,old,?_,?_⟩,hE _ _ _ q⟩
  · exact fun b o e n nf _=>x1.1.1 b o (old b o e n nf)
  · intro b o e n hb nx
    obtain⟨sl,q1⟩:=I.base.slot b o e n hb nx
    obtain⟨sl1,q2⟩:=F.un.slot b _ q1 (I.base.free b o e n nx) (hst b hb) (fun z=>by cases z)
    obtain⟨sl2,q3⟩:=slots b _ q2 hb
    exact⟨sl2,q3⟩
  · exact fun b o e n nx=>by
      obtain⟨o1,q1⟩:=I.base.there b o e nx
      exact F.un.free b o1 q1 (I.base.free b o e n nx) (fun z=>by cases z)
  · intro b o e nx
    obtain⟨o1,q1⟩:=I.base.there b o e nx
    obtain⟨o2,q2⟩:=F.un.there b o1 q1 (fun z=>by cases z)
    by_cases hb:b∈frs outer
    · obtain⟨sl',q3⟩:=slots b _ q2 hb
      exact⟨_,q3⟩
    · obtain⟨o3,q3⟩:=F.all b o1 q1 (notFrame I e hb)
      exact⟨o3,x1.1.1 b o3 q3⟩
  · exact fun b xs z=>F.un.tups b xs (I.base.tups b xs z)
  · exact fun b o u z=>F.un.frzs b o u (I.base.frzs b o u z)
  · intro b ps z
    obtain⟨m1,z1⟩:=I.base.tbls b ps z
    obtain⟨m2,z2⟩:=F.un.tbls b _ z1
    exact⟨m1 ++ m2,by rw [←Array.append_assoc];exact z2⟩
  · intro b u z
    obtain⟨o,_,e2⟩:=F.trk b u z
    exact⟨o,x1.1.1 b o e2,e2⟩
  · intro b o e nf
    obtain⟨o1,q1⟩:=I.base.there b o e (fun z=>by cases z)
    exact F.all b o1 q1 (notFrame I e nf)
end
end L2
namespace L2
open PySem PySem.Spec PyProof.Rows
section
variable {P:Program} {w:World} {K:PySem.W.Frag} {mg:Str→Option Value} {base:Heap} {N:List Str} {qual:Str} {scope:Scope} {f:Addr} {cd:Value} {A:Around} {outer:List Env} {s:Shared} {H:Hp} {E:XK}
def tRaise (C:Addr) (E:XK) (t:TA):TS:=fun _ σ H=>t σ H fun vs H1=>vs.length≤sizeLine∧E (.ref C) none H1
theorem ps_raise {x:Str} {C:Addr} {np cpos pos:Pos} {e₀:Expr} {rest:List Expr} {t:TA} {B newId initId:String} {bmB:List Value} (FB:ExcBaseFacts B newId initId bmB) (hm:mg x = some (.ref C))
    (hq:PySem.W.excIn K C bmB newId = true) (ha:PA (cxOf (CXR P w) P w K mg base N qual scope f cd A outer s H E) (e₀ :: rest) t)
    (hx:Gl (cxOf (CXR P w) P w K mg base N qual scope f cd A outer s H E) x:=by rfl) (hd:(x == ("__debug__":Str)) = false:=by decide)
    (he:starEach (e₀ :: rest) (cxOf (CXR P w) P w K mg base N qual scope f cd A outer s H E).env = (false,eval e₀ (cxOf (CXR P w) P w K mg base N qual scope f cd A outer s H E).env) :: starEach rest (cxOf (CXR P w) P w K mg base N qual scope f cd A outer s H E).env:=by rfl)
    (hpl:(backTo cpos (starEach rest (cxOf (CXR P w) P w K mg base N qual scope f cd A outer s H E).env)).any (·.1) = false:=by rfl) :
    PS (cxOf (CXR P w) P w K mg base N qual scope f cd A outer s H E) (.Raise (some (.Call (.Name x np) (e₀ :: rest) [] cpos)) none pos) (tRaise C E t):=by
  intro pins s1 σ H1 D I hw
  obtain⟨bm,N',nm,qn,bs,hdct,sn,sub,ab,col,dd,k0,k1,k2,k3,k5,mN,hC,hN,hni,T⟩:=excObj I.ok.mod.kin hq
  refine wpAny_Raise_call_subT (C:=C) (nm:=nm) (q:=qn) (N:=N') (bs:=bs) (bm:=bm) (hdct:=hdct) (sn:=sn) (sub:=sub) (ab:=ab) (col:=col) (dd:=dd) (k0:=k0) (k1:=k1) (k2:=k2) (k3:=k3) (k5:=k5) FB (mN:=mN)
    (T.hasType FB.hasBase) (I.ok.hd rfl) (by rw [he];exact hpl) hni (ld_glob I hx hm ⟨rfl,?_⟩ hd)
  have h:=ha cpos pins s1 σ H1 _ I hw
  rw [he] at h ⊢
  exact Calls.evalArgs_plain (wpAny_mono h (fun us s2 ⟨vs,H2,I2,rv,z,q⟩=>⟨rfl,by rw [←rv.length];exact z,I2.bk _ _ hC,hN.keeps I2.bk,T.keeps I2.bk,fun h' e hx=>raise_leaves I2 hx q⟩) fun _ _ y=>y)
theorem Fun.okR {x qual:Str} {st:Stmt} {f:Addr} {fd:FuncData} {N ps:List Str} {k:Nat} {sp:Sp} (F:Fun K x qual st f fd) (S:FnScope N ps (defScope st)) (len:∀vs H Q E,sp vs H Q E→vs.length = ps.length)
    (hbody:∀(cdv:Value) (A:Around) (outer:List Env) (s:Shared) (H:Hp) (vs:List V) (Q:VK) (E:XK),Room k (A.deeper (envOfC qual (defScope st) s.heap.objs.size f cdv))→sp vs H Q E→
      ∃t,PSs (cxOf (CXR P w) P w K mg base N qual (defScope st) f cdv A outer s H E) (defBody st) t∧t { nx:=fun _ H'=>Q .non H',rt:=Q } (start N vs) H):FnOk P w K mg base (CXR P w) (k + 1) f fd ps sp:=by
  obtain⟨oc,od,kV,doc,pm,an,cdv,ct,osl,rfl,lk,hcd⟩:=F.ex
  exact fn_of lk hcd S len fun A outer s H vs Q E hr hsp=>hbody cdv A outer s H vs Q E hr hsp
end
section
variable {X:Cx}
def PEX (X:Cx) (e:Expr) (t:St→Hp→VK→XK→Prop):Prop:=∀(pins:List (Addr×Obj)) (s:Shared) (σ:St) (H:Hp) (Q:VK) (EX:XK),Inv X pins σ H s→t σ H Q EX→
  wpAny (model X.prog X.w) X.A (eval e X.env) (EP X pins σ Q) (fun ev s'=>∃H1 s1,Inv X pins σ H1 s1∧CXR X.prog X.w X.stack H1 s1 EX ev s') s
def excO (cls:Value) (a:Addr) (od:Option Addr):HO:= .ext fun h=>∃o vs,h.get? a = some o∧(o.cls = cls∧o.dict = od)∧o.data = .fields vs
theorem land {pins:List (Addr×Obj)} {σ:St} {H1 H':Hp} {s1 s':Shared} {a t:Addr} {cls:Value} {od:Option Addr} {B h6:Heap} (I:Inv X pins σ H1 s1) (F:Fly X.prog X.w X.stack H1 H' s1 s' a t cls od B)
    (fl:FlyD B X.stack a cls (.ref t) od h6) (sm:s'.heap.UpToSlots h6):Inv X pins σ (upd H' a (excO cls a od)) { s' with heap:=h6 }:=by
  obtain⟨oe,vs,ee,ec,eo,ed⟩:=fl.obj
  have neB:∀b o,B.get? b = some o→b≠a:=fun b o e z=>by rw [z,fl.1.2] at e;cases e
  have neF:∀b,b∈frs X.stack→b≠a:=fun b hb z=>by
    obtain⟨_,o,ho,nf⟩:=Heap.FunFrames.mem fl.2.1 hb
    rw [z,ee] at ho;cases ho
    exact nf _ ed
  have slots:∀b o,s'.heap.get? b = some o→b∈frs X.stack→∃sl,h6.get? b = some { o with slots:=sl }:=fun b o e hb=>by
    obtain⟨_,o',ho',nf⟩:=Heap.FunFrames.mem F.fly.2.1 hb
    rw [e] at ho';cases ho'
    exact sm b o e nf
  have neT:∀b u,H' b = some u→b≠a:=fun b u e z=>by rw [z,F.new] at e;cases e
  have up:∀b u,H' b = some u→upd H' a (excO cls a od) b = some u:=fun b u e=>by rw [upd_ne (neT b u e)];exact e
  refine I.call' (ch:=[]) F.os ⟨?_,?_,?_,?_,?_,?_,?_⟩ ?_ F.bare (fun _ z=>nomatch z)
  · exact fun b o e n nf _=>fl.1.1 b o (F.old b o e n nf)
  · intro b o e n hb nx
    obtain⟨sl,q1⟩:=F.un.slot b o e n hb nx
    obtain⟨sl2,q2⟩:=slots b _ q1 hb
    exact⟨sl2,q2⟩
  · intro b o e n nx
    have z:b≠a:=by
      by_cases hb:b∈frs X.stack
      · exact neF b hb
      · exact neB b o (F.old b o e n hb)
    rw [upd_ne z]
    exact F.un.free b o e n nx
  · intro b o e nx
    by_cases hb:b∈frs X.stack
    · obtain⟨o1,q1⟩:=F.un.there b o e nx
      obtain⟨sl2,q2⟩:=slots b _ q1 hb
      exact⟨_,q2⟩
    · obtain⟨o3,q3⟩:=F.all b o e hb
      exact⟨o3,fl.1.1 b o3 q3⟩
  · exact fun b xs z=>up b _ (F.un.tups b xs z)
  · exact fun b o u z=>up b _ (F.un.frzs b o u z)
  · intro b ps z
    obtain⟨m,z1⟩:=F.un.tbls b ps z
    exact⟨m,up b _ z1⟩
  · intro b u e
    by_cases hb:b = a
    · subst hb
      rw [upd_same] at e
      cases e
      exact⟨⟨oe,vs,ee,⟨ec,eo⟩,ed⟩,⟨oe,ee⟩,fun h1 h2 ⟨o,v,q1,q2,q3⟩ k=>⟨o,v,k o q1,q2,q3⟩⟩
    · rw [upd_ne hb] at e
      refine(HOk.fromB F.hok F.trk fl.1.1 b u e).stay (fun c v _ q=>q) (fun c q=>up c _ q) fun c xs q=>up c _ q
abbrev Cx.marked (X:Cx) (e:Value):Cx:={ X with A:=X.A.mark (some e),calm:=false,xe:=fun _ _=>False }
theorem Inv.marked {pins:List (Addr×Obj)} {σ:St} {H:Hp} {s:Shared} (I:Inv X pins σ H s) (e:Value):Inv (X.marked e) pins σ H s:=
  ⟨⟨I.ok.mod,I.ok.kind,I.ok.glob,I.ok.blt,I.ok.above,I.ok.inj,I.ok.has,I.ok.cab,(fun z=>nomatch z),I.ok.frames,I.ok.stk,I.ok.exf,I.ok.bs,I.ok.bsz,I.ok.noex,I.ok.exfs,I.ok.funs,I.ok.frf⟩,I.os,I.bare,I.base,I.loc,I.cell,I.free,I.freeC,I.pin,I.hok,I.len⟩
theorem Inv.unmarked {pins:List (Addr×Obj)} {σ:St} {H:Hp} {s:Shared} {e:Value} (ok:X.Ok) (I:Inv (X.marked e) pins σ H s):Inv X pins σ H s:=
  ⟨ok,I.os,I.bare,I.base,I.loc,I.cell,I.free,I.freeC,I.pin,I.hok,I.len⟩
theorem unbound {M:Model} {A:Around} {E:Value→Shared→Prop} {pins:List (Addr×Obj)} {σ:St} {H:Hp} {s:Shared} {i:Nat} {n:Str} {pos:Pos} {Q:Unit→Shared→Prop} (I:Inv X pins σ H s) (hN:X.N.Nodup) (hi:X.N[i]? = some n) (hk:X.env.scope.names.lookup n = some .local)
    (h:∀s',Inv X pins (σ.set i none) H s'→Q () s'):wpAny M A (do bindName X.env n .none;unbindBehindTheSuite X.env n pos) Q E s:=by
  obtain⟨m,hn,hl⟩:=id I.loc
  have hcls:(X.env.scope.kind == .class || (X.env.scope.kind == .module && X.env.locals != X.env.globals)) = false:=by rw [I.ok.kind];rfl
  have hiσ:i < σ.length:=by rw [I.len];exact(List.getElem?_eq_some_iff.mp hi).1
  refine wpAny_nameGoes_keeps hk hn hcls fun h' v hn' hs=>h _ ?_
  have low:∀b o,X.s₀.heap.get? b = some o→h'.get? b = s.heap.get? b:=fun b o e=>hs.2 b (Nat.ne_of_lt (Nat.lt_of_lt_of_le (Heap.lt_size e) I.ok.above))
  have other:∀b,b≠X.env.locals→h'.get? b = s.heap.get? b:=fun b hb=>hs.2 b hb
  refine⟨I.ok,I.os,I.bare,⟨fun b o e n hb hx=>(low b o e).trans (I.base.keep b o e n hb hx),fun b o e n hb hx=>?_,I.base.free,fun b o e hx=>?_,I.base.tups,I.base.frzs,I.base.tbls⟩,⟨_,hn',fun j y v' e1 e2 e3=>?_⟩,fun y c e=>?_,I.free,I.freeC,fun p hp=>?_,fun b ob e=>?_,by simpa using I.len⟩
  · obtain⟨sl,e1⟩:=I.base.slot b o e n hb hx
    exact⟨sl,(low b o e).trans e1⟩
  · obtain⟨o',e1⟩:=I.base.there b o e hx
    exact⟨o',(low b o e).trans e1⟩
  · by_cases hj:j = i
    · subst hj
      rw [List.getElem?_set_self hiσ] at e2
      cases e2
    · rw [List.getElem?_set_ne (Ne.symm hj)] at e2
      obtain⟨u',r',q⟩:=hl j y v' e1 e2 e3
      refine⟨u',r',?_⟩
      rcases q with ⟨k,e⟩ | ⟨k,c,e,z⟩
      · have hy:y≠n:=fun e=>hj (nodup_ix hN e1 (e▸hi))
        exact .inl ⟨k,(if_neg hy).trans e⟩
      · exact .inr ⟨k,c,e,z.sameBut hs (I.cne y c e)⟩
  · obtain⟨w',z⟩:=I.cell y c e
    exact⟨w',z.sameBut hs (I.cne y c e)⟩
  · obtain⟨e,n,ne,nf,d⟩:=I.pin p hp
    exact⟨(other p.1 ne).trans e,n,ne,nf,d⟩
  · refine(I.hok b ob e).stay (fun c w' hc q=>(other c ?_).trans q) (fun _ q=>q) fun _ _ q=>q
    rintro rfl
    rcases hc with rfl | hc
    · rw [I.free] at e;cases e
    · rw [I.free] at hc;cases hc
def sufE (D:Ends) (i:Nat):Ends:={ nx:=fun σ' H'=>D.nx (σ'.set i none) H',rt:=D.rt,bk:=fun σ' H'=>D.bk (σ'.set i none) H',ct:=fun σ' H'=>D.ct (σ'.set i none) H' }
def tTryAs (tx:St→Hp→VK→XK→Prop) (K:PySem.W.Frag) (C:Addr) (i:Nat) (ts:TS):TS:=fun D σ H=>
  tx σ H (fun _ H1=>D.nx σ H1) fun cls od H1=>PySem.W.exmOne K cls (.ref C) = some true∧∀a,H1 a = none→ts (sufE D i) (σ.set i (some (.ref a))) (upd H1 a (excO cls a od))
def tTry0 (tx:St→Hp→VK→XK→Prop) (K:PySem.W.Frag) (C:Addr) (ts:TS):TS:=fun D σ H=>
  tx σ H (fun _ H1=>D.nx σ H1) fun cls od H1=>PySem.W.exmOne K cls (.ref C) = some true∧∀a,H1 a = none→ts D σ (upd H1 a (excO cls a od))
variable {e:Expr} {tx:St→Hp→VK→XK→Prop} {p1 np hpos pos:Pos} {y n:Str} {C:Addr} {i:Nat} {b₀:Stmt} {suite:List Stmt} {ts:TS}
end
end L2
namespace L2
open PySem PySem.Spec PyProof.Rows
structure RoomN (k:Nat) (A:Around):Prop where
  dp:A.depth + 3 * k + 5 < recursionLimit
  un:A.units + 16 * k + 200 < cLine
structure FnOkN (P:Program) (w:World) (K:PySem.W.Frag) (mg:Str→Option Value) (base:Heap) (CX:CXT) (k:Nat) (f:Addr) (fd:FuncData) (ps:List Str) (sp:Sp):Prop where
  len:∀vs H Q E,sp vs H Q E→vs.length = ps.length
  run:∀(A:Around) (outer:List Env) (s:Shared) (H:Hp) (args:Args) (us:List Value) (vs:List V) (Q:VK) (E:XK),RoomN k A→Env0 P w K mg base A outer s H→BindsTo s fd args (ps.zip us)→Vals vs us→sp vs H Q E→
    codeAny (model P w) A (.call (.ref f) args) (CR CX outer P w H s Q E) s
section
variable {X:Cx} {CX:CXT} {k:Nat} {f C:Addr} {fd:FuncData} {ps:List Str} {sp:Sp} {dvs:List V} {ds:List Value} {E:XK} {x m:Str} {p pos apos:Pos} {e o:Expr} {es:List Expr} {ta:TE} {t:TA}
end
def cxOfN (CX:CXT) (P:Program) (w:World) (K:PySem.W.Frag) (mg:Str→Option Value) (base:Heap) (N:List Str) (qual:Str) (scope:Scope) (f:Addr) (cd:Value) (A:Around) (outer:List Env) (s:Shared) (H:Hp) (E:XK):Cx where
  prog:=P
  w:=w
  K:=K
  mg:=mg
  base:=base
  A:=A.deeper (envOfC qual scope s.heap.objs.size f cd)
  N:=N
  s₀:=s
  H₀:=H
  env:=envOfC qual scope s.heap.objs.size f cd
  outer:=outer
  stack:=envOfC qual scope s.heap.objs.size f cd :: outer
  ex:=[]
  calm:=false
  fn:=fun _=>true
  pn:=[]
  xe:=fun e s'=>wpAny (model P w) (A.deeper (envOfC qual scope s.heap.objs.size f cd)) (leaving (envOfC qual scope s.heap.objs.size f cd) e) (fun _ s''=>CX outer H s E e s'') (fun e' s''=>CX outer H s E e' s'') s'
section
variable {P:Program} {w:World} {K:PySem.W.Frag} {mg:Str→Option Value} {base:Heap}
end
end L2
namespace L2
open PySem PySem.Spec PyProof.Rows
theorem PE.imp {X:Cx} {e:Expr} {t t':TE} (h:PE X e t) (i:∀σ H Q,t' σ H Q→t σ H Q):PE X e t':=fun pins s σ H Q I q=>h pins s σ H Q I (i σ H Q q)
theorem OpR.imp {X:Cx} {f:Value→Value→Sem Value} {r r':R2} (h:OpR X f r) (i:∀x y H Q,r' x y H Q→r x y H Q):OpR X f r':=fun pins s σ H x y v u Q I rx ry q=>h pins s σ H x y v u Q I rx ry (i x y H Q q)
theorem UnR.imp {X:Cx} {f:Value→Sem Value} {r r':V→Hp→VK→Prop} (h:UnR X f r) (i:∀x H Q,r' x H Q→r x H Q):UnR X f r':=fun pins s σ H x v Q I rx q=>h pins s σ H x v Q I rx (i x H Q q)
theorem CallR.imp {X:Cx} {f:Value} {r r':List V→Hp→VK→Prop} (h:CallR X f r) (i:∀xs H Q,r' xs H Q→r xs H Q):CallR X f r':=fun pins s σ H xs us Q I rv q=>h pins s σ H xs us Q I rv (i xs H Q q)
theorem IxR.imp {X:Cx} {r r':R2} (h:IxR X r) (i:∀x y H Q,r' x y H Q→r x y H Q):IxR X r':=fun va sl pins s σ H x y v u Q I rx ry q hs=>h va sl pins s σ H x y v u Q I rx ry (i x y H Q q) hs
def oV (o:Option (Option V)) (k:V→Prop):Prop:=@Option.rec (Option V) (fun _=>Prop) False (fun o=>@Option.rec V (fun _=>Prop) False k o) o
def vI (x:V) (k:Int→Prop):Prop:=@V.rec (fun _=>Prop) False (fun _=>False) k (fun _=>False) (fun _=>False) (fun _=>False) (fun _=>False) (fun _=>False) x
def vB (x:V) (k:Bool→Prop):Prop:=@V.rec (fun _=>Prop) False k (fun _=>False) (fun _=>False) (fun _=>False) (fun _=>False) (fun _=>False) (fun _=>False) x
def vS (x:V) (k:Str→Prop):Prop:=@V.rec (fun _=>Prop) False (fun _=>False) (fun _=>False) k (fun _=>False) (fun _=>False) (fun _=>False) (fun _=>False) x
def vR (x:V) (k:Addr→Prop):Prop:=@V.rec (fun _=>Prop) False (fun _=>False) (fun _=>False) (fun _=>False) (fun _=>False) (fun _=>False) k (fun _=>False) x
def l1 (vs:List V) (k:V→Prop):Prop:=@List.rec V (fun _=>Prop) False (fun x r _=>@List.rec V (fun _=>Prop) (k x) (fun _ _ _=>False) r) vs
def l2 (vs:List V) (k:V→V→Prop):Prop:=@List.rec V (fun _=>Prop) False (fun x r _=>l1 r fun y=>k x y) vs
theorem oV.ex {o:Option (Option V)} {k:V→Prop} (h:oV o k):∃v,o = some (some v)∧k v:=by
  cases o with
  | none=>exact h.elim
  | some o=>cases o with
    | none=>exact h.elim
    | some v=>exact⟨v,rfl,h⟩
theorem vI.ex {x:V} {k:Int→Prop} (h:vI x k):∃i,x = .int i∧k i:=by
  cases x with
  | int i=>exact⟨i,rfl,h⟩
  | _=>exact h.elim
theorem vB.ex {x:V} {k:Bool→Prop} (h:vB x k):∃i,x = .bl i∧k i:=by
  cases x with
  | bl i=>exact⟨i,rfl,h⟩
  | _=>exact h.elim
theorem vS.ex {x:V} {k:Str→Prop} (h:vS x k):∃i,x = .str i∧k i:=by
  cases x with
  | str i=>exact⟨i,rfl,h⟩
  | _=>exact h.elim
theorem vR.ex {x:V} {k:Addr→Prop} (h:vR x k):∃i,x = .ref i∧k i:=by
  cases x with
  | ref i=>exact⟨i,rfl,h⟩
  | _=>exact h.elim
theorem l1.ex {vs:List V} {k:V→Prop} (h:l1 vs k):∃x,vs = [x]∧k x:=by
  match vs,h with
  | [x],h=>exact⟨x,rfl,h⟩
theorem l2.ex {vs:List V} {k:V→V→Prop} (h:l2 vs k):∃x y,vs = [x,y]∧k x y:=by
  match vs,h with
  | [x,y],h=>exact⟨x,y,rfl,h⟩
def dVar (i:Nat):TE:=fun σ H Q=>oV σ[i]? fun v=>Q v H
section
variable {X:Cx}
theorem dv (i:Nat) {x:Str} {pos:Pos} (hN:X.N[i]? = some x:=by rfl) (hv:Vis X.env.scope x:=by first | exact Or.inl rfl | exact Or.inr (Or.inl rfl) | exact Or.inr (Or.inr rfl)) (hd:(x == ("__debug__":Str)) = false:=by decide)
    (hcd:(x == ("__classdict__":Str)) = false:=by decide):PE X (.Name x pos) (dVar i):=(pe_var hN hv hd hcd).imp fun σ H Q h=>h.ex
def mI (C:Int→Int→Prop) (g:Int→Int→V):R2:=fun x y H Q=>vI x fun i=>vI y fun j=>C i j∧Q (g i j) H
def mI0 (g:Int→Int→V):R2:=fun x y H Q=>vI x fun i=>vI y fun j=>Q (g i j) H
theorem mI.to {C:Int→Int→Prop} {g:Int→Int→V}:∀x y H Q,mI C g x y H Q→rI C g x y H Q:=fun x y H Q h=>by
  obtain⟨i,rfl,h1⟩:=vI.ex h
  clear h
  obtain⟨j,rfl,h⟩:=vI.ex h1
  exact⟨_,_,rfl,rfl,h.1,h.2⟩
theorem mI0.to {g:Int→Int→V}:∀x y H Q,mI0 g x y H Q→rI0 g x y H Q:=fun x y H Q h=>by
  obtain⟨i,rfl,h1⟩:=vI.ex h
  clear h
  obtain⟨j,rfl,h⟩:=vI.ex h1
  exact⟨_,_,rfl,rfl,h⟩
def mU (g:Int→V):V→Hp→VK→Prop:=fun x H Q=>vI x fun i=>Q (g i) H
theorem mU.to {g:Int→V}:∀x H Q,mU g x H Q→rU g x H Q:=fun x H Q h=>vI.ex h
theorem z_add:OpR X (binaryOp .Add) (mI0 fun i j=> .int (i + j)):=op_add.imp mI0.to
theorem z_sub:OpR X (binaryOp .Sub) (mI0 fun i j=> .int (i - j)):=op_sub.imp mI0.to
theorem z_mul:OpR X (binaryOp .Mult) (mI CMulB fun i j=> .int (i * j)):=op_mulB.imp mI.to
theorem z_fdiv:OpR X (binaryOp .FloorDiv) (mI CDiv fun i j=> .int (i / j)):=op_fdiv.imp mI.to
theorem z_mod:OpR X (binaryOp .Mod) (mI (fun _ j=>0 < j) fun i j=> .int (i % j)):=op_mod.imp mI.to
theorem z_neg:UnR X (unaryOp .USub) (mU fun i=> .int (-i)):=un_neg.imp mU.to
theorem z_lt:OpR X (compareOp .Lt) (mI0 fun i j=> .bl (decide (i < j))):=op_lt.imp mI0.to
theorem z_le:OpR X (compareOp .LtE) (mI0 fun i j=> .bl (decide (i≤j))):=op_le.imp mI0.to
theorem z_gt:OpR X (compareOp .Gt) (mI0 fun i j=> .bl (decide (j < i))):=op_gt.imp mI0.to
theorem dI {i j:Int}:decide (V.int i = V.int j) = decide (i = j):=by
  by_cases h:i = j
  · rw [decide_eq_true h,decide_eq_true (congrArg V.int h)]
  · rw [decide_eq_false h,decide_eq_false fun z=>h (V.int.inj z)]
theorem dS {i j:Str}:decide (V.str i = V.str j) = decide (i = j):=by
  by_cases h:i = j
  · rw [decide_eq_true h,decide_eq_true (congrArg V.str h)]
  · rw [decide_eq_false h,decide_eq_false fun z=>h (V.str.inj z)]
theorem dB {i j:Bool}:decide (V.bl i = V.bl j) = decide (i = j):=by
  by_cases h:i = j
  · rw [decide_eq_true h,decide_eq_true (congrArg V.bl h)]
  · rw [decide_eq_false h,decide_eq_false fun z=>h (V.bl.inj z)]
def eqW (f:Bool→Prop) (x y:V):Prop:=@V.rec (fun _=>Prop)
  (@V.rec (fun _=>Prop) (f true) (fun _=>False) (fun _=>f false) (fun _=>f false) (fun _=>False) (fun _=>False) (fun _=>False) (fun _=>False) y)
  (fun i=>@V.rec (fun _=>Prop) False (fun j=>f (decide (i = j))) (fun _=>False) (fun _=>False) (fun _=>False) (fun _=>False) (fun _=>False) (fun _=>False) y)
  (fun i=>@V.rec (fun _=>Prop) (f false) (fun _=>False) (fun j=>f (decide (i = j))) (fun _=>f false) (fun _=>False) (fun _=>False) (fun _=>False) (fun _=>False) y)
  (fun i=>@V.rec (fun _=>Prop) (f false) (fun _=>False) (fun _=>f false) (fun j=>f (decide (i = j))) (fun _=>False) (fun _=>False) (fun _=>False) (fun _=>False) y)
  (fun _=>False) (fun _=>False) (fun _=>False) (fun _=>False) x
theorem eqW.ex {f:Bool→Prop} {x y:V} (h:eqW f x y):scal x y = true∧f (decide (x = y)):=by
  cases x with
  | non=>cases y <;> first | exact h.elim | exact⟨rfl,h⟩
  | bl i=>cases y <;> first | exact h.elim | (exact⟨rfl,by rw [dB];exact h⟩)
  | int i=>cases y <;> first | exact h.elim | exact⟨rfl,h⟩ | (exact⟨rfl,by rw [dI];exact h⟩)
  | str i=>cases y <;> first | exact h.elim | exact⟨rfl,h⟩ | (exact⟨rfl,by rw [dS];exact h⟩)
  | _=>exact h.elim
def mEq:R2:=fun x y H Q=>eqW (fun b=>Q (.bl b) H) x y
def mNe:R2:=fun x y H Q=>eqW (fun b=>Q (.bl (!b)) H) x y
theorem z_eq:OpR X (compareOp .Eq) mEq:=op_eq.imp fun x y H Q h=>eqW.ex (f:=fun b=>Q (.bl b) H) h
theorem z_ne:OpR X (compareOp .NotEq) mNe:=op_ne.imp fun x y H Q h=>eqW.ex (f:=fun b=>Q (.bl (!b)) H) h
def vN (x:V) (k:Prop):Prop:=@V.rec (fun _=>Prop) k (fun _=>False) (fun _=>False) (fun _=>False) (fun _=>False) (fun _=>False) (fun _=>False) (fun _=>False) x
theorem vN.ex {x:V} {k:Prop} (h:vN x k):x = .non∧k:=by
  cases x with
  | non=>exact⟨rfl,h⟩
  | _=>exact h.elim
def mIsN:R2:=fun x y H Q=>vN y (Q (.bl (decide (x = .non))) H)
def mNotN:R2:=fun x y H Q=>vN y (Q (.bl (!decide (x = .non))) H)
theorem z_isN:OpR X (compareOp .Is) mIsN:=op_isN.imp fun x y H Q h=>vN.ex h
theorem z_notN:OpR X (compareOp .IsNot) mNotN:=op_notN.imp fun x y H Q h=>vN.ex h
section
variable {a b c:Expr} {ta tb tc:TE} {pos:Pos} {rest:List Expr}
theorem vB_iff {x:V} {k:Bool→Prop}:vB x k = ∃i,x = .bl i∧k i:=propext ⟨vB.ex,fun ⟨i,e,h⟩=>by subst e;exact h⟩
def dTest (t:TE):TT:=fun σ H Q=>t σ H fun x H'=>vB x fun k=>Q k H'
theorem dTest_eq (t:TE):dTest t = tTest t:=by
  funext σ H Q
  unfold dTest tTest
  simp only [vB_iff]
theorem dTest_eqB (t:TE):dTest t = tB t:=by
  funext σ H Q
  unfold dTest tB
  simp only [vB_iff]
theorem md_cmp {op:CmpOp} {r:R2} (ho:OpR X (compareOp op) r) (ha:PE X a ta) (hb:PE X b tb) (hm:behindInMarks op b = false):PT X (.Compare a [op] [b] pos) (dTest (tOp r ta tb)):=by
  rw [dTest_eq];exact pt_cmpR ho ha hb hm
theorem md_val {e:Expr} {t:TE} (h:PE X e t) (he:∀whole,isTrue e X.env whole = (do let v←whole;standAt e.pos;holding [v] (truthy v)):=by intro _;rfl):PT X e (dTest t):=by
  rw [dTest_eqB];exact pt_val h he
def dAnd (ta tb:TE):TE:=fun σ H Q=>ta σ H fun x H1=>vB x fun c=>if c = true then tb σ H1 Q else Q (.bl false) H1
def dOr (ta tb:TE):TE:=fun σ H Q=>ta σ H fun x H1=>vB x fun c=>if c = true then Q (.bl true) H1 else tb σ H1 Q
def dNot (ta:TE):TE:=fun σ H Q=>ta σ H fun x H1=>vB x fun c=>Q (.bl (!c)) H1
theorem dAnd_eq:dAnd ta tb = tAndV ta tb:=by
  funext σ H Q
  unfold dAnd tAndV
  simp only [vB_iff]
theorem dNot_eq:dNot ta = tNotV ta:=by
  funext σ H Q
  unfold dNot tNotV
  simp only [vB_iff]
theorem md_and (ha:PE X a ta) (hb:PE X (.BoolOp .And (b :: rest) pos) tb):PE X (.BoolOp .And (a :: b :: rest) pos) (dAnd ta tb):=by
  rw [dAnd_eq];exact pe_and ha hb
theorem md_not (ha:PE X a ta):PE X (.UnaryOp .Not a pos) (dNot ta):=by
  rw [dNot_eq];exact pe_not ha
end
def SqA (K:PySem.W.Frag) (H:Hp) (a:Addr) (xs:List V):Prop:=SqL K H a xs∨SqT K H a xs
def mIxL (K:PySem.W.Frag):R2:=fun x y H Q=>vR x fun p=>vI y fun i=>∃xs v,SqL K H p xs∧atI xs i = some v∧Q v H
def mIxT (K:PySem.W.Frag):R2:=fun x y H Q=>vR x fun p=>vI y fun i=>∃xs v,SqT K H p xs∧atI xs i = some v∧Q v H
def mIxS:R2:=fun x y H Q=>vS x fun z=>vI y fun i=>∃c,z.length≤sizeLine∧atI z.cps.toList i = some c∧Q (.str ⟨#[c]⟩) H
theorem z_ixL:IxR X (mIxL X.K):=ix_list.imp fun x y H Q h=>by
  obtain⟨p,rfl,h⟩:=vR.ex h
  obtain⟨i,rfl,xs,v,h1,h2,h3⟩:=vI.ex h
  exact⟨_,xs,_,v,rfl,rfl,h1,h2,h3⟩
theorem z_ixT:IxR X (mIxT X.K):=ix_tup.imp fun x y H Q h=>by
  obtain⟨p,rfl,h⟩:=vR.ex h
  obtain⟨i,rfl,xs,v,h1,h2,h3⟩:=vI.ex h
  exact⟨_,xs,_,v,rfl,rfl,h1,h2,h3⟩
theorem z_ixS:IxR X mIxS:=ix_str.imp fun x y H Q h=>by
  obtain⟨p,rfl,h⟩:=vS.ex h
  obtain⟨i,rfl,c,h1,h2,h3⟩:=vI.ex h
  exact⟨_,_,c,rfl,rfl,h1,h2,h3⟩
def mLen (K:PySem.W.Frag):List V→Hp→VK→Prop:=fun xs H Q=>l1 xs fun x=>vR x fun p=>∃ys,SqA K H p ys∧Q (.int ys.length) H
theorem z_len:CallR X (.builtin "len") (mLen X.K):=call_len_seq.imp fun xs H Q h=>by
  obtain⟨x,rfl,h⟩:=l1.ex h
  obtain⟨p,rfl,ys,h1,h2⟩:=vR.ex h
  exact⟨_,ys,rfl,h1,h2⟩
def mLenS:List V→Hp→VK→Prop:=fun xs H Q=>l1 xs fun x=>vS x fun z=>z.length≤sizeLine∧Q (.int z.length) H
theorem z_lenS:CallR X (.builtin "len") mLenS:=call_len_str.imp fun xs H Q h=>by
  obtain⟨x,rfl,h⟩:=l1.ex h
  obtain⟨p,rfl,h1,h2⟩:=vS.ex h
  exact⟨_,rfl,h1,h2⟩
def mListOf (K:PySem.W.Frag):List V→Hp→VK→Prop:=fun xs H Q=>l1 xs fun x=>vR x fun p=>∃ys,SqA K H p ys∧∀l,H l = none→Q (.ref l) (upd H l (.lst ys))
theorem z_listOf:CallR X (.type "list") (mListOf X.K):=call_list_of.imp fun xs H Q h=>by
  obtain⟨x,rfl,h⟩:=l1.ex h
  obtain⟨p,rfl,ys,h1,h2⟩:=vR.ex h
  exact⟨_,ys,rfl,h1,h2⟩
def mMin2:List V→Hp→VK→Prop:=fun xs H Q=>l2 xs fun x y=>vI x fun i=>vI y fun j=>Q (.int (min i j)) H
def mMax2:List V→Hp→VK→Prop:=fun xs H Q=>l2 xs fun x y=>vI x fun i=>vI y fun j=>Q (.int (max i j)) H
theorem z_min2 (hc:X.calm = true):CallR X (.builtin "min") mMin2:=(call_min2 hc).imp fun xs H Q h=>by
  obtain⟨x,y,rfl,h⟩:=l2.ex h
  obtain⟨i,rfl,h⟩:=vI.ex h
  obtain⟨j,rfl,h⟩:=vI.ex h
  refine⟨_,_,rfl,?_⟩
  have e:(if j < i then j else i) = min i j:=by omega
  rw [e];exact h
theorem z_max2 (hc:X.calm = true):CallR X (.builtin "max") mMax2:=(call_max2 hc).imp fun xs H Q h=>by
  obtain⟨x,y,rfl,h⟩:=l2.ex h
  obtain⟨i,rfl,h⟩:=vI.ex h
  obtain⟨j,rfl,h⟩:=vI.ex h
  refine⟨_,_,rfl,?_⟩
  have e:(if j > i then j else i) = max i j:=by omega
  rw [e];exact h
def isiR (T:String) (f:V→Hp→VK→Prop):List V→Hp→VK→Prop:=fun xs H Q=>l2 xs fun x c=>c = .ty T∧f x H Q
def mIsiInt:V→Hp→VK→Prop:=fun x H Q=>@V.rec (fun _=>Prop) False (fun _=>Q (.bl true) H) (fun _=>Q (.bl true) H) (fun _=>Q (.bl false) H) (fun _=>False) (fun _=>False) (fun _=>False) (fun _=>False) x
def mIsiBool:V→Hp→VK→Prop:=fun x H Q=>@V.rec (fun _=>Prop) False (fun _=>Q (.bl true) H) (fun _=>Q (.bl false) H) (fun _=>False) (fun _=>False) (fun _=>False) (fun _=>False) (fun _=>False) x
def mIsiStr:V→Hp→VK→Prop:=fun x H Q=>@V.rec (fun _=>Prop) False (fun _=>False) (fun _=>Q (.bl false) H) (fun _=>Q (.bl true) H) (fun _=>False) (fun _=>False) (fun _=>False) (fun _=>False) x
def mIsiList:V→Hp→VK→Prop:=fun x H Q=>@V.rec (fun _=>Prop) False (fun _=>False) (fun _=>Q (.bl false) H) (fun _=>Q (.bl false) H) (fun _=>False) (fun _=>False) (fun p=>(∃xs,H p = some (.lst xs))∧Q (.bl true) H) (fun _=>False) x
def mIsiTuple:V→Hp→VK→Prop:=fun x H Q=>@V.rec (fun _=>Prop) False (fun _=>False) (fun _=>Q (.bl false) H) (fun _=>False) (fun _=>False) (fun _=>False) (fun p=>(∃xs,H p = some (.tup xs))∧Q (.bl true) H) (fun _=>False) x
end
section
variable {K:PySem.W.Frag}
theorem isi_int_tuple:PySem.W.kitOne K (.type "int") (.type "tuple") = some false:=by first | rfl | decide +kernel
end
section
variable {X:Cx}
theorem isi_of {T:String} {f:V→Hp→VK→Prop} (h:∀x H Q,f x H Q→∃t b,TyOf X.K H x t∧PySem.W.kitOne X.K t (.type T) = some b∧Q (.bl b) H):CallR X (.builtin "isinstance") (isiR T f):=call_isi.imp fun xs H Q q=>by
  obtain⟨x,c,rfl,q⟩:=l2.ex q
  obtain⟨ec,q2⟩:=q
  subst ec
  obtain⟨t,b,h1,h2,h3⟩:=h x H Q q2
  exact⟨_,_,_,t,b,rfl,rfl,h1,h2,h3⟩
theorem z_isi_bool:CallR X (.builtin "isinstance") (isiR "bool" mIsiBool):=isi_of fun x H Q q=>by
  cases x with
  | int i=>exact⟨_,_,.int _,isi_int_bool,q⟩
  | bl i=>exact⟨_,_,.bl _,isi_bool_bool,q⟩
  | _=>exact q.elim
theorem z_isi_tuple:CallR X (.builtin "isinstance") (isiR "tuple" mIsiTuple):=isi_of fun x H Q q=>by
  cases x with
  | int i=>exact⟨_,_,.int _,isi_int_tuple,q⟩
  | ref p=>
    obtain⟨⟨xs,hp⟩,q⟩:=q
    exact⟨_,_,.tup hp,isi_tuple_tuple,q⟩
  | _=>exact q.elim
def tCutA (t:TA):TA:=fun σ H Q=>∃P:List V→Hp→Prop,t σ H P∧∀x H',P x H'→Q x H'
theorem pa_cut {es:List Expr} {t:TA} (h:PA X es t):PA X es (tCutA t):=by
  intro pos pins s σ H Q I hw
  obtain⟨P,h1,h2⟩:=hw
  exact thn (h pos pins s σ H P I h1) fun v s1 ⟨x,H1,I1,r,q⟩=>⟨x,H1,I1,r,h2 x H1 q⟩
section
variable {o e:Expr} {es:List Expr} {to:TE} {t:TA} {apos cpos:Pos}
def dBl (to:TE):TE:=fun σ H Q=>to σ H fun x H1=>vI x fun i=>Q (.int ((Builtin.Int.intBits i:Nat):Int)) H1
def dAppend (K:PySem.W.Frag) (to:TE) (t:TA):TE:=fun σ H Q=>to σ H fun x H1=>vR x fun l=>(∃xs,SqL K H1 l xs)∧t σ H1 fun vs H2=>l1 vs fun y=>∃xs,H2 l = some (.lst xs)∧xs.length < sizeLine∧Q .non (upd H2 l (.lst (xs ++ [y])))
theorem md_append (ho:PE X o to) (ha:PA X [e] t) (hbase:attributeBase o "append" X.env (eval o X.env) = eval o X.env:=by rfl)
    (hfew:((backTo cpos (starEach [e] X.env)).all (fun x=>!x.1) && (backToKw cpos (keywordEach [] X.env)).all (fun x=>x.1.isSome)
      && decide (([e]:List Expr).length + ([]:List Keyword).length + (if ([]:List Keyword).isEmpty then 0 else 1) < 30)) = true:=by rfl)
    (hline:(apos.endLine == cpos.line) = true:=by rfl) (hs:starEach [e] X.env = (false,eval e X.env) :: starEach [] X.env:=by rfl) (hplain:(backTo cpos (starEach [] X.env)).any (·.1) = false:=by rfl) :
    PE X (.Call (.Attribute o "append" apos) [e] [] cpos) (dAppend X.K to t):=
  (pe_bm PySem.F.plainAttrs_list PySem.F.slot_list_append PySem.F.type_list_append mt_append (pe_cut ho) (pa_cut ha) hbase hfew hline hs hplain).imp fun σ H Q h=>⟨_,h,fun x H1 q=>by
    obtain⟨l,rfl,q1,q2⟩:=vR.ex q
    refine⟨.inl ⟨rfl,q1⟩,_,q2,fun vs H2 q3=>?_⟩
    obtain⟨y,rfl,xs,h1,h2,h3⟩:=l1.ex q3
    exact⟨l,xs,y,rfl,rfl,h1,h2,h3⟩⟩
def dPop (K:PySem.W.Frag) (to:TE):TE:=fun σ H Q=>to σ H fun x H1=>vR x fun l=>∃xs y,H1 l = some (.lst xs)∧xs[xs.length - 1]? = some y∧Q y (upd H1 l (.lst xs.dropLast))
def dPart (t:TE):TO:=fun σ H Q=>t σ H fun x H1=>vI x fun i=>Q (some i) H1
theorem PO.imp {e:Option Expr} {t t':TO} (h:PO X e t) (i:∀σ H Q,t' σ H Q→t σ H Q):PO X e t':=fun pins s σ H Q I q=>h pins s σ H Q I (i σ H Q q)
theorem md_part (h:PE X e to):PO X (some e) (dPart to):=(po_some (pe_cut h)).imp fun σ H Q q=>⟨_,q,fun x H1 z=>vI.ex z⟩
def mSlL (K:PySem.W.Frag):V→Option Int→Option Int→Hp→VK→Prop:=fun x lo hi H Q=>vR x fun a=>∃xs,SqL K H a xs∧∀p,H p = none→Q (.ref p) (upd H p (.lst (cutV xs lo hi)))
variable {tg:Expr}
theorem PI.imp {iter:Expr} {w w':TI} (h:PI X tg iter w) (i:∀σ H R,w' σ H R→w σ H R):PI X tg iter w':=fun pins s σ H R I q=>h pins s σ H R I (i σ H R q)
def dList (K:PySem.W.Frag) (tl:TE):TI:=fun σ H R=>tl σ H fun x H1=>vR x fun a=>(∃xs,SqL K H1 a xs)∧R (Itl K a) H1
def dTupI (K:PySem.W.Frag) (tl:TE):TI:=fun σ H R=>tl σ H fun x H1=>vR x fun a=>(∃xs,SqT K H1 a xs)∧R (Itt K a) H1
theorem mi_list {l:Expr} {tl:TE} (hl:PE X l tl):PI X tg l (dList X.K tl):=(pi_list (pe_cut hl)).imp fun σ H R h=>⟨_,h,fun x H1 q=>vR.ex q⟩
def dRng1 (ta:TA):TI:=fun σ H R=>ta σ H fun vs H1=>l1 vs fun x=>vI x fun j=>(-(2 ^ 62)≤j∧j < 2 ^ 62)∧R (Itr 0 j.toNat) H1
def dRng2 (ta:TA):TI:=fun σ H R=>ta σ H fun vs H1=>l2 vs fun x y=>vI x fun i=>vI y fun j=>(-(2 ^ 62)≤i∧i < 2 ^ 62∧ -(2 ^ 62)≤j∧j < 2 ^ 62)∧R (Itr i (j - i).toNat) H1
theorem mi_range1 {a:Expr} {ta:TA} {p pos:Pos} (hg:Gl X "range") (hm:X.mg "range" = none) (ha:PA X [a] ta) (hs:starEach [a] X.env = [(false,eval a X.env)]:=by rfl):PI X tg (.Call (.Name "range" p) [a] [] pos) (dRng1 ta):=
  (pi_range1 hg hm (pa_cut ha) hs).imp fun σ H R h=>⟨_,h,fun vs H1 q=>by
    obtain⟨x,rfl,q⟩:=l1.ex q
    obtain⟨j,rfl,q⟩:=vI.ex q
    exact⟨j,rfl,q.1.1,q.1.2,q.2⟩⟩
def mSetL:V→V→V→Hp→(Hp→Prop)→Prop:=fun o i v H Q=>vR o fun p=>vI i fun k=>∃xs j,H p = some (.lst xs)∧ixN xs.length k = some j∧Q (upd H p (.lst (xs.set j v)))
theorem z_setL:PSet X mSetL:=fun pins s σ H o i v vo vi vv Q I ro ri rv h=>set_list pins s σ H o i v vo vi vv Q I ro ri rv (by
  obtain⟨p,rfl,h⟩:=vR.ex h
  obtain⟨k,rfl,xs,j,h1,h2,h3⟩:=vI.ex h
  exact⟨_,xs,_,j,rfl,rfl,h1,h2,h3⟩)
end
end
end L2
namespace L2
open PySem PySem.Spec PyProof.Rows
section
variable {M:Model} {A:Around} {E:Value→Shared→Prop} {s:Shared} {B:Heap} {env:Env} {outer l:List Env} {L e:Addr} {k a0 fl:Value} {od:Option Addr}
end
end L2
namespace L2
open PySem PySem.Spec PyProof.Rows
def subN (N:List Str) (ix:List Nat):List Str:=ix.map fun i=>N.getD i ""
def subS (σ:St) (ix:List Nat):St:=ix.map fun i=>σ.getD i none
def compXe (X:Cx) (scope:Scope) (cl:List (Str×Addr)) (C:Addr):Value→Shared→Prop:=notedBy (model X.prog X.w) X.A (compEnvC scope cl C X.env) fun e s'=>
  ∃m,s'.heap.Ns C m∧∀h',Heap.SameBut C s'.heap h'→∀cenv:Env,cenv.locals = C→wpAny (model X.prog X.w) X.A (PySem.passOn "comprehension.variables-let-go" e cenv:Sem Value) (fun _ _=>False) X.xe { s' with heap:=h' }
def cxComp (X:Cx) (scope:Scope) (cl:List (Str×Addr)) (x:Str) (ix:List Nat) (C:Addr) (fp:List Addr) (s₀:Shared) (H₀:Hp):Cx:=
  { X with N:=x :: subN X.N ix,s₀:=s₀,H₀:=H₀,env:=compEnvC scope cl C X.env,outer:=X.stack,ex:=fp,fn:=fun _=>false,pn:=[],xe:=compXe X scope cl C }
structure CompScope (X:Cx) (scope:Scope) (cl:List (Str×Addr)) (x:Str) (ix:List Nat):Prop where
  clos:closureFor scope X.env = pure cl
  kind:scope.kind = .function
  loc:scope.names.lookup x = some .local
  one:∀y∈scope.names,y.2 = .local→y.1 = x∨y.1 = ".0"
  locs:∀y∈scope.names,y.2 = .local→scope.names.lookup y.1 = some .local
  nocell:∀y∈scope.names,y.2≠ .cell
  free:∀y∈scope.names,y.2 = .free→(X.env.kindOf y.1 = some .cell∨X.env.kindOf y.1 = some .free)
  cells:∀y∈scope.names,y.2 = .free→∃c,cl.lookup y.1 = some c
  same:∀y∈cl,X.env.cells.lookup y.1 = some y.2
  nd:((".0":Str) :: x :: subN X.N ix).Nodup
theorem lookup_mem {α β:Type} [BEq α] [LawfulBEq α] {a:α} {b:β}:∀{l:List (α×β)},l.lookup a = some b→(a,b)∈l
  | [],h=>by simp at h
  | (c,d) :: r,h=>by
    rw [List.lookup_cons] at h
    cases e:a == c with
    | true=>
      rw [e] at h
      cases h
      rw [eq_of_beq e];exact List.mem_cons_self
    | false=>
      rw [e] at h
      exact List.mem_cons_of_mem _ (lookup_mem h)
theorem kind_relabel {scope:Scope} {env:Env} {y:Str} {k:NameKind} (h:(relabel scope env).names.lookup y = some k):∃k0,scope.names.lookup y = some k0∧(k = k0∨(k0 = .free∧k = .cell)):=by
  have gen :∀(names:List (Str×NameKind)),(names.map fun (n,k)=>if (k == NameKind.free && env.scope.kind == .function && env.kindOf n == some .cell) then (n,NameKind.cell) else (n,k)).lookup y = some k→
      ∃k0,names.lookup y = some k0∧(k = k0∨(k0 = .free∧k = .cell)):=by
    intro names
    induction names with
    | nil=>intro h;simp at h
    | cons p r ih=>
      obtain⟨n,k1⟩:=p
      intro h
      rw [List.map_cons] at h
      dsimp only at h
      cases hc:(k1 == NameKind.free && env.scope.kind == .function && env.kindOf n == some .cell) with
      | true=>
        rw [hc,if_pos rfl,List.lookup_cons] at h
        rw [List.lookup_cons]
        cases e:y == n with
        | true=>
          rw [e] at h
          cases h
          simp only [Bool.and_eq_true] at hc
          exact⟨k1,rfl,.inr ⟨eq_of_beq hc.1.1,rfl⟩⟩
        | false=>
          rw [e] at h
          exact ih h
      | false=>
        rw [hc,if_neg Bool.false_ne_true,List.lookup_cons] at h
        rw [List.lookup_cons]
        cases e:y == n with
        | true=>
          rw [e] at h
          cases h
          exact⟨k,rfl,.inl rfl⟩
        | false=>
          rw [e] at h
          exact ih h
  exact gen scope.names h
section
variable {X:Cx} {scope:Scope} {cl:List (Str×Addr)} {x:Str} {ix:List Nat} {C:Addr} {fp:List Addr}
theorem CompScope.look (S:CompScope X scope cl x ix) {y:Str} {c:Addr} (h:cl.lookup y = some c):X.env.cells.lookup y = some c:=S.same _ (lookup_mem h)
theorem CompScope.ok (S:CompScope X scope cl x ix) {pins:List (Addr×Obj)} {σ:St} {H:Hp} {s:Shared} (I:Inv X pins σ H s) (hf:∀b∈fp,FpOk X pins H b) (hfl:∀b∈fp,b < s.heap.objs.size) (hC:s.heap.objs.size≤C) :
    (cxComp X scope cl x ix C fp s H).Ok where
  mod:=I.ok.mod
  kind:=S.kind
  glob:=I.ok.glob
  blt:=I.ok.blt
  above:=hC
  inj:=fun y z c h1 h2=>I.ok.inj y z c (S.look h1) (S.look h2)
  has := fun y h=>by
    have h':(relabel scope X.env).names.lookup y = some .cell∨(relabel scope X.env).names.lookup y = some .free:=h
    have fr:scope.names.lookup y = some .free:=by
      rcases h' with h' | h'
      · obtain⟨k0,e,q | q⟩:=kind_relabel h'
        · exact absurd rfl (q▸S.nocell _ (lookup_mem e))
        · rw [e,q.1]
      · obtain⟨k0,e,q | q⟩:=kind_relabel h'
        · rw [e,←q]
        · cases q.2
    exact S.cells _ (lookup_mem fr) rfl
  cab:=fun y c h=>absurd h Bool.false_ne_true
  hd:=I.ok.hd
  frames:=I.ok.frames
  stk:= .inl rfl
  exf:=fun b hb=>⟨Nat.ne_of_lt (Nat.lt_of_lt_of_le (hfl b hb) hC),fun y c e=>(hf b hb).2.2.2.2.1 y c (S.look e)⟩
  bs:=I.bs
  bsz:=Nat.le_trans I.ok.bsz I.sz
  noex:=fun b o e hb=>by
    rcases (hf b hb).2.2.2.1 with z | z
    · exact I.ok.noex b o e z
    · exact absurd (Nat.lt_of_lt_of_le (Heap.lt_size e) (Nat.le_trans I.ok.bsz z)) (Nat.lt_irrefl _)
  exfs:=fun b hb z=>by
    rcases List.mem_cons.mp (I.stkSub b z) with e | e
    · exact(hf b hb).2.1 e
    · exact(hf b hb).2.2.1 e
  funs:=I.stack
  frf:=I.stkFree
theorem subN_get {N:List Str} {ix:List Nat} {j:Nat} {y:Str} (h:(subN N ix)[j]? = some y):∃i,ix[j]? = some i∧y = N.getD i "":=by
  unfold subN at h
  rw [List.getElem?_map] at h
  cases e:ix[j]? with
  | none=>rw [e] at h;cases h
  | some i=>rw [e] at h;cases h;exact⟨i,rfl,rfl⟩
theorem subS_get {σ:St} {ix:List Nat} {j:Nat} {v:V} (h:(subS σ ix)[j]? = some (some v)):∃i,ix[j]? = some i∧σ[i]? = some (some v):=by
  unfold subS at h
  rw [List.getElem?_map] at h
  cases e:ix[j]? with
  | none=>rw [e] at h;cases h
  | some i=>
    rw [e] at h
    have h':σ.getD i none = some v:=by simpa using h
    refine⟨i,rfl,?_⟩
    rw [List.getD_eq_getElem?_getD] at h'
    cases e2:σ[i]? with
    | none=>rw [e2] at h';cases h'
    | some u=>rw [e2] at h';exact congrArg some h'
theorem CompScope.inv (S:CompScope X scope cl x ix) {pins:List (Addr×Obj)} {σ:St} {H:Hp} {s s1:Shared} {m:Str→Option Value} (I:Inv X pins σ H s) (hf:∀b∈fp,FpOk X pins H b) (hfl:∀b∈fp,b < s.heap.objs.size)
    (hC:s.heap.objs.size≤C) (os:s1.os = s.os) (bare:AllBare s1.gens) (k:∀b o,s.heap.get? b = some o→s1.heap.get? b = some o) (hn:s1.heap.Ns C m) :
    Inv (cxComp X scope cl x ix C fp s H) [] (none :: subS σ ix) H s1 where
  ok:=S.ok I hf hfl hC
  os:=os
  bare:=bare
  base:=Un.kept k
  loc := ⟨m, hn,fun i y v h1 h2 h3=>by
    cases i with
    | zero=>cases (show none = some v from Option.some.inj h2)
    | succ j =>
      obtain⟨i,e1,e2⟩:=subN_get (N:=X.N) (show (subN X.N ix)[j]? = some y from h1)
      obtain⟨i',e1',e3⟩:=subS_get (σ:=σ) (show (subS σ ix)[j]? = some (some v) from h2)
      rw [e1] at e1';cases e1'
      have hi:i < X.N.length:=by rw [←I.len];exact(List.getElem?_eq_some_iff.mp e3).1
      have hy:X.N[i]? = some y:=by rw [e2,List.getD_eq_getElem?_getD,List.getElem?_eq_getElem hi];rfl
      have ne:y≠x:=by
        rintro rfl
        have nd:=(List.nodup_cons.mp S.nd).2
        exact(List.nodup_cons.mp nd).1 (List.mem_of_getElem? (show (subN X.N ix)[j]? = some y from h1))
      have h3':(relabel scope X.env).names.lookup y = some .local∨(relabel scope X.env).names.lookup y = some .cell∨(relabel scope X.env).names.lookup y = some .free:=h3
      have fr :scope.names.lookup y = some .free∧((relabel scope X.env).names.lookup y = some .cell∨(relabel scope X.env).names.lookup y = some .free):=by
        rcases h3' with z | z | z
        · obtain⟨k0,e,q | q⟩:=kind_relabel z
          · rcases S.one _ (lookup_mem e) q.symm with z | z
            · exact absurd z ne
            · have z':y = ".0":=z
              exact absurd (List.mem_cons_of_mem _ (List.mem_of_getElem? (show (subN X.N ix)[j]? = some y from h1))) (z'▸(List.nodup_cons.mp S.nd).1)
          · cases q.2
        · obtain⟨k0,e,q | q⟩:=kind_relabel z
          · exact absurd rfl (q▸S.nocell _ (lookup_mem e))
          · exact⟨by rw [e,q.1],.inl z⟩
        · obtain⟨k0,e,q | q⟩:=kind_relabel z
          · exact⟨by rw [e,←q],.inr z⟩
          · cases q.2
      have vis:=S.free _ (lookup_mem fr.1) rfl
      obtain⟨m0,_,l0⟩:=I.loc
      obtain⟨u,r,l⟩:=l0 i y v hy e3 (vis.elim (fun z=> .inr (.inl z)) fun z=> .inr (.inr z))
      refine⟨u,r,.inr ⟨fr.2,?_⟩⟩
      rcases l with ⟨k1,_⟩ | ⟨_,c,ec,oc,hoc,hd⟩
      · rcases vis with z | z
        · have:=k1.symm.trans z;cases this
        · have:=k1.symm.trans z;cases this
      · obtain⟨c',e'⟩:=S.cells _ (lookup_mem fr.1) rfl
        have:some c' = some c:=(S.look e').symm.trans ec
        cases this
        exact⟨c,e',oc,k _ _ hoc,hd⟩⟩
  cell:=fun y c e=>by
    obtain⟨v,oc,hoc,hd⟩:=I.cell y c (S.look e)
    exact⟨v,oc,k _ _ hoc,hd⟩
  free:=I.hok.fresh hC
  freeC:=fun y c e=>I.freeC y c (S.look e)
  pin:=fun p hp=>absurd (show p∈([]:List (Addr×Obj)) from hp) (by simp)
  hok:=I.hok.kept k
  len:=by show (none :: subS σ ix).length = (x :: subN X.N ix).length;simp [subS,subN]
end
def PTs (X:Cx) (ifs:List Expr) (t:TT):Prop:=
  ∀ (pins:List (Addr×Obj)) (s:Shared) (σ:St) (H:Hp) (Q:Bool→Hp→Prop),Inv X pins σ H s→t σ H Q→
    wpAny (model X.prog X.w) X.A (forIn ifs true fun c r=>if r = true then do let ok←isTrue c X.env (eval c X.env);pure (ForInStep.yield ok) else pure (ForInStep.yield r)) (TP X pins σ Q) X.xe s
def tYes:TT:=fun _ H Q=>Q true H
theorem pts_nil {X:Cx}:PTs X [] tYes:=fun _ _ _ H _ I h=>wpAny_tests_nil ⟨H,I,h⟩
theorem pts_one {X:Cx} {c:Expr} {t:TT} (h:PT X c t):PTs X [c] t:=fun pins s σ H Q I hw=>wpAny_tests_one (h pins s σ H Q I hw)
section
variable {prog:Program} {w:World} {A:Around} {R:Result→Shared→Prop} {s:Shared}
theorem compLoop_any {elt target iter:Expr} {ifs:List Expr} {scope:Scope} {pos:Pos} {it acc:Value} {env:Env} (I:Nat→Shared→Prop)
    (turn : ∀ n s,I n s→wpAny (model prog w) A (pyNext it) (fun r s₁=>match r with
      | none=>R (.ok .next) s₁
      | some v =>wpAny (model prog w) A (letOwnedTupleGo target it v) (fun _ s₀=>wpAny (model prog w) A (assign target env v) (fun _ s₂=>
          wpAny (model prog w) A (forIn ifs true fun c r=>if r = true then do let ok←isTrue c env (eval c env);pure (ForInStep.yield ok) else pure (ForInStep.yield r)) (fun ok s₃=>
            if ok = true then wpAny (model prog w) A (eval elt env) (fun x s₄=>
              wpAny (model prog w) A (call (.builtin "list.append") [acc,x]) (fun _ s₅=>∃m,m < n∧I m s₅) (notedBy (model prog w) A env fun e s'=>R (.error e) s') s₄) (notedBy (model prog w) A env fun e s'=>R (.error e) s') s₃
            else ∃m,m < n∧I m s₃) (notedBy (model prog w) A env fun e s'=>R (.error e) s') s₂) (notedBy (model prog w) A env fun e s'=>R (.error e) s') s₀) (notedBy (model prog w) A env fun e s'=>R (.error e) s') s₁) (notedBy (model prog w) A env fun e s'=>R (.error e) s') s)
    (n:Nat) (h:I n s) :
    codeAny (model prog w) A (.compLoop (.ListComp elt [⟨target,iter,ifs,0⟩] scope pos) 0 it acc env) R s:=by
  refine codeAny_loop rfl I (fun n s hI=>?_) n h
  show wpAny _ A ((compTurn (.ListComp elt [⟨target,iter,ifs,0⟩] scope pos) 0 it acc env).onRaise (fun x=>do noteFrame x env;theTreesLotGoes x)) _ _ s
  refine wpAny_noted ?_
  rw [compTurn_list]
  refine wpAny_bind (wpAny_standAt (wpAny_bind (wpAny_mono (turn n s hI) (fun r s₁ h₁=>?_) fun _ _ h'=>h')))
  cases r with
  | none=>exact wpAny_pure h₁
  | some v=>
    refine wpAny_bind (wpAny_mono h₁ (fun _ s₀ h₀=>?_) fun _ _ h'=>h')
    refine wpAny_bind (wpAny_mono h₀ (fun _ s₂ h₂=>wpAny_bind (wpAny_mono h₂ (fun ok s₃ h₃=>?_) fun _ _ h'=>h')) fun _ _ h'=>h')
    cases ok with
    | false=>exact wpAny_pure ⟨rfl,h₃⟩
    | true=>
      exact wpAny_bind (wpAny_bind (wpAny_mono h₃ (fun x s₄ h₄=>wpAny_bind (wpAny_mono h₄ (fun _ s₅ h₅=>wpAny_pure (wpAny_pure ⟨rfl,h₅⟩)) fun _ _ h'=>h')) fun _ _ h'=>h'))
end
def cWord (J:It) (tt:TT) (te:TE) (σc:V→St) (H1:Hp) (Q:VK):Prop:=∃W:Nat→Nat→List V→Hp→Prop,(∃m,W 0 m [] H1)∧∀i m ys H,W i m ys H→ys.length < sizeLine∧
  ((J.stop i H∧∀p,H p = none→Q (.ref p) (upd H p (.lst ys)))∨
   (J.go i H∧∃N:List V→Hp→Prop,(∀ys' H',N ys' H'→∃m',m' < m∧W (i + 1) m' ys' H')∧∀x H',J.yld i H x H'→tt (σc x) H' fun b H3=>if b = true then te (σc x) H3 fun y H4=>N (ys ++ [y]) H4 else N ys H3))
structure CompAt (X:Cx) (C:Addr) (fp:List Addr) (s:Shared) (H:Hp):Prop where
  inv:∃pins σ,Inv X pins σ H s∧∀b∈fp,FpOk X pins H b
  low:∀b∈fp,b < s.heap.objs.size
  up:s.heap.objs.size≤C
def tComp (ix:List Nat) (wi:TI) (tt:TT) (te:TE):TE:=fun σ H Q=>wi σ H fun J H1=>cWord J tt te (fun x=>some x :: subS σ ix) H1 Q
section
variable {X:Cx} {scope:Scope} {cl:List (Str×Addr)} {x:Str} {ix:List Nat} {elt iter:Expr} {ifs:List Expr} {pos px:Pos} {wi:TI} {tt:TT} {te:TE}
theorem comp_block (S:CompScope X scope cl x ix) (hc:X.calm = true)
    (ht:∀C fp s H,CompAt X C fp s H→PTs (cxComp X scope cl x ix C fp s H) ifs tt) (he:∀C fp s H,CompAt X C fp s H→PE (cxComp X scope cl x ix C fp s H) elt te)
    {pins:List (Addr×Obj)} {σ:St} {Q:VK} {itv:Value} {s2:Shared} {E:Value→Shared→Prop} {RR:Value→Addr→Result→Shared→Prop} (h2:PIE X pins σ (.Name x px) (fun J H1=>cWord J tt te (fun x=>some x :: subS σ ix) H1 Q) itv s2)
    (fin:∀(D C:Addr) (H:Hp) (s':Shared) (m:Str→Option Value),Inv X pins σ H s'→s'.heap.Ns C m→H C = none→s2.heap.objs.size≤C→(∀p∈X.pn ++ pins,p.1≠C)→X.env.locals≠C→(∀y c,X.env.cells.lookup y = some c→c≠C)→X.s₀.heap.objs.size≤C→Q (.ref D) H→RR (.ref D) C (.ok .next) s')
    (fex:∀(D C:Addr) (e:Value) (s':Shared),compXe X scope cl C e s'→notedBy (model X.prog X.w) X.A (compEnvC scope cl C X.env) (fun e s'=>RR (.ref D) C (.error e) s') e s') :
    wpAny (model X.prog X.w) X.A (newList []) (fun acc s₃=>wpAny (model X.prog X.w) X.A (newFunctionEnv scope X.env.globals cl [] X.env.qual none .none (some X.env)) (fun cenv s₄=>
      codeAny (model X.prog X.w) X.A (.compStart (.ListComp elt [⟨.Name x px,iter,ifs,0⟩] scope pos) 0 itv acc { cenv with scope:=relabel scope X.env }) (RR acc cenv.locals) s₄) E s₃) E s2:=by
  obtain⟨it,fp,tn,J,H2,rfl,I2,T,st2,f2,W,⟨m0,w0⟩,turn⟩:=h2
  have hfl:∀b∈fp,b < s2.heap.objs.size:=fun b hb=>by
    obtain⟨o,e,_⟩:=T.obj _ _ st2 b hb
    exact Heap.lt_size e
  refine wpAny_newObj_type (wpAny_newFunctionEnv S.nocell (by intro y hy;simp at hy) (fun h₁ hns₁ hsb₁=>?_) S.kind)
  dsimp only at hns₁ hsb₁ ⊢
  generalize hH2:s2.heap.push { cls:= .type "list",dict:=none,data:= .seq ([]:List Value).toArray } = G2 at hns₁ hsb₁ ⊢
  have hC:G2.objs.size = s2.heap.objs.size + 1:=by rw [←hH2,Heap.size_push]
  have hDC:s2.heap.objs.size≠G2.objs.size:=by rw [hC];exact Nat.ne_of_lt (Nat.lt_succ_self _)
  have hCle:s2.heap.objs.size≤G2.objs.size:=by rw [hC];exact Nat.le_succ _
  have below:∀b,b < s2.heap.objs.size→b≠G2.objs.size∧b≠s2.heap.objs.size:=fun b hb=>⟨by rw [hC];exact Nat.ne_of_lt (Nat.lt_succ_of_lt hb),Nat.ne_of_lt hb⟩
  have at0:CompAt X G2.objs.size fp s2 H2:=⟨⟨pins,σ,I2,f2⟩,hfl,hCle⟩
  have old:∀b o,s2.heap.get? b = some o→h₁.get? b = some o:=fun b o e=>hsb₁.extBut b o (below b (Heap.lt_size e)).1 (Heap.get?_push_of_some _ (hH2▸Heap.get?_push_of_some _ e))
  have hacc:h₁.get? s2.heap.objs.size = some { cls:= .type "list",data:= .seq ([]:List Value).toArray 0 }:=hsb₁.extBut _ _ hDC (Heap.get?_push_of_some _ (hH2▸Heap.get?_push_size _ rfl))
  have st1:tn 0 h₁:=T.keep _ _ _ st2 fun b _ o e=>old b o e
  have stat:∀{H':Hp},(∀b∈fp,H' b = none)→∀b∈fp,FpOk (cxComp X scope cl x ix G2.objs.size fp s2 H2) [] H' b:=fun hn b hb=>
    ⟨hn b hb,(below b (hfl b hb)).1,fun z=>by
      rcases List.mem_cons.mp (I2.stkSub b z) with e | e
      · exact(f2 b hb).2.1 e
      · exact(f2 b hb).2.2.1 e,.inl hb,fun y c e=>(f2 b hb).2.2.2.2.1 y c (S.look e),fun p hp=>absurd (show p∈([]:List (Addr×Obj)) from hp) (by simp)⟩
  have I3:∀s₃:Shared,s₃ = { s2 with heap:=h₁,toks:=s2.toks + ([]:List (Str×Value)).length }→Inv (cxComp X scope cl x ix G2.objs.size fp s2 H2) [] (none :: subS σ ix) H2 s₃:=fun s₃ e=>by
    subst e
    exact S.inv I2 f2 hfl hCle rfl I2.bare old hns₁
  let Acc:List V→Heap→Prop:=fun ys h=>∃its n,Vals ys its∧h.get? s2.heap.objs.size = some { cls:= .type "list",data:= .seq its.toArray n }
  have loop :∀s₃:Shared,s₃ = { s2 with heap:=h₁,toks:=s2.toks + ([]:List (Str×Value)).length }→
      codeAny (model X.prog X.w) X.A (.compLoop (.ListComp elt [⟨.Name x px,iter,ifs,0⟩] scope pos) 0 (.ref it) (.ref s2.heap.objs.size) (compEnvC scope cl G2.objs.size X.env)) (RR (.ref s2.heap.objs.size) G2.objs.size) s₃:=by
    intro s₃ e₃
    refine compLoop_any (fun n s'=>∃i ys H',Inv (cxComp X scope cl x ix G2.objs.size fp s2 H2) [] (none :: subS σ ix) H' s'∧H' s2.heap.objs.size = none∧Acc ys s'.heap∧tn i s'.heap∧(∀b∈fp,H' b = none)∧W i n ys H') ?_ m0
      ⟨0, [],H2,I3 s₃ e₃,I2.hok.fresh (Nat.le_refl _),⟨[],0,.nil,by rw [e₃];exact hacc⟩,by rw [e₃];exact st1,fun b hb=>(f2 b hb).1,w0⟩
    rintro n s4 ⟨i,ys,H4,I4,hD4,⟨its,kk,rv,eD⟩,st4,fr4,w4⟩
    obtain⟨hsz,q4⟩:=turn i n ys H4 w4
    have hlen:=rv.length
    rcases q4 with ⟨stop,qn⟩ | ⟨go,N,hN,step⟩
    · refine wpAny_mono (T.done (cxComp X scope cl x ix G2.objs.size fp s2 H2) rfl rfl rfl hc i [(s2.heap.objs.size,{ cls:= .type "list",data:= .seq its.toArray kk })] s4 (none :: subS σ ix) H4 (fun _ _=>False) ?_ ?_ st4 stop) (fun r s5 ⟨hr,I5⟩=>?_) fun _ _ z=>z.elim
      · refine I4.pins_of fun p hp=>?_
        rw [List.mem_singleton.mp hp]
        exact⟨eD,hD4,hDC,fun z=>by
          have:=Heap.FunFrames.mem I2.stack z
          obtain⟨_,o,ho,_⟩:=this
          exact Nat.lt_irrefl _ (Heap.lt_size ho),fun v z=>by cases z⟩
      · intro b hb
        obtain⟨a1,a2,a3,a4,a5,_⟩:=stat fr4 b hb
        exact⟨a1,a2,a3,a4,a5,fun p hp=>by
          rw [List.mem_singleton.mp hp]
          exact fun z=>(below b (hfl b hb)).2 z.symm⟩
      subst hr
      have eD5:=(I5.pin _ (by simp:(s2.heap.objs.size,({ cls:= .type "list",data:= .seq its.toArray kk }:Obj))∈(cxComp X scope cl x ix G2.objs.size fp s2 H2).pn ++ [(s2.heap.objs.size,{ cls:= .type "list",data:= .seq its.toArray kk })])).1
      have neD:∀b u,H4 b = some u→b≠s2.heap.objs.size:=fun b u e z=>by rw [z,hD4] at e;cases e
      have new:HOk X.prog X.w (upd H4 s2.heap.objs.size (.lst ys)) s5.heap:=by
        intro b u e
        by_cases hb:b = s2.heap.objs.size
        · subst hb
          rw [upd_same] at e
          cases e
          exact⟨Nat.le_of_lt hsz,its,kk,rv,eD5⟩
        · rw [upd_ne hb] at e
          exact(I5.hok b u e).stay (fun c v _ q=>q) (fun c q=>by rw [upd_ne (neD c _ q)];exact q) fun c xs q=>by rw [upd_ne (neD c _ q)];exact q
      have un:Un (frs X.stack) fp H2 (upd H4 s2.heap.objs.size (.lst ys)) s2.heap s5.heap:=by
        have B:=I5.base
        exact⟨B.keep,B.slot,fun b o e n hx=>by rw [upd_ne (below b (Heap.lt_size e)).2];exact B.free b o e n hx,B.there,
          fun b xs e=>by rw [upd_ne (neD b _ (B.tups b xs e))];exact B.tups b xs e,fun b o u e=>by rw [upd_ne (neD b _ (B.frzs b o u e))];exact B.frzs b o u e,
          fun b ps e=>by
            obtain⟨mm,z⟩:=B.tbls b ps e
            exact⟨mm,by rw [upd_ne (neD b _ z)];exact z⟩⟩
      have J5:Inv X pins σ (upd H4 s2.heap.objs.size (.lst ys)) s5:=I2.call' (ch:=fp) I5.os un new I5.bare fun b hb=>⟨(f2 b hb).2.2.2.1,(f2 b hb).2.1,(f2 b hb).2.2.2.2.1,(f2 b hb).2.2.2.2.2⟩
      obtain⟨mC,hnC,_⟩:=I5.loc
      refine fin _ _ _ _ mC J5 hnC (by rw [upd_ne (Ne.symm hDC)];exact I5.free) hCle (fun p hp z=>?_) (Nat.ne_of_lt (Nat.lt_of_lt_of_le I2.lt hCle)) (fun y c e z=>?_) (Nat.le_trans I2.sz hCle) (qn _ hD4)
      · exact absurd (Nat.lt_of_lt_of_le (Heap.lt_size (I2.pin p hp).1) hCle) (by rw [z];exact Nat.lt_irrefl _)
      · obtain⟨v,oc,hoc,_⟩:=I2.cell y c e
        exact absurd (Nat.lt_of_lt_of_le (Heap.lt_size hoc) hCle) (by rw [z];exact Nat.lt_irrefl _)
    · have pinD:∀{pl:List (Addr×Obj)} {σ':St} {H':Hp} {s':Shared} {its':List Value} {k':Nat},Inv (cxComp X scope cl x ix G2.objs.size fp s2 H2) pl σ' H' s'→s'.heap.get? s2.heap.objs.size = some { cls:= .type "list",data:= .seq its'.toArray k' }→H' s2.heap.objs.size = none→
          Inv (cxComp X scope cl x ix G2.objs.size fp s2 H2) [(s2.heap.objs.size,{ cls:= .type "list",data:= .seq its'.toArray k' })] σ' H' s':=fun I' e' n'=>I'.pins_of fun p hp=>by
        rw [List.mem_singleton.mp hp]
        exact⟨e',n',hDC,fun z=>by
          obtain⟨_,o,ho,_⟩:=Heap.FunFrames.mem I2.stack z
          exact Nat.lt_irrefl _ (Heap.lt_size ho),fun v z=>by cases z⟩
      have stat2:∀{H':Hp},(∀b∈fp,H' b = none)→∀b∈fp,FpOk (cxComp X scope cl x ix G2.objs.size fp s2 H2) [(s2.heap.objs.size,{ cls:= .type "list",data:= .seq its.toArray kk })] H' b:=fun hn b hb=>by
        obtain⟨a1,a2,a3,a4,a5,_⟩:=stat hn b hb
        exact⟨a1,a2,a3,a4,a5,fun p hp=>by
          rw [List.mem_singleton.mp hp]
          exact fun z=>(below b (hfl b hb)).2 z.symm⟩
      refine wpAny_mono (T.item (cxComp X scope cl x ix G2.objs.size fp s2 H2) rfl rfl rfl hc i _ s4 _ H4 (fun _ _=>False) (pinD I4 eD hD4) (stat2 fr4) st4 go) (fun r s5 ⟨u,hr,h5⟩=>?_) fun _ _ z=>z.elim
      subst hr
      refine wpAny_mono h5 (fun _ s6 ⟨y,H6,I6,r6,y6,st6,fr6⟩=>?_) fun _ _ z=>z.elim
      have I6':=I6.pinned (stat2 fr6) (T.obj _ _ st6)
      have hxl:(relabel scope X.env).names.lookup x = some .local:=lookup_relabel_local S.loc
      refine wpAny_assign_Name (store_ok (X:=cxComp X scope cl x ix G2.objs.size fp s2 H2) (i:=0) I6' (List.nodup_cons.mp S.nd).2 rfl (.inl hxl) r6 (fun s7 I7=>?_) (.inr hxl))
      have q7:=step y H6 y6
      refine wpAny_mono (ht _ _ _ _ at0 _ s7 (some y :: subS σ ix) H6 _ I7 q7) (fun ok s8 ⟨H8,I8,q8⟩=>?_) fun _ _ z=>fex _ _ _ _ z
      have kept:∀{σ9:St} {H9:Hp} {s9:Shared},Inv (cxComp X scope cl x ix G2.objs.size fp s2 H2) ([(s2.heap.objs.size,{ cls:= .type "list",data:= .seq its.toArray kk })] ++ pinsAt fp s6.heap) σ9 H9 s9→
          s9.heap.get? s2.heap.objs.size = some { cls:= .type "list",data:= .seq its.toArray kk }∧H9 s2.heap.objs.size = none∧tn (i + 1) s9.heap∧∀b∈fp,H9 b = none:=fun {σ9 H9 s9} I9=>by
        have p0:=I9.pin (s2.heap.objs.size,{ cls:= .type "list",data:= .seq its.toArray kk }) (List.mem_append_right _ (List.mem_append_left _ (List.mem_singleton.mpr rfl)))
        refine⟨p0.1,p0.2.1,T.keep _ _ _ st6 fun b hb o e=>(I9.pin (b,o) (List.mem_append_right _ (List.mem_append_right _ (mem_pinsAt hb e)))).1,fun b hb=>?_⟩
        obtain⟨o,e,d⟩:=T.obj _ _ st6 b hb
        exact(I9.pin (b,o) (List.mem_append_right _ (List.mem_append_right _ (mem_pinsAt hb e)))).2.1
      have back:∀{pl:List (Addr×Obj)} {H9:Hp} {s9:Shared},Inv (cxComp X scope cl x ix G2.objs.size fp s2 H2) pl (some y :: subS σ ix) H9 s9→Inv (cxComp X scope cl x ix G2.objs.size fp s2 H2) [] (none :: subS σ ix) H9 s9:=fun {pl H9 s9} I9=>
        (I9.weak (σ':=none :: subS σ ix) rfl fun j v e=>by
          cases j with
          | zero=>cases (show none = some v from Option.some.inj e)
          | succ j=>exact e).pins_of fun p hp=>nomatch hp
      cases ok with
      | true=>
        rw [if_pos rfl] at q8 ⊢
        refine wpAny_mono (he _ _ _ _ at0 _ s8 (some y :: subS σ ix) H8 _ I8 q8) (fun yv s9 ⟨yy,H9,I9,r9,n9⟩=>?_) fun _ _ z=>fex _ _ _ _ z
        obtain⟨m',hm',w9⟩:=hN _ _ n9
        obtain⟨kD,kn,kt,kf⟩:=kept I9
        refine append_at (hsz:=by rw [List.size_toArray];omega) kD fun h10 hs10 hD10=>?_
        have neD:∀b u,H9 b = some u→b≠s2.heap.objs.size:=fun b u e z=>by rw [z,kn] at e;cases e
        have I9':=back I9
        have cellne:∀y c,cl.lookup y = some c→c≠s2.heap.objs.size:=fun y c e z=>by
          obtain⟨v,oc,hoc,_⟩:=I2.cell y c (S.look e)
          exact absurd (Heap.lt_size hoc) (by rw [z];exact Nat.lt_irrefl _)
        have I10:Inv (cxComp X scope cl x ix G2.objs.size fp s2 H2) [] (none :: subS σ ix) H9 { s9 with heap:=h10 }:=I9'.turned (t':=s9.toks) (it:=s2.heap.objs.size) (fun b o hb e=>hs10.extBut b o hb e) kn hDC (.inr (Nat.le_refl _)) cellne fun p hp=>absurd (show p∈([]:List (Addr×Obj)) from hp) (by simp)
        refine⟨m',hm',i + 1,ys ++ [yy],H9,I10,kn,⟨its ++ [yv],kk + 1,rv.append (.cons r9 .nil),?_⟩,T.keep _ _ _ kt fun b hb o e=>hs10.extBut b o (below b (hfl b hb)).2 e,kf,w9⟩
        refine hD10.trans (congrArg some ?_)
        simp
      | false=>
        rw [if_neg Bool.false_ne_true] at q8 ⊢
        obtain⟨m',hm',w9⟩:=hN _ _ q8
        obtain⟨kD,kn,kt,kf⟩:=kept I8
        exact⟨m',hm',i + 1,ys,H8,back I8,kn,⟨its,kk,rv,kD⟩,kt,kf,w9⟩
  exact codeAny_compStart_list (loop _ rfl) (T.self _ 0 _ _ _ st1 (loop _ rfl))
def closFrom (env:Env):List (Str×NameKind)→List (Str×Addr)→List (Str×Addr)
  | [],cs=>cs
  | (n,k) :: r,cs=>closFrom env r (if k == .free then (n,(env.cells.lookup n).getD 0) :: cs else cs)
theorem clos_eq {env:Env}:∀(names:List (Str×NameKind)) (cs:List (Str×Addr)),(∀y∈names,y.2 = .free→∃c,env.cells.lookup y.1 = some c)→
    (forIn names cs fun (p:Str×NameKind) (r:List (Str×Addr))=>match p with | (name,kind)=>if (kind == .free) = true then do let c←cellOf env name;pure (ForInStep.yield ((name,c) :: r)) else pure (ForInStep.yield r):Sem (List (Str×Addr))) = pure (closFrom env names cs)
  | [],cs,_=>rfl
  | (n, k) :: r,cs,h=>by
    rw [List.forIn_cons]
    cases hk:k == NameKind.free with
    | true=>
      obtain⟨c,hc⟩:=h (n,k) List.mem_cons_self (eq_of_beq hk)
      have e1:cellOf env n = pure c:=by unfold cellOf;rw [hc]
      have e2:closFrom env ((n,k) :: r) cs = closFrom env r ((n,c) :: cs):=by
        show closFrom env r (if (k == .free) = true then (n,(env.cells.lookup n).getD 0) :: cs else cs) = _
        rw [hk,if_pos rfl,hc];rfl
      rw [e2,←clos_eq r ((n,c) :: cs) fun y hy=>h y (List.mem_cons_of_mem _ hy)]
      dsimp only
      rw [if_pos hk,e1]
      rfl
    | false=>
      have e2:closFrom env ((n,k) :: r) cs = closFrom env r cs:=by
        show closFrom env r (if (k == .free) = true then (n,(env.cells.lookup n).getD 0) :: cs else cs) = _
        rw [hk,if_neg Bool.false_ne_true]
      rw [e2,←clos_eq r cs fun y hy=>h y (List.mem_cons_of_mem _ hy)]
      dsimp only
      rw [if_neg (by rw [hk];exact Bool.false_ne_true)]
      rfl
theorem closFrom_mem {env:Env} {y:Str×Addr}:∀(names:List (Str×NameKind)) (cs:List (Str×Addr)),y∈closFrom env names cs→y∈cs∨∃k∈names,k.2 = .free∧k.1 = y.1∧y.2 = (env.cells.lookup y.1).getD 0
  | [],cs,h=> .inl h
  | (n, k) :: r,cs,h=>by
    rcases closFrom_mem r _ h with z | ⟨p,hp,e⟩
    · cases hk:k == NameKind.free with
      | true=>
        rw [hk,if_pos rfl] at z
        rcases List.mem_cons.mp z with z | z
        · exact .inr ⟨(n,k),List.mem_cons_self,eq_of_beq hk,by rw [z],by rw [z]⟩
        · exact .inl z
      | false=>
        rw [hk,if_neg Bool.false_ne_true] at z
        exact .inl z
    · exact .inr ⟨p,List.mem_cons_of_mem _ hp,e⟩
theorem lookup_some_of_mem {y:Str} {c:Addr}:∀{l:List (Str×Addr)},(y,c)∈l→∃d,l.lookup y = some d
  | [],h=>by simp at h
  | (n, d) :: r,h=>by
    rw [List.lookup_cons]
    cases e:y == n with
    | true=>exact⟨d,rfl⟩
    | false=>
      rcases List.mem_cons.mp h with z | z
      · have:y = n:=(Prod.mk.inj z).1
        rw [this,beq_self_eq_true] at e;cases e
      · exact lookup_some_of_mem z
theorem mem_closFrom {env:Env} {y:Str}:∀(names:List (Str×NameKind)) (cs:List (Str×Addr)),((y,NameKind.free)∈names∨∃c,(y,c)∈cs)→∃c,(y,c)∈closFrom env names cs
  | [],cs,h=>by
    rcases h with h | h
    · simp at h
    · exact h
  | (n, k) :: r,cs,h=>by
    refine mem_closFrom r _ ?_
    rcases h with h | ⟨c,h⟩
    · rcases List.mem_cons.mp h with z | z
      · obtain⟨e1,e2⟩:=Prod.mk.inj z
        subst e1 e2
        exact .inr ⟨(env.cells.lookup y).getD 0,by rw [if_pos (beq_self_eq_true _)];exact List.mem_cons_self⟩
      · exact .inl z
    · refine .inr ⟨c,?_⟩
      split
      · exact List.mem_cons_of_mem _ h
      · exact h
def compOk (scope:Scope) (env:Env) (x:Str):Bool:=scope.names.all fun y=>(y.2 != .local || ((y.1 == x || y.1 == ".0") && scope.names.lookup y.1 == some .local)) && y.2 != .cell && (y.2 != .free || env.kindOf y.1 == some .cell || env.kindOf y.1 == some .free)
theorem compScope_of (ok:X.Ok) (hk:scope.kind = .function) (hx:scope.names.lookup x = some .local) (hall:compOk scope X.env x = true) (nd:((".0":Str) :: x :: subN X.N ix).Nodup):CompScope X scope (closFrom X.env scope.names []) x ix:=by
  have all:∀y∈scope.names,(y.2 = .local→(y.1 = x∨y.1 = ".0")∧scope.names.lookup y.1 = some .local)∧y.2≠ .cell∧(y.2 = .free→(X.env.kindOf y.1 = some .cell∨X.env.kindOf y.1 = some .free)):=fun y hy=>by
    have z:=List.all_eq_true.mp hall y hy
    simp only [Bool.and_eq_true,Bool.or_eq_true,bne_iff_ne,beq_iff_eq,ne_eq] at z
    refine⟨fun e=>z.1.1.resolve_left fun q=>q e,z.1.2,fun e=>?_⟩
    rcases z.2 with (q | q) | q
    · exact absurd e q
    · exact .inl q
    · exact .inr q
  have cells:∀y∈scope.names,y.2 = .free→∃c,X.env.cells.lookup y.1 = some c:=fun y hy e=>ok.has y.1 ((all y hy).2.2 e)
  refine⟨?_,hk,hx,fun y hy e=>((all y hy).1 e).1,fun y hy e=>((all y hy).1 e).2,fun y hy=>(all y hy).2.1,fun y hy=>(all y hy).2.2,fun y hy e=>?_,fun y hy=>?_,nd⟩
  · have q:=clos_eq scope.names [] cells
    unfold closureFor
    have q2:(forIn scope.names [] fun (p:Str×NameKind) (r:List (Str×Addr))=>match p with | (name,kind)=>if (kind == .free) = true then do let c←cellOf X.env name;pure (ForInStep.yield ((name,c) :: r)) else pure (ForInStep.yield r):Sem (List (Str×Addr))) >>= (fun cs=>pure cs) = pure (closFrom X.env scope.names []):=by
      rw [q];rfl
    exact q2
  · obtain⟨n,k⟩:=y
    have e':k = .free:=e
    subst e'
    obtain⟨c,hc⟩:=mem_closFrom (env:=X.env) scope.names [] (.inl hy)
    exact lookup_some_of_mem hc
  · rcases closFrom_mem scope.names [] hy with z | ⟨p,hp,e1,e2,e3⟩
    · simp at z
    · obtain⟨c,hc⟩:=cells p hp e1
      rw [e2] at hc
      rw [e3,hc];rfl
theorem pe_comp (hc:X.calm = true) (hi:PI X (.Name x px) iter wi) (ht:∀C fp s H,CompAt X C fp s H→PTs (cxComp X scope (closFrom X.env scope.names []) x ix C fp s H) ifs tt) (he:∀C fp s H,CompAt X C fp s H→PE (cxComp X scope (closFrom X.env scope.names []) x ix C fp s H) elt te)
    (hk:scope.kind = .function) (hx:scope.names.lookup x = some .local) (hall:compOk scope X.env x = true) (nd:((".0":Str) :: x :: subN X.N ix).Nodup)
    (hs:∀x,foldedSetIterable iter X.env x = pure x:=by intro _;rfl):PE X (.ListComp elt [⟨.Name x px,iter,ifs,0⟩] scope pos) (tComp ix wi tt te):=by
  intro pins s σ H Q I h
  have S:CompScope X scope (closFrom X.env scope.names []) x ix:=compScope_of I.ok hk hx hall nd
  rw [eval_ListComp]
  refine wpAny_comprehension_free (use:=none) rfl hs S.clos S.kind S.locs (thn (hi pins s σ H _ I h) fun v s1 h1=>thn h1 fun itv s2 h2=>?_)
  refine comp_block S hc ht he h2 (fun D C H' s' m J hn hCn hCle hp hL hcl hs0 q=>?_) fun D C e s' z=>z
  exact⟨m,hn,fun h' sb=>⟨.ref D,H',J.turned (t':=s'.toks) (fun b o hb e=>sb.extBut b o hb e) hCn (Ne.symm hL) (.inr hs0) hcl hp,rfl,q⟩⟩
theorem ps_setComp {j:Nat} {y:Str} {py spos:Pos} (hN:X.N.Nodup) (hj:X.N[j]? = some y) (hy:X.env.scope.names.lookup y = some .local) (hc:X.calm = true) (hi:PI X (.Name x px) iter wi)
    (ht:∀C fp s H,CompAt X C fp s H→PTs (cxComp X scope (closFrom X.env scope.names []) x ix C fp s H) ifs tt) (he:∀C fp s H,CompAt X C fp s H→PE (cxComp X scope (closFrom X.env scope.names []) x ix C fp s H) elt te)
    (hk:scope.kind = .function) (hx:scope.names.lookup x = some .local) (hall:compOk scope X.env x = true) (nd:((".0":Str) :: x :: subN X.N ix).Nodup)
    (hsw:swapsWith (.ListComp elt [⟨.Name x px,iter,ifs,0⟩] scope pos) (some (.Name y py)) spos.line X.env = pure true:=by rfl) (hs:∀x,foldedSetIterable iter X.env x = pure x:=by intro _;rfl) :
    PS X (.Assign [.Name y py] (.ListComp elt [⟨.Name x px,iter,ifs,0⟩] scope pos) spos) (tAsg (tComp ix wi tt te) (gName j)):=by
  intro pins s σ H D I h
  have S:CompScope X scope (closFrom X.env scope.names []) x ix:=compScope_of I.ok hk hx hall nd
  rw [exec_Assign_Name_used _ _ _ _ hsw]
  refine wpAny_bind (wpAny_standAt (wpAny_bind ?_))
  show wpAny _ _ (do let _←comprehension (.ListComp elt [⟨.Name x px,iter,ifs,0⟩] scope pos) scope X.env _ (newList []) false (eval iter X.env) (some (assign (.Name y py) X.env))) _ _ s
  refine wpAny_bind (wpAny_mono (wpAny_comprehension_free (use:=some (assign (.Name y py) X.env)) (Q:=fun _ s'=>SP X pins D .next s') rfl hs S.clos S.kind S.locs
    (thn (hi pins s σ H _ I h) fun v s1 h1=>thn h1 fun itv s2 h2=>?_)) (fun _ s' hq=>wpAny_pure (wpAny_pure hq)) fun _ _ e=>e)
  refine comp_block (Q:=fun v H1=>D.nx (σ.set j (some v)) H1) S hc ht he h2 (fun D' C H' s' m J hn hCn hCle hp hL hcl hs0 q=>?_) fun D' C e s' z=>z
  show wpAny _ _ (assign (.Name y py) X.env (.ref D')) _ _ _
  refine wpAny_assign_Name (store_ok2 J hN hj (.inl hy) (v:= .ref D') rfl (fun s'' J' ⟨a,sb,ha⟩=>?_) (.inr hy))
  have hCa:C≠a:=by
    rcases ha with e | e
    · rw [e];exact Ne.symm hL
    · exact Ne.symm (hcl y a e)
  exact⟨m,hn.sameBut sb hCa,fun h' sb'=>⟨σ.set j (some (.ref D')),H',J'.turned (t':=s''.toks) (fun b o hb e=>sb'.extBut b o hb e) hCn (Ne.symm hL) (.inr hs0) hcl hp,q⟩⟩
end
theorem comp_range {lo:Int} {n:Nat} {tt:TT} {te:TE} {σc:V→St} {H:Hp} {Q:VK} (Pv:Nat→List V→Hp→Prop) (hn:∀i ys H,i≤n→Pv i ys H→ys.length < sizeLine) (h0:Pv 0 [] H)
    (hs:∀i ys H,i < n→Pv i ys H→tt (σc (.int (lo + i))) H fun b H3=>if b = true then te (σc (.int (lo + i))) H3 fun y H4=>Pv (i + 1) (ys ++ [y]) H4 else Pv (i + 1) ys H3)
    (hd:∀ys H,Pv n ys H→∀p,H p = none→Q (.ref p) (upd H p (.lst ys))):cWord (Itr lo n) tt te σc H Q:=by
  refine⟨fun i m ys H=>m = n - i∧i≤n∧Pv i ys H,⟨n,by simp,Nat.zero_le _,h0⟩,?_⟩
  rintro i m ys H ⟨rfl,hi,p⟩
  refine⟨hn i ys H hi p,?_⟩
  by_cases hlt:i < n
  · refine .inr ⟨hlt,Pv (i + 1),fun ys' H' q=>⟨n - (i + 1),by omega,rfl,hlt,q⟩,fun x H' y=>?_⟩
    obtain⟨e,y⟩:=y
    subst e y
    exact hs i ys _ hlt p
  · have e:i = n:=by omega
    subst e
    exact .inl ⟨Nat.le_refl _,hd ys H p⟩
theorem comp_list {K:PySem.W.Frag} {a:Addr} {xs:List V} {tt:TT} {te:TE} {σc:V→St} {H:Hp} {Q:VK} (Pv:Nat→List V→Hp→Prop) (hn:∀i ys H,i≤xs.length→Pv i ys H→ys.length < sizeLine) (h0:Pv 0 [] H)
    (hl:∀i ys H,i≤xs.length→Pv i ys H→SqL K H a xs)
    (hs:∀i x ys H,xs[i]? = some x→Pv i ys H→tt (σc x) H fun b H3=>if b = true then te (σc x) H3 fun y H4=>Pv (i + 1) (ys ++ [y]) H4 else Pv (i + 1) ys H3)
    (hd:∀ys H,Pv xs.length ys H→∀p,H p = none→Q (.ref p) (upd H p (.lst ys))):cWord (Itl K a) tt te σc H Q:=by
  refine⟨fun i m ys H=>m = xs.length - i∧i≤xs.length∧Pv i ys H,⟨xs.length,by simp,Nat.zero_le _,h0⟩,?_⟩
  rintro i m ys H ⟨rfl,hi,p⟩
  have q:=hl i ys H hi p
  refine⟨hn i ys H hi p,?_⟩
  by_cases hlt:i < xs.length
  · refine .inr ⟨⟨xs,xs[i],q,by simp [hlt]⟩,Pv (i + 1),fun ys' H' q=>⟨xs.length - (i + 1),by omega,rfl,hlt,q⟩,fun x H' y=>?_⟩
    obtain⟨e,y⟩:=y
    subst e
    exact hs i x ys _ (y xs q) p
  · have e:i = xs.length:=by omega
    subst e
    exact .inl ⟨⟨xs,q,Nat.le_refl _⟩,hd ys H p⟩
end L2
namespace L2
open PySem PySem.Spec PyProof.Rows PySem.W PySem.Builtin PySem.Builtin.ObjectAttr PySem.Builtin.Getset_descriptor
section
variable {prog:Program} {w:World} {A:Around} {E:Value→Shared→Prop} {K:PySem.W.Frag} {a C:Addr}
structure ExcC (K:PySem.W.Frag) (C:Addr):Prop where
  cd:(PySem.W.clsIn K C).isSome = true
  ga:PySem.W.findIn K (.ref C) "__getattribute__" = some (some (.builtin "BaseException.__getattribute__"))
  hk:PySem.W.findIn K (.ref C) "__getattr__" = some none
  cl:PySem.W.findIn K (.ref C) "__class__" = some (some (.builtin "object.__class__"))
  gt:PySem.W.specialIn K (.builtin "object.__class__") "__get__" = some (some (.builtin "getset_descriptor.__get__"))
  tk:PySem.W.takesIn K (.builtin "object.__class__") = some true
  ob:PySem.W.mroIn K C (.type "object") = some true
  ba:PySem.W.mroIn K C (.type "BaseException") = some true
theorem exc_ty {h:Heap} {o:Obj} (hx:h.get? a = some o) (hc:o.cls = .ref C) (M:Model):PySem.W.Looks M h (typeOf (.ref a)) (.ref C):=hc▸(PySem.W.Looks.ld hx).andThen .now
theorem exc_getter {R:Result→Shared→Prop} {tp:Value} {s:Shared} {o:Obj} (X:K.In s.heap) (hx:s.heap.get? a = some o) (hc:o.cls = .ref C) (hm:PySem.W.mroIn K C (.type "object") = some true)
    (hR:R (.ok (.ret (.ref C))) s):codeAny (model prog w) A (.call (.builtin "getset_descriptor.__get__") ⟨[.builtin "object.__class__",.ref a,tp], []⟩) R s:=by
  obtain⟨hh,gs,dr,tt,oo⟩:=s
  have L0:=exc_ty hx hc (model prog w)
  have L1:=PySem.W.looks_mroIn (M:=model prog w) X hm
  refine codeAny_call_builtin PySem.W.KF.slot_gs.plain PySem.W.KF.entry_gs (PySem.W.KF.slot_gs.check _ _ _ _ _ _ _ _ PySem.W.KF.type_class (PySem.W.KF.args_gs _ _ _) ?_)
  unfold Builtin.«getset_descriptor.__get__» descrGet
  rw [PySem.W.dga_obj]
  apply wpAny_bind
  apply wpAny_pure
  unfold descrGetter descrCheckInstance descrNameAndClass isInstance
  simp only [PySem.W.KF.owner_class]
  repeat lk
  refine⟨Code.quiet_builtin _ (by decide +kernel),codeAny_builtin PySem.W.KF.entry_class ?_⟩
  unfold Builtin.«object.__class__» shownTypeOf
  repeat lk
  exact hR
theorem exc_find {h:Heap} (T:ExcC K C) (X:K.In h) (M:Model):PySem.W.Looks M h (find (.ref a) (.ref C) "__class__") (.bind (.builtin "getset_descriptor.__get__") (.builtin "object.__class__")):=by
  have L1:=PySem.W.looks_findIn (M:=M) X T.cl
  have L2:PySem.W.Looks M h (getOf (some (.builtin "object.__class__"))) (some (.builtin "getset_descriptor.__get__")):=PySem.W.looks_specialIn X T.gt
  have L3:=PySem.W.looks_takesIn (M:=M) X T.tk
  have L4:PySem.W.Looks M h (dataDescriptor? (some (.builtin "object.__class__")) (some (.builtin "getset_descriptor.__get__"))) (some (.builtin "getset_descriptor.__get__",.builtin "object.__class__")):=L3.andThen .now
  exact L1.andThen (L2.andThen (L4.andThen (PySem.W.Looks.tag .now)))
theorem exc_class {s:Shared} {o:Obj} {Q:Option Value→Shared→Prop} (T:ExcC K C) (X:K.In s.heap) (hx:s.heap.get? a = some o) (hc:o.cls = .ref C) (hq:Q (some (.ref C)) { s with toks:=s.toks + 1 }) :
    wpAny (model prog w) A (getAttr? (.ref a) "__class__") Q E s:=by
  obtain⟨hh,gs,dr,tt,oo⟩:=s
  have L0:=exc_ty hx hc (model prog w)
  have L1:=PySem.W.looks_findIn (M:=model prog w) X T.ga
  have L2:=PySem.W.looks_findIn (M:=model prog w) X T.hk
  have L3:=exc_find (a:=a) T X (model prog w)
  have LB:=PySem.W.looks_mroIn (M:=model prog w) X T.ba
  unfold getAttr? getAttrBy? getAttrBy
  refine wpAny_bind (wpAny_mkText (wpAny_bind (wpAny_attempt (wpAny_holding (wpAny_bind (L0.at (wpAny_bind (L1.at ?_))))))))
  have ne:(onTheHeap (Value.ref C) && (Value.builtin "BaseException.__getattribute__" == Value.builtin "object.__getattribute__")) = false:=by
    have:(Value.builtin "BaseException.__getattribute__" == Value.builtin "object.__getattribute__") = false:=by decide +kernel
    rw [this];exact Bool.and_false _
  dsimp only
  rw [ne,if_neg Bool.false_ne_true]
  unfold getAttrByItsOwn hookBefore
  rw [if_pos (show onTheHeap (Value.ref C) = true from rfl)]
  refine wpAny_bind (L2.at ?_)
  refine wpAny_bind (wpAny_attempt (wpAny_holding ?_))
  show wpAny _ _ (boundAndCalled _ _ _) _ _ _
  unfold boundAndCalled
  refine wpAny_bind (wpAny_of_eq (F.attr_ValueError.ga.bind (.ref a)) ?_)
  refine wpAny_call ?_
  refine codeAny_call_builtin F.attr_ValueError.ga.plain F.entry_bexc_ga ?_
  have hk:builtinKind "BaseException.__getattribute__" = some .slot:=by decide +kernel
  have hsplit:splitId "BaseException.__getattribute__" = some ("BaseException","__getattribute__"):=by decide +kernel
  have hargs:=F.args_bexc_ga (.ref a) (.str (Str.ofString "__class__") tt)
  simp only [checkBuiltinCall,hk,hsplit]
  refine wpAny_bind ?_
  unfold isInstance
  repeat lk
  refine wpAny_run (exc_getter (K:=K) (C:=C) X hx hc T.ob ?_)
  repeat lk
  exact hq
theorem kitx_exc (T:ExcC K C):PySem.W.KitX K (.ref a) (.ref C) (fun h=>∃o vs,h.get? a = some o∧o.cls = .ref C∧o.data = .fields vs) where
  ty :=fun M h _ p=>by
    obtain⟨o,_,e,c,_⟩:=p
    exact exc_ty e c M
  it :=fun _ _ X _=>by
    have hcd:=T.cd
    unfold PySem.W.clsIn at hcd
    split at hcd
    · rename_i look
      intro A' Q' E' s' k q
      unfold isType loadHead
      exact wpAny_bind (wpAny_loadPart (k _ _ (X _ _ look)) (wpAny_pure q))
    · cases hcd
  ne :=fun h tp dd its n sl X htp=>by
    have hcd:=T.cd
    refine Bool.eq_false_iff.mpr fun q=>?_
    have e:C = tp:=Value.ref.inj (beq_iff_eq.mp q)
    subst e
    unfold PySem.W.clsIn at hcd
    split at hcd
    · rename_i look
      have z:=(X _ _ look).symm.trans htp
      cases z
    · cases hcd
  ca :=fun X p k=>by
    obtain⟨o,_,e,c,_⟩:=p
    exact exc_class T X e c k
end
section
variable {X:Cx}
theorem call_isiX:CallR X (.builtin "isinstance") (fun xs H Q=>∃a c cv C b,xs = [.ref a,c]∧clsV c = some cv∧(∃od,H a = some (excO (.ref C) a od))∧ExcC X.K C∧PySem.W.kitOne X.K (.ref C) cv = some b∧Q (.bl b) H):=by
  intro pins s σ H xs us Q I rv h
  obtain⟨a,c,cv,C,b,rfl,ec,ha,T,e,q⟩:=h
  obtain⟨u,v,rfl,rx,rc⟩:=rv.two
  cases clsV_is ec rc
  cases (show u = Value.ref a from rx)
  obtain⟨od,ha⟩:=ha
  obtain⟨oe,vs,q1,⟨q2,_⟩,q3⟩:=(show ObjOk X.prog X.w H s.heap a (excO (.ref C) a od) from I.hok a _ ha).1
  have p:∃o vs,s.heap.get? a = some o∧o.cls = .ref C∧o.data = .fields vs:=⟨oe,vs,q1,q2,q3⟩
  exact PySem.W.kia_one (kitx_exc T) I.kIn p e (fun z=>nomatch z) fun tk=>⟨.bl b,H,I.tok _,rfl,q⟩
theorem vals_cls:∀{cs:List V} {us cvs:List Value},Vals cs us→cs.map clsV = cvs.map some→us = cvs
  | _,_, [],.nil,_=>rfl
  | _,_,_ :: _,.nil,e=>by cases e
  | _,_, [],.cons _ _,e=>by cases e
  | _,_,_ :: _,.cons r t,e=>by
    rw [List.map_cons,List.map_cons] at e
    injection e with e1 e2
    rw [clsV_is e1 r,vals_cls t e2]
theorem call_isiXT:CallR X (.builtin "isinstance") (fun xs H Q=>∃a p cs cvs C b,xs = [.ref a,.ref p]∧H p = some (.tup cs)∧cs.map clsV = cvs.map some∧(∃od,H a = some (excO (.ref C) a od))∧ExcC X.K C∧PySem.W.kitAny X.K (.ref C) cvs = some b∧Q (.bl b) H):=by
  intro pins s σ H xs us Q I rv h
  obtain⟨a,p,cs,cvs,C,b,rfl,hp,ec,ha,T,e,q⟩:=h
  obtain⟨u,v,rfl,rx,rc⟩:=rv.two
  cases (show u = Value.ref a from rx)
  cases (show v = Value.ref p from rc)
  obtain⟨od,ha⟩:=ha
  obtain⟨oe,vs,q1,⟨q2,_⟩,q3⟩:=(show ObjOk X.prog X.w H s.heap a (excO (.ref C) a od) from I.hok a _ ha).1
  have pe:∃o vs,s.heap.get? a = some o∧o.cls = .ref C∧o.data = .fields vs:=⟨oe,vs,q1,q2,q3⟩
  obtain⟨_,its,ri,ob,eo,oc,n,od⟩:=(show ObjOk X.prog X.w H s.heap p (.tup cs) from I.hok p _ hp)
  obtain⟨c0,d0,dt,sl⟩:=ob
  cases oc
  cases od
  cases vals_cls ri ec
  exact PySem.W.kia_tup (kitx_exc T) I.kIn pe eo e (fun z=>nomatch z) fun tk=>⟨.bl b,H,I.tok _,rfl,q⟩
theorem call_isiXK {K:PySem.W.Frag} (hK:X.K = K:=by rfl):CallR X (.builtin "isinstance") (fun xs H Q=>∃a c cv C b,xs = [.ref a,c]∧clsV c = some cv∧(∃od,H a = some (excO (.ref C) a od))∧ExcC K C∧PySem.W.kitOne K (.ref C) cv = some b∧Q (.bl b) H):=by
  subst hK
  exact call_isiX
end
end L2
namespace L2
open PySem PySem.Spec PyProof.Rows
mutual
inductive DV (K:PySem.W.Frag) (H:Hp):V→PyData→Prop
  | non:DV K H .non .none
  | bl (b:Bool):DV K H (.bl b) (.bool b)
  | int (i:Int):DV K H (.int i) (.int i)
  | str (x:Str):DV K H (.str x) (.str x)
  | lst {a:Addr} {xs:List V} {ds:List PyData}:SqL K H a xs→DVs K H xs ds→DV K H (.ref a) (.list ds)
  | tup {a:Addr} {xs:List V} {ds:List PyData}:SqT K H a xs→DVs K H xs ds→DV K H (.ref a) (.tuple ds)
inductive DVs (K:PySem.W.Frag) (H:Hp):List V→List PyData→Prop
  | nil:DVs K H [] []
  | cons {x:V} {xs:List V} {d:PyData} {ds:List PyData}:DV K H x d→DVs K H xs ds→DVs K H (x :: xs) (d :: ds)
end
theorem DVs.ints {K:PySem.W.Frag} {H:Hp}:∀ns:List Int,DVs K H (ns.map V.int) (ns.map PyData.int)
  | []=> .nil
  | n :: r=> .cons (.int n) (DVs.ints r)
theorem DV.ints {K:PySem.W.Frag} {H:Hp} {a:Addr} {ns:List Int} (h:SqL K H a (ns.map V.int)):DV K H (.ref a) (.list (ns.map .int)):= .lst h (DVs.ints ns)
section
variable {X:Cx} {pins:List (Addr×Obj)} {σ:St} {H:Hp} {s:Shared}
mutual
theorem Inv.reads (I:Inv X pins σ H s):∀{x:V} {d:PyData} {u:Value},DV X.K H x d→RelV x u→∃as,Reads s.heap u d as
  | _,_,_,.non,r=>by cases r;exact⟨_,Reads.none⟩
  | _,_,_,.bl b,r=>by cases r;exact⟨_,Reads.bool b⟩
  | _,_,_,.int i,r=>by obtain⟨t,rfl⟩:=r;exact⟨_,Reads.int i t⟩
  | _,_,_,.str x,r=>by obtain⟨t,rfl⟩:=r;exact⟨_,Reads.str x t⟩
  | _,_,_,.lst h r,rr=>by
    cases rr
    obtain⟨its,rv,⟨o,n,e,c,_,dt⟩,_⟩:=I.list h
    obtain⟨as,q⟩:=Inv.readsAll I r rv
    exact⟨_,reads_list_at e c dt (by simpa using q)⟩
  | _,_,_,.tup h r,rr=>by
    cases rr
    obtain⟨its,rv,⟨o,e,c,n,dt⟩,_⟩:=I.tuple h
    obtain⟨as,q⟩:=Inv.readsAll I r rv
    exact⟨_,reads_tuple_at e c dt (by simpa using q)⟩
theorem Inv.readsAll (I:Inv X pins σ H s):∀{xs:List V} {ds:List PyData} {us:List Value},DVs X.K H xs ds→Vals xs us→∃as,ReadsAll s.heap us ds as
  | _,_,_,.nil,.nil=>⟨_,ReadsAll.nil⟩
  | _,_,_,.cons h r,.cons q p=>by
    obtain⟨as,q1⟩:=Inv.reads I h q
    obtain⟨bs,q2⟩:=Inv.readsAll I r p
    exact⟨_,ReadsAll.cons q1 q2⟩
end
end
section
variable {X:Cx}
theorem z_neD (hu:X.A.units + 64 < cLine):OpR X (compareOp .NotEq) (fun x y H Q=>∃d e,DV X.K H x d∧DV X.K H y e∧SeqAt.shaped d = true∧SeqAt.shaped e = true∧Q (.bl (!PyData.eqv d e)) H):=by
  intro pins s σ H x y v u Q I rx ry h
  obtain⟨d,e,hd,he,sd,se,q⟩:=h
  obtain⟨as,ra⟩:=I.reads hd rx
  obtain⟨bs,rb⟩:=I.reads he ry
  exact ne_dataH ra rb sd se hu ⟨.bl _,H,I,rfl,q⟩
theorem z_neS (hu:X.A.units + 64 < cLine):OpR X (compareOp .NotEq) (fun x y H Q=>∃d,DV X.K H x d∧DV X.K H y d∧SeqAt.shaped d = true∧Q (.bl false) H):=(z_neD hu).imp fun x y H Q ⟨d,h1,h2,h3,q⟩=>⟨d,d,h1,h2,h3,h3,by rw [SeqAt.eqv_refl d (SeqAt.canLay_of_shaped h3)];exact q⟩
def mEqL (K:PySem.W.Frag):R2:=fun x y H Q=>vR x fun a=>vR y fun b=>∃ns ms:List Int,SqL K H a (ns.map V.int)∧SqL K H b (ms.map V.int)∧Q (.bl (decide (ns = ms))) H
def mNeL (K:PySem.W.Frag):R2:=fun x y H Q=>vR x fun a=>vR y fun b=>∃ns ms:List Int,SqL K H a (ns.map V.int)∧SqL K H b (ms.map V.int)∧Q (.bl (!decide (ns = ms))) H
end
theorem shapedL {ds:List PyData} (h:∀d∈ds,d.canLay0 = true∧d.depth≤60):SeqAt.shaped (.list ds) = true:=by
  have all:∀ds:List PyData,(∀d∈ds,d.canLay0 = true∧d.depth≤60)→PyData.canLayAll0 ds = true∧PyData.depthAll ds≤60:=by
    intro ds
    induction ds with
    | nil=>intro _;simp [PyData.canLayAll0,PyData.depthAll]
    | cons d r ih=>
      intro h
      have h1:=h d List.mem_cons_self
      have h2:=ih fun z hz=>h z (List.mem_cons_of_mem _ hz)
      simp only [PyData.canLayAll0,PyData.depthAll,h1.1,h2.1,Bool.and_self,true_and]
      have:=h1.2;have:=h2.2;omega
  have z:=all ds h
  unfold SeqAt.shaped
  rw [Bool.and_eq_true]
  refine⟨by simp only [PyData.canLay0];exact z.1,decide_eq_true ?_⟩
  simp only [PyData.depth]
  have:=z.2;omega
theorem lay_ints (ns:List Int):(PyData.list (ns.map .int)).canLay0 = true∧(PyData.list (ns.map .int)).depth≤60:=by
  refine⟨by simp only [PyData.canLay0];exact PySem.W.canLayAll0_ints ns,?_⟩
  have:=PySem.W.depthAll_ints ns
  simp only [PyData.depth];omega
end L2
namespace L2
open PySem PySem.Spec PyProof.Rows
section
variable {X:Cx}
def mSum (K:PySem.W.Frag):List V→Hp→VK→Prop:=fun xs H Q=>l1 xs fun x=>vR x fun p=>∃ns:List Int,SqL K H p (ns.map V.int)∧Q (.int ns.sum) H
def mBest (K:PySem.W.Frag) (lt:Int→Int→Prop):List V→Hp→VK→Prop:=fun xs H Q=>l1 xs fun x=>vR x fun p=>∃ns:List Int,SqL K H p (ns.map V.int)∧ns≠ []∧∀m,m∈ns→(∀z∈ns,lt m z)→Q (.int m) H
def mCat:R2:=fun x y H Q=>vR x fun l=>vR y fun b=>∃xs zs,H l = some (.lst xs)∧H b = some (.lst zs)∧xs.length + zs.length≤sizeLine∧∀p,H p = none→Q (.ref p) (upd H p (.lst (xs ++ zs)))
end
end L2
namespace L2
open PySem PySem.Spec PyProof.Rows
def l3 (vs:List V) (k:V→V→V→Prop):Prop:=@List.rec V (fun _=>Prop) False (fun x r _=>l2 r fun y z=>k x y z) vs
def Itrc (lo c:Int) (n:Nat):It:=⟨fun i _=>i < n,fun i H x H'=>H' = H∧x = .int (lo + i * c),fun i _=>n≤i⟩
section
variable {X:Cx} {tg:Expr}
def dRng3 (ta:TA):TI:=fun σ H R=>ta σ H fun vs H1=>l3 vs fun x y z=>vI x fun i=>vI y fun j=>vI z fun c=>c≠0∧Builtin.divisionGoesByPylong (j - i) c = false∧∃n:Nat,Builtin.Range.small i j c = true∧Builtin.Range.rangeSize i j c = (n:Int)∧R (Itrc i c n) H1
end
section
variable {X:Cx}
def kinds (ns:List Int):Nat:=(firstMet (fun i=>ns.getD i 0) ns.length).length
def mSetOf (K:PySem.W.Frag):List V→Hp→VK→Prop:=fun xs H Q=>l1 xs fun x=>vR x fun p=>∃ns:List Int,SqL K H p (ns.map V.int)∧ns.length≤1000∧∀l S,H l = none→Q (.ref l) (upd H l (.set S (kinds ns)))
def mLenSet:List V→Hp→VK→Prop:=fun xs H Q=>l1 xs fun x=>vR x fun p=>∃S n,H p = some (.set S n)∧Q (.int (n:Nat)) H
end
end L2
namespace L2
open PySem PySem.Spec PyProof.Rows
section
variable {X:Cx} {a b c:Expr} {ta tb tc:TE} {pos:Pos}
def dChain (r r':R2) (ta tb tc:TE):TE:=fun σ H Q=>ta σ H fun x H1=>tb σ H1 fun y H2=>r x y H2 fun z H3=>vB z fun k=>if k = true then tc σ H3 fun u H4=>r' y u H4 Q else Q (.bl false) H3
theorem dChain_eq (r r':R2) (ta tb tc:TE):dChain r r' ta tb tc = tChain r r' ta tb tc:=by
  funext σ H Q
  unfold dChain tChain
  simp only [vB_iff]
theorem mt_chain {op op':CmpOp} {r r':R2} (ho:OpR X (compareOp op) r) (ho':OpR X (compareOp op') r') (ha:PE X a ta) (hb:PE X b tb) (hc:PE X c tc)
    (hm:lastMarks [op,op'] [b,c] = false:=by with_unfolding_all rfl):PT X (.Compare a [op,op'] [b,c] pos) (dTest (dChain r r' ta tb tc)):=by
  rw [dChain_eq,dTest_eq];exact pt_chain ho ho' ha hb hc hm
def mInI (K:PySem.W.Frag) (f:Bool→Bool):R2:=fun x y H Q=>vI x fun z=>vR y fun p=>∃ns:List Int,SqA K H p (ns.map V.int)∧Q (.bl (f (decide (z∈ns)))) H
end
end L2
namespace L2
open PySem PySem.Spec PyProof.Rows
section
variable {X:Cx} {K:PySem.W.Frag}
theorem z_ixLK (hK:X.K = K:=by rfl):IxR X (mIxL K):=by subst hK;exact z_ixL
end
end L2
namespace L2
open PySem PySem.Spec PyProof.Rows
theorem bt_all:bootBuiltins "all" = some (.builtin "all"):=by decide +kernel
section
variable {X:Cx}
def mRep:R2:=fun x y H Q=>vR x fun l=>vI y fun k=>∃xs,H l = some (.lst xs)∧(-(2 ^ 63)≤k∧k < 2 ^ 63)∧xs.length * k.toNat≤sizeLine∧∀p,H p = none→Q (.ref p) (upd H p (.lst (List.replicate k.toNat xs).flatten))
def mInt:List V→Hp→VK→Prop:=fun xs H Q=>l1 xs fun x=>@V.rec (fun _=>Prop) False (fun b=>Q (.int (if b then 1 else 0)) H) (fun i=>Q (.int i) H) (fun _=>False) (fun _=>False) (fun _=>False) (fun _=>False) (fun _=>False) x
theorem z_int:CallR X (.type "int") mInt:=call_int1.imp fun xs H Q h=>by
  obtain⟨x,rfl,h⟩:=l1.ex h
  cases x with
  | int i=>exact .inl ⟨i,rfl,h⟩
  | bl b=>exact .inr ⟨b,rfl,h⟩
  | _=>exact h.elim
def mIsB:R2:=fun x y H Q=>vB x fun b=>vB y fun c=>Q (.bl (b == c)) H
section
variable {o e:Expr} {es:List Expr} {to:TE} {t:TA} {apos cpos:Pos}
def dExtend (to:TE) (t:TA):TE:=fun σ H Q=>to σ H fun x H1=>vR x fun l=>(∃xs,H1 l = some (.lst xs))∧t σ H1 fun vs H2=>l1 vs fun y=>vR y fun b=>∃xs zs,H2 l = some (.lst xs)∧H2 b = some (.lst zs)∧xs.length + zs.length≤sizeLine∧Q .non (upd H2 l (.lst (xs ++ zs)))
theorem md_extend (ho:PE X o to) (ha:PA X [e] t) (hbase:attributeBase o "extend" X.env (eval o X.env) = eval o X.env:=by rfl)
    (hfew:((backTo cpos (starEach [e] X.env)).all (fun x=>!x.1) && (backToKw cpos (keywordEach [] X.env)).all (fun x=>x.1.isSome)
      && decide (([e]:List Expr).length + ([]:List Keyword).length + (if ([]:List Keyword).isEmpty then 0 else 1) < 30)) = true:=by rfl)
    (hline:(apos.endLine == cpos.line) = true:=by rfl) (hs:starEach [e] X.env = (false,eval e X.env) :: starEach [] X.env:=by rfl) (hplain:(backTo cpos (starEach [] X.env)).any (·.1) = false:=by rfl) :
    PE X (.Call (.Attribute o "extend" apos) [e] [] cpos) (dExtend to t):=
  (pe_bm PySem.F.plainAttrs_list PySem.F.slot_list_extend PySem.F.type_list_extend mt_extend (pe_cut ho) (pa_cut ha) hbase hfew hline hs hplain).imp fun σ H Q h=>⟨_,h,fun x H1 q=>by
    obtain⟨l,rfl,⟨xs,q1⟩,q2⟩:=vR.ex q
    refine⟨.inl ⟨rfl,xs,SqL.of q1⟩,_,q2,fun vs H2 q3=>?_⟩
    obtain⟨y,rfl,q3⟩:=l1.ex q3
    obtain⟨b,rfl,xs,zs,h1,h2,h3,h4⟩:=vR.ex q3
    exact⟨l,b,xs,zs,rfl,rfl,h1,h2,h3,h4⟩⟩
def dPopAt (to:TE) (t:TA):TE:=fun σ H Q=>to σ H fun x H1=>vR x fun l=>(∃xs,H1 l = some (.lst xs))∧t σ H1 fun vs H2=>l1 vs fun y=>vI y fun i=>∃xs k y,H2 l = some (.lst xs)∧(-(2 ^ 63)≤i∧i < 2 ^ 63)∧seqIndex? i xs.length = some k∧xs[k]? = some y∧Q y (upd H2 l (.lst (xs.eraseIdx k)))
theorem md_popAt (ho:PE X o to) (ha:PA X [e] t) (hbase:attributeBase o "pop" X.env (eval o X.env) = eval o X.env:=by rfl)
    (hfew:((backTo cpos (starEach [e] X.env)).all (fun x=>!x.1) && (backToKw cpos (keywordEach [] X.env)).all (fun x=>x.1.isSome)
      && decide (([e]:List Expr).length + ([]:List Keyword).length + (if ([]:List Keyword).isEmpty then 0 else 1) < 30)) = true:=by rfl)
    (hline:(apos.endLine == cpos.line) = true:=by rfl) (hs:starEach [e] X.env = (false,eval e X.env) :: starEach [] X.env:=by rfl) (hplain:(backTo cpos (starEach [] X.env)).any (·.1) = false:=by rfl) :
    PE X (.Call (.Attribute o "pop" apos) [e] [] cpos) (dPopAt to t):=
  (pe_bm PySem.F.plainAttrs_list PySem.F.slot_list_pop PySem.F.type_list_pop mt_popAt (pe_cut ho) (pa_cut ha) hbase hfew hline hs hplain).imp fun σ H Q h=>⟨_,h,fun x H1 q=>by
    obtain⟨l,rfl,⟨xs,q1⟩,q2⟩:=vR.ex q
    refine⟨.inl ⟨rfl,xs,SqL.of q1⟩,_,q2,fun vs H2 q3=>?_⟩
    obtain⟨y,rfl,q3⟩:=l1.ex q3
    obtain⟨i,rfl,xs,k,y,h1,h2,h3,h4,h5⟩:=vI.ex q3
    exact⟨l,xs,i,k,y,rfl,rfl,h1,h2.1,h2.2,h3,h4,h5⟩⟩
end
theorem vals_bools:∀{bs:List Bool} {us:List Value},Vals (bs.map V.bl) us→us = bs.map Value.bool
  | [],_,.nil=>rfl
  | b :: r,_,.cons h t=>by
    cases (show _ = Value.bool b from h)
    rw [vals_bools t];rfl
def mAll (K:PySem.W.Frag):List V→Hp→VK→Prop:=fun xs H Q=>l1 xs fun x=>vR x fun p=>∃bs:List Bool,SqL K H p (bs.map V.bl)∧Q (.bl (bs.all id)) H
theorem all_range (bs:List Bool):(List.range bs.length).all (fun i=>bs.getD i false) = bs.all id:=by
  have e:(List.range bs.length).map (fun i=>bs.getD i false) = bs:=by
    apply List.ext_getElem
    · simp
    · intro i h1 h2
      simp [List.getD_eq_getElem?_getD,h2]
  conv=>rhs;rw [←e,List.all_map]
  rfl
theorem z_all (hc:X.calm = true):CallR X (.builtin "all") (mAll X.K):=by
  intro pins s σ H xs us Q I r h
  obtain⟨x,rfl,h⟩:=l1.ex h
  obtain⟨p,rfl,bs,hS,q⟩:=vR.ex h
  obtain⟨u,rfl,ru⟩:=vals1 r
  cases ru
  obtain⟨its,rv,pl,_⟩:=I.list hS
  have ei:=vals_bools rv
  subst ei
  have hl:=pl.isList
  have hlt:p < s.heap.objs.size:=by obtain⟨_,e,_⟩:=hl;exact Heap.lt_size e
  refine call_all_walk (wpAny_pyIter_list hl ?_)
  refine⟨_,_,_,_,_,_,fun i=>bs.getD i false,rfl,Walks.list (A:=X.A.in1) (I.ok.hd hc) _ p (Nat.ne_of_lt hlt) _,⟨⟨_,Heap.get?_push_size _ rfl,rfl,rfl⟩,hl.push _⟩,?_,fun h' tk hk=>?_⟩
  · intro i v s' Q' E' hP hq
    have hv:(bs.map Value.bool)[i]? = some v:=by simpa using hP
    rw [List.getElem?_map] at hv
    obtain⟨b,hb,rfl⟩:=Option.map_eq_some_iff.mp hv
    have:bs.getD i false = b:=by rw [List.getD_eq_getElem?_getD,hb];rfl
    simp only [this] at hq
    exact wpAny_truthy_bool hq
  · have e:(bs.map Value.bool).toArray.size = bs.length:=by simp
    rw [e,all_range]
    exact⟨.bl _,H,I.kept (old_kept hk),rfl,q⟩
end
end L2
namespace L2
open PySem PySem.Spec PyProof.Rows
section
variable {X:Cx}
abbrev Cx.pinned (X:Cx) (pins0:List (Addr×Obj)):Cx:={ X with pn:=X.pn ++ pins0 }
abbrev Cx.tried (X:Cx) (pins0:List (Addr×Obj)) (σ0:St) (EX:XK):Cx:=(X.pinned pins0).wish fun ev s'=>∃pins H1 s1,Inv (X.pinned pins0) pins σ0 H1 s1∧CXR X.prog X.w X.stack H1 s1 EX ev s'
theorem Inv.pinUp {pins0:List (Addr×Obj)} {σ:St} {H:Hp} {s:Shared} (I:Inv X pins0 σ H s):Inv (X.pinned pins0) [] σ H s:=
  ⟨⟨I.ok.mod,I.ok.kind,I.ok.glob,I.ok.blt,I.ok.above,I.ok.inj,I.ok.has,I.ok.cab,I.ok.hd,I.ok.frames,I.ok.stk,I.ok.exf,I.ok.bs,I.ok.bsz,I.ok.noex,I.ok.exfs,I.ok.funs,I.ok.frf⟩,I.os,I.bare,I.base,I.loc,I.cell,I.free,I.freeC,
    fun p hp=>I.pin p (by simpa using hp),I.hok,I.len⟩
theorem Inv.pinDown {pins0 pins:List (Addr×Obj)} {σ:St} {H:Hp} {s:Shared} (I:Inv (X.pinned pins0) pins σ H s):Inv X pins0 σ H s:=
  ⟨⟨I.ok.mod,I.ok.kind,I.ok.glob,I.ok.blt,I.ok.above,I.ok.inj,I.ok.has,I.ok.cab,I.ok.hd,I.ok.frames,I.ok.stk,I.ok.exf,I.ok.bs,I.ok.bsz,I.ok.noex,I.ok.exfs,I.ok.funs,I.ok.frf⟩,I.os,I.bare,I.base,I.loc,I.cell,I.free,I.freeC,
    fun p hp=>I.pin p (List.mem_append_left _ hp),I.hok,I.len⟩
theorem pe_callT {pins0:List (Addr×Obj)} {σ0:St} {EX:XK} {k:Nat} {f:Addr} {fd:FuncData} {ps:List Str} {sp:Sp} {dvs:List V} {ds:List Value} {x:Str} {p pos:Pos} {e:Expr} {es:List Expr} {t:TA}
    (F:FnOk X.prog X.w X.K X.mg X.base (CXR X.prog X.w) k f fd ps sp) (hr:Room k X.A) (hg:Gl X x) (hm:X.mg x = some (.ref f)) (hk:PySem.W.keepIn X.K (.ref f) = true) (hb:Binds X.K fd ps ds) (hd:Vals dvs ds) (ha:PA (X.tried pins0 σ0 EX) (e :: es) t)
    (hdb:(x == ("__debug__":Str)) = false:=by decide) (he:starEach (e :: es) X.env = (false,eval e X.env) :: starEach es X.env:=by rfl) (hpl:(backTo pos (starEach es X.env)).any (·.1) = false:=by rfl) :
    PE (X.tried pins0 σ0 EX) (.Call (.Name x p) (e :: es) [] pos) (fun σ H Q=>t σ H fun vs H1=>σ = σ0∧sp (vs ++ dvs) H1 Q EX):=by
  intro pins s σ H Q I h
  refine wpAny_Call_Name_kw (ld_glob (X:=X.tried pins0 σ0 EX) I hg hm ?_ hdb)
  refine PySem.W.callWith_K (h₀:=X.base) I.ok.mod.kin hk (thn (ha pos pins s σ H _ I h) fun us s1 ⟨vs,H1,I1,r,eσ,q⟩=>⟨I1.kIn,?_⟩) he hpl
  subst eσ
  have r2:Vals (vs ++ dvs) (us ++ ds):=r.append hd
  have hl:(us ++ ds).length = ps.length:=by rw [←r2.length];exact F.len _ _ _ _ q
  refine wpAny_call (codeAny_mono (F.run X.A X.stack s1 H1 ⟨us, []⟩ (us ++ ds) (vs ++ dvs) Q EX hr I1.env0 (hb s1 us I1.kIn hl) r2 q) fun r s' hq=>?_)
  cases r with
  | error ev=>exact⟨pins,H1,s1,I1.unwish,hq⟩
  | ok fl=>
    cases fl with
    | ret u=>exact I1.after hq
    | next=>exact False.elim hq
    | brk=>exact False.elim hq
    | cont=>exact False.elim hq
abbrev TH:=Ends→St→Value→Option Addr→Hp→Prop
def PH (X:Cx) (hs:List ExceptHandler) (th:TH):Prop:=∀(pins:List (Addr×Obj)) (σ:St) (H':Hp) (s5:Shared) (a t:Addr) (cls:Value) (od:Option Addr) (B:Heap) (D:Ends),
  (∀h6,FlyD B X.stack a cls (.ref t) od h6→s5.heap.UpToSlots h6→Inv X pins σ (upd H' a (excO cls a od)) { s5 with heap:=h6 })→FlyD B X.stack a cls (.ref t) od s5.heap→H' a = none→th D σ cls od H'→
  wpAny (model X.prog X.w) X.A (handleBy (.ref a) X.env hs) (SP X pins D) X.xe s5
variable {np hpos pos:Pos} {y n:Str} {C:Addr} {i:Nat} {b₀:Stmt} {suite:List Stmt} {ts:TS} {hs:List ExceptHandler} {th:TH}
def hAs (K:PySem.W.Frag) (C:Addr) (i:Nat) (ts:TS) (th:TH):TH:=fun D σ cls od H'=>(PySem.W.exmOne K cls (.ref C) = some true∧∀a,H' a = none→ts (sufE D i) (σ.set i (some (.ref a))) (upd H' a (excO cls a od)))∨(PySem.W.exmOne K cls (.ref C) = some false∧th D σ cls od H')
def hNo (K:PySem.W.Frag) (C:Addr) (ts:TS) (th:TH):TH:=fun D σ cls od H'=>(PySem.W.exmOne K cls (.ref C) = some true∧∀a,H' a = none→ts D σ (upd H' a (excO cls a od)))∨(PySem.W.exmOne K cls (.ref C) = some false∧th D σ cls od H')
def hNil:TH:=fun _ _ _ _ _=>False
theorem ph_nil:PH X [] hNil:=fun _ _ _ _ _ _ _ _ _ _ _ _ _ z=>z.elim
theorem ph_as (hg:Gl X y) (hm:X.mg y = some (.ref C)) (nd:X.N.Nodup) (hi:X.N[i]? = some n) (hl:X.env.scope.names.lookup n = some .local) (hs':∀ev,PSs (X.marked ev) (b₀ :: suite) ts) (hr:PH X hs th)
    (hd:(y == ("__debug__":Str)) = false:=by decide):PH X (.ExceptHandler (some (.Name y np)) (some n) (b₀ :: suite) hpos :: hs) (hAs X.K C i ts th):=by
  intro pins σ H' s5 a t cls od B D land fl5 new q
  have J5:=land _ fl5 (Heap.UpToSlots.refl _)
  obtain⟨oe,_,he,hc,_⟩:=fl5.obj
  have LT:∀M,PySem.W.Looks M s5.heap (typeOf (.ref a)) cls:=fun M=>hc▸(PySem.W.Looks.ld he).andThen .now
  refine wpAny_handleBy_cons (codeAny_handlers_test (ld_glob (X:=X.marked (.ref a)) (J5.marked _) hg hm ?_ hd)) (by intro z;cases z)
  rcases q with ⟨hexm,q⟩ | ⟨hexm,q⟩
  · refine PySem.W.exm_one (K:=X.K) J5.kIn (LT _) hexm _ _ _ _ (fun _ _ z=>z) ?_
    refine codeAny_handlers_suite_as ?_
    refine landAgainD fl5 fun h6 fl6 sm6=>?_
    have J6:=land _ fl6 sm6
    refine store_ok (X:=X.marked (.ref a)) (J6.marked _) nd hi (.inl hl) (v:= .ref a) rfl (fun s7 J7=>?_) (.inr hl)
    refine wpAny_mono (hs' (.ref a) pins s7 _ _ (sufE D i) J7 (q a new)) (fun f s8 hf=>?_) (fun _ _ z=>False.elim z)
    cases f with
    | next=>obtain⟨σ',H8,J8,q8⟩:=hf;exact unbound (J8.unmarked J5.ok) nd hi hl fun s9 J9=>⟨_,H8,J9,q8⟩
    | brk=>obtain⟨σ',H8,J8,q8⟩:=hf;exact unbound (J8.unmarked J5.ok) nd hi hl fun s9 J9=>⟨_,H8,J9,q8⟩
    | cont=>obtain⟨σ',H8,J8,q8⟩:=hf;exact unbound (J8.unmarked J5.ok) nd hi hl fun s9 J9=>⟨_,H8,J9,q8⟩
    | ret u=>obtain⟨v,σ',H8,J8,r8,q8⟩:=hf;exact unbound (J8.unmarked J5.ok) nd hi hl fun s9 J9=>⟨v,_,H8,J9,r8,q8⟩
  · refine PySem.W.exm_one (K:=X.K) J5.kIn (LT _) hexm _ _ _ _ (fun _ _ z=>z) ?_
    exact hr pins σ H' s5 a t cls od B D land fl5 new q
def tTryH (tb:St→XK→TS) (th:TH):TS:=fun D σ H=>tb σ (fun cls od H1=>th D σ cls od H1) D σ H
theorem ps_tryH {body:List Stmt} {h₀:ExceptHandler} {tb:St→XK→TS} (hb:∀pins0 σ0 EX,PSs (X.tried pins0 σ0 EX) body (tb σ0 EX)) (hh:PH X (h₀ :: hs) th) (hstk:X.stack = X.env :: X.outer) (hfr:X.env.frame = some X.env.locals) :
    PS X (.Try body (h₀ :: hs) [] [] pos) (tTryH tb th):=by
  intro pins s σ H D I hw
  refine wpAny_Try_except ?_
  refine wpAny_mono (hb pins σ _ [] s σ H D (I.pinUp.wish _) hw) (fun f s1 hf=>?_) (fun ev s2 hq=>?_)
  · cases f with
    | next=>obtain⟨σ',H8,J8,q8⟩:=hf;exact wpAny_execs_nil ⟨σ',H8,J8.unwish.pinDown,q8⟩
    | brk=>obtain⟨σ',H8,J8,q8⟩:=hf;exact⟨σ',H8,J8.unwish.pinDown,q8⟩
    | cont=>obtain⟨σ',H8,J8,q8⟩:=hf;exact⟨σ',H8,J8.unwish.pinDown,q8⟩
    | ret u=>obtain⟨v,σ',H8,J8,r8,q8⟩:=hf;exact⟨v,σ',H8,J8.unwish.pinDown,r8,q8⟩
  · obtain⟨pins1,H1,s1,I1,a,t,cls,od,H',B,rfl,F,q⟩:=hq
    have I1':=I1.pinDown
    have fr:X.A.frames = some (X.env :: X.outer):=by rw [I1'.ok.frames,hstk]
    refine lookOnD fr hfr (hstk▸F.fly) fun h4 held4 sm4=>?_
    refine landD held4 fun h5 fl5 sm5=>?_
    have fl5':FlyD B X.stack a cls (.ref t) od h5:=hstk▸fl5
    exact hh pins σ H' _ a t cls od B D (fun h6 fl6 sm6=>land (s':=s2) I1' F fl6 ((sm4.trans sm5).trans sm6)) fl5' F.new q
end
end L2
namespace L2
open PySem PySem.Spec PyProof.Rows
def Its (z:Str):It:=⟨fun i _=>i < z.cps.size,fun i H x H'=>H' = H∧∃c,z.cps[i]? = some c∧x = .str ⟨#[c]⟩,fun i _=>z.cps.size≤i⟩
section
variable {prog:Program} {w:World} {A:Around} {E:Value→Shared→Prop} {s:Shared} {it:Addr} {z:Str} {t:Tok} {i:Nat}
theorem next_text {c:Nat} {Q:Option Value→Shared→Prop} (hit:s.heap.IsStrIter it (strIterType z) z t i) (hx:z.cps[i]? = some c)
    (hQ:∀h',h'.IsStrIter it (strIterType z) z t (i + 1)→Heap.SameBut it s.heap h'→Q (some (.str ⟨#[c]⟩ s.toks)) { s with heap:=h',toks:=s.toks + 1 }):wpAny (model prog w) A (pyNext (.ref it)) Q E s:=by
  unfold strIterType at hit hQ
  split at hit
  · rename_i h;simp only [h] at hQ;exact wpAny_pyNext_ascii_item hit hx hQ
  · rename_i h;simp only [h] at hQ;exact wpAny_pyNext_wide_item hit hx hQ
theorem end_text {Q:Option Value→Shared→Prop} (hh:A.handled = none) (hit:s.heap.IsStrIter it (strIterType z) z t i) (hx:z.cps[i]? = none) (hQ:∀h',Heap.ExtBut it s.heap h'→Q none { s with heap:=h' }) :
    wpAny (model prog w) A (pyNext (.ref it)) Q E s:=by
  unfold strIterType at hit
  split at hit
  · exact wpAny_pyNext_ascii_end hh hit hx hQ
  · exact wpAny_pyNext_wide_end hh hit hx hQ
theorem self_text {Q:Value→Shared→Prop} (hit:s.heap.IsStrIter it (strIterType z) z t i) (h:Q (.ref it) s):wpAny (model prog w) A (pyIter (.ref it)) Q E s:=by
  unfold strIterType at hit
  split at hit
  · exact wpAny_pyIter_striter_ascii hit h
  · exact wpAny_pyIter_striter_wide hit h
end
theorem turn_text {P:Program} {w:World} {K:PySem.W.Frag} {tg:Expr} (z:Str) (t:Tok) (it:Addr):Turn P w K tg (Its z) [it] it (fun i h=>h.IsStrIter it (strIterType z) z t i) where
  mem:=by simp
  obj:=fun i h st b hb=>by
    have e:b = it:=by simpa using hb
    subst e
    obtain⟨o,e,_,d⟩:=st
    exact⟨o,e,fun v y=>by rw [d] at y;cases y⟩
  keep:=fun i h h' ⟨o,e,r⟩ k=>⟨o,k it (by simp) o e,r⟩
  item:=by
    intro X hP hw hK hc i pins s σ H E I hf st hg
    subst hP hw hK
    have hg':i < z.cps.size:=hg
    have hx:z.cps[i]? = some z.cps[i]:=Array.getElem?_eq_getElem hg'
    obtain⟨f0,f1,f2,f3,f4,f5⟩:=hf it (by simp)
    refine next_text st hx fun h' st' sb=>?_
    have I1:Inv X pins σ H { s with heap:=h',toks:=s.toks + 1 }:=I.turned (fun b o hb e=>(sb.2 b hb).trans e) f0 f1 f3 f4 f5
    obtain⟨o,e,c,d⟩:=id st'
    refine⟨_,rfl,go_of (s:={ s with heap:=h',toks:=s.toks + 1 }) (n:=strIterType z) e c d ?_ ⟨.str ⟨#[z.cps[i]]⟩,H,I1,⟨_,rfl⟩,⟨rfl,_,hx,rfl⟩,st',fun b hb=>(hf b hb).1⟩⟩
    unfold strIterType
    split <;> decide
  done:=by
    intro X hP hw hK hc i pins s σ H E I hf st hg
    subst hP hw hK
    have hg':z.cps.size≤i:=hg
    obtain⟨f0,f1,f2,f3,f4,f5⟩:=hf it (by simp)
    exact end_text (I.ok.hd hc) st (Array.getElem?_eq_none hg') fun h' eb=>⟨rfl,I.turned (t':=s.toks) (fun b o hb e=>eb b o hb e) f0 f1 f3 f4 f5⟩
  self:=fun _ _ _ _ _ st h=>self_text st h
section
variable {X:Cx} {tg:Expr}
def iText (tl:TE):TI:=fun σ H R=>tl σ H fun x H1=>vS x fun z=>R (Its z) H1
theorem mi_text {l:Expr} {tl:TE} (hl:PE X l tl):PI X tg l (iText tl):=by
  intro pins s σ H R I h
  refine thn (hl pins s σ H _ I h) fun v s1 ⟨x,H1,I1,r1,q1⟩=>?_
  obtain⟨z,rfl,q⟩:=vS.ex q1
  obtain⟨t,rfl⟩:=(show ∃t,v = Value.str z t from r1)
  refine wpAny_pyIter_strU ?_
  refine⟨s1.heap.objs.size, [s1.heap.objs.size],_,_,H1,rfl,I1.kept (t':=s1.toks) fun b o e=>Heap.get?_push_of_some _ e,turn_text z t _,⟨_,Heap.get?_push_size _ rfl,rfl,rfl⟩,fun b hb=>?_,q⟩
  have e:b = s1.heap.objs.size:=by simpa using hb
  subst e
  exact I1.fpOk (Nat.le_refl _) (I1.hok.fresh (Nat.le_refl _))
end
theorem comp_text {z:Str} {tt:TT} {te:TE} {σc:V→St} {H:Hp} {Q:VK} (Pv:Nat→List V→Hp→Prop) (hn:∀i ys H,i≤z.cps.size→Pv i ys H→ys.length < sizeLine) (h0:Pv 0 [] H)
    (hs:∀i c ys H,z.cps[i]? = some c→Pv i ys H→tt (σc (.str ⟨#[c]⟩)) H fun b H3=>if b = true then te (σc (.str ⟨#[c]⟩)) H3 fun y H4=>Pv (i + 1) (ys ++ [y]) H4 else Pv (i + 1) ys H3)
    (hd:∀ys H,Pv z.cps.size ys H→∀p,H p = none→Q (.ref p) (upd H p (.lst ys))):cWord (Its z) tt te σc H Q:=by
  refine⟨fun i m ys H=>m = z.cps.size - i∧i≤z.cps.size∧Pv i ys H,⟨z.cps.size,by simp,Nat.zero_le _,h0⟩,?_⟩
  rintro i m ys H ⟨rfl,hi,p⟩
  refine⟨hn i ys H hi p,?_⟩
  by_cases hlt:i < z.cps.size
  · refine .inr ⟨hlt,fun ys' H'=>Pv (i + 1) ys' H',fun ys' H' q=>⟨_,by omega,rfl,hlt,q⟩,?_⟩
    rintro x H' ⟨rfl,c,hc,rfl⟩
    exact hs i c ys _ hc p
  · have e:i = z.cps.size:=by omega
    subst e
    exact .inl ⟨Nat.le_refl _,hd ys H p⟩
end L2
namespace L2
open PySem PySem.Spec PyProof.Rows Builtin Builtin.Str
def txt (l:List Nat):PySem.Str:=⟨l.toArray⟩
theorem txt_len (l:List Nat):(txt l).length = l.length:=by simp [txt,PySem.Str.length]
theorem txt_cps (l:List Nat):(txt l).cps.toList = l:=by simp [txt]
theorem txt_of (z:PySem.Str):txt z.cps.toList = z:=by cases z;simp [txt]
theorem txt_add (l m:List Nat):txt l ++ txt m = txt (l ++ m):=by
  show (⟨l.toArray ++ m.toArray⟩:PySem.Str) = ⟨(l ++ m).toArray⟩
  simp
theorem idx_lo (h:Option Int) (n:Nat):strSliceIndices none h 1 n = strSliceIndices (some ((0:Nat):Int)) h 1 n:=by
  have e:max (0:Int) (min 0 (n:Int)) = 0:=by omega
  simp [strSliceIndices,e]
theorem idx_hi (l:Option Int) (n:Nat):strSliceIndices l none 1 n = strSliceIndices l (some (n:Int)) 1 n:=by
  have h:¬ ((n:Int) < 0):=by omega
  have e:max (0:Int) (min (n:Int) (n:Int)) = n:=by omega
  simp [strSliceIndices,h,e]
section
variable {X:Cx}
def mSlS:V→Option Int→Option Int→Hp→VK→Prop:=fun x lo hi H Q=>vS x fun z=>∃a b:Nat,(a≤b∧b≤z.length∧z.length≤sizeLine)∧(lo = none∧a = 0∨lo = some (a:Int))∧(hi = none∧b = z.length∨hi = some (b:Int))∧Q (.str (txt ((z.cps.toList.drop a).take (b - a)))) H
def mAddS:R2:=fun x y H Q=>vS x fun i=>vS y fun j=>i.length + j.length≤sizeLine∧Q (.str (i ++ j)) H
theorem z_addS:OpR X (binaryOp .Add) mAddS:=op_add_str.imp fun x y H Q h=>by
  obtain⟨i,rfl,h1⟩:=vS.ex h
  obtain⟨j,rfl,h2,q⟩:=vS.ex h1
  exact⟨i,j,rfl,rfl,h2,q⟩
theorem strs_of:∀{ts:List PySem.Str} {us:List Value},Vals (ts.map V.str) us→∃l:List (PySem.Str×Tok),us = strValues l∧l.map (·.1) = ts
  | [],_,h=>by cases h;exact⟨[],rfl,rfl⟩
  | z :: r,_,h=>by
    cases h with
    | cons a b=>
      obtain⟨t,rfl⟩:=(show ∃t,_ = Value.str z t from a)
      obtain⟨l,rfl,e⟩:=strs_of b
      exact⟨(z,t) :: l,rfl,by rw [List.map_cons,e]⟩
def rJoin:V→List V→Hp→VK→Prop:=fun x vs H Q=>∃z l ts,x = .str z∧vs = [.ref l]∧H l = some (.lst (ts.map V.str))∧JoinOk z ts = true∧Q (.str (Txt.join z ts)) H
theorem mt_join:MtM X "str.join" rJoin:=by
  intro pins s σ H x vs v us Q I rx rv h
  obtain⟨z,l,ts,rfl,rfl,hH,hok,q⟩:=h
  obtain⟨t,rfl⟩:=(show ∃t,v = Value.str z t from rx)
  obtain⟨u,rfl,ru⟩:=rv.one
  cases ru
  obtain⟨hz,its,n,r,hl,e⟩:=I.lstM hH
  obtain⟨ps,rfl,e2⟩:=strs_of r
  exact SC.join ⟨_,e,rfl,_,rfl⟩ e2 hok fun t' k=>⟨.str _,H,I.tok k,⟨_,rfl⟩,q⟩
end
section
variable {X:Cx} {o e:Expr} {to:TE} {t:TA} {apos cpos:Pos}
def dJoin (to:TE) (t:TA):TE:=fun σ H Q=>to σ H fun x H1=>vS x fun z=>t σ H1 fun vs H2=>l1 vs fun y=>vR y fun l=>∃ts,H2 l = some (.lst (ts.map V.str))∧JoinOk z ts = true∧Q (.str (Txt.join z ts)) H2
theorem md_join (ho:PE X o to) (ha:PA X [e] t) (hbase:attributeBase o "join" X.env (eval o X.env) = eval o X.env:=by rfl)
    (hfew:((backTo cpos (starEach [e] X.env)).all (fun x=>!x.1) && (backToKw cpos (keywordEach [] X.env)).all (fun x=>x.1.isSome)
      && decide (([e]:List Expr).length + ([]:List Keyword).length + (if ([]:List Keyword).isEmpty then 0 else 1) < 30)) = true:=by rfl)
    (hline:(apos.endLine == cpos.line) = true:=by rfl) (hs:starEach [e] X.env = (false,eval e X.env) :: starEach [] X.env:=by rfl) (hplain:(backTo cpos (starEach [] X.env)).any (·.1) = false:=by rfl) :
    PE X (.Call (.Attribute o "join" apos) [e] [] cpos) (dJoin to t):=
  (pe_bm PySem.F.plainAttrs_str PySem.F.slot_str_join PySem.F.type_str_join mt_join (pe_cut ho) (pa_cut ha) hbase hfew hline hs hplain).imp fun σ H Q h=>⟨_,h,fun x H1 q=>by
    obtain⟨z,rfl,q2⟩:=vS.ex q
    refine⟨rfl,_,q2,fun vs H2 q3=>?_⟩
    obtain⟨y,rfl,q4⟩:=l1.ex q3
    obtain⟨l,rfl,ts,h1,h2,h3⟩:=vR.ex q4
    exact⟨z,l,ts,rfl,rfl,h1,h2,h3⟩⟩
end
theorem glue_empty:∀(ls:List (List Nat)) (acc:Array Nat),(ls.map txt).foldl (fun acc p=>acc ++ (txt []).cps ++ p.cps) acc = acc ++ ls.flatten.toArray
  | [],acc=>by simp
  | l :: r,acc=>by
    rw [List.map_cons,List.foldl_cons,glue_empty r]
    simp [txt,Array.append_assoc]
theorem join_empty (ls:List (List Nat)):Txt.join (txt []) (ls.map txt) = txt ls.flatten:=by
  unfold Txt.join glued
  cases ls with
  | nil=>rfl
  | cons l r=>
    show (⟨_⟩:PySem.Str) = _
    rw [List.map_cons,List.drop_one,List.tail_cons,List.headD_cons,glue_empty r]
    simp [txt]
end L2
namespace L2
open PySem PySem.Spec PyProof.Rows
section
variable {X:Cx} {o e value:Expr} {es:List Expr} {to ta tv:TE} {t:TA} {apos cpos pos pos':Pos} {C:Addr} {f m:Str}
def dClear (to:TE):TE:=fun σ H Q=>to σ H fun x H1=>vR x fun l=>∃xs,H1 l = some (.lst xs)∧Q .non (upd H1 l (.lst []))
def dFld (C:Addr) (ta:TE) (f:Str):TE:=fun σ H Q=>ta σ H fun x H1=>vR x fun a=>∃dx fs v,H1 a = some (.ins C dx fs)∧fs.lookup f = some v∧Q v H1
def dSet (C:Addr) (ta tv:TE) (f:Str):TS:=fun D σ H=>tv σ H fun y H1=>ta σ H1 fun x H2=>vR x fun a=>∃dx fs,H2 a = some (.ins C dx fs)∧fs.length < 1000∧D.nx σ (upd H2 a (.ins C dx (putF f y fs)))
variable {CX:CXT} {k:Nat} {fa:Addr} {fd:FuncData} {ps:List Str} {sp:Sp} {dvs:List V} {ds:List Value} {E:XK}
def dMeth (C:Addr) (m:Str) (sp:Sp) (dvs:List V) (E:XK) (ta:TE) (t:TA):TE:=fun σ H Q=>ta σ H fun x H1=>vR x fun a=>(∃dx fs,H1 a = some (.ins C dx fs)∧fs.lookup m = none)∧t σ H1 fun vs H2=>sp (.ref a :: (vs ++ dvs)) H2 Q E
end
end L2
namespace L2
open PySem PySem.Spec PyProof.Rows
theorem bt_enumerate:bootBuiltins "enumerate" = some (.type "enumerate"):=by decide +kernel
section
variable {X:Cx} {pins:List (Addr×Obj)} {σ:St} {H:Hp} {s:Shared}
theorem Inv.turnedT {h':Heap} {t':Nat} {fp:List Addr} {T:Addr} {xs:List V} (I:Inv X pins σ H s) (hf:∀b∈fp,FpOk X pins H b) (k:∀b o,b∉fp→s.heap.get? b = some o→h'.get? b = some o) (hT:s.heap.objs.size≤T)
    (new:ObjOk X.prog X.w (upd H T (.tup xs)) h' T (.tup xs)):Inv X pins σ (upd H T (.tup xs)) { s with heap:=h',toks:=t' }:=by
  have hN:H T = none:=I.hok.fresh hT
  have neT:∀b o,s.heap.get? b = some o→b≠T:=fun b o e z=>by
    have:=Heap.lt_size e
    rw [z] at this
    exact absurd (Nat.lt_of_lt_of_le this hT) (Nat.lt_irrefl _)
  have up:∀b u,H b = some u→upd H T (.tup xs) b = some u:=fun b u e=>by rw [upd_ne (ne_of_none e hN)];exact e
  have nit:∀b u,H b = some u→b∉fp:=fun b u e z=>by rw [(hf b z).1] at e;cases e
  refine I.step (g':=s.gens) (d':=s.drawn) (ch:=fp) (fun b hb=>?_) (fun b o _ _ hc e _=>k b o hc e) (fun b o _ _ hc e _=>⟨o.slots,k b o hc e⟩) (fun b o _ e n=>by rw [upd_ne (neT b o e)];exact n)
    (fun b o hc e=>⟨o,k b o hc e⟩) (fun b _ e=>up b _ e) (fun b _ _ e=>up b _ e) (fun b ps e=>⟨#[],by rw [up b _ e];simp⟩) (fun m hm=>?_) (fun b u e=>?_) I.bare
  · obtain⟨f0,f1,f2,f3,f4,f5⟩:=hf b hb
    exact⟨f3,f1,f4,f5⟩
  · obtain⟨o,es,ep,ho,r⟩:=hm
    exact⟨o,es,ep,k _ o (fun z=>(hf _ z).2.1 rfl) ho,r⟩
  · by_cases hb:b = T
    · subst hb
      rw [upd_same] at e
      cases e
      exact new
    · rw [upd_ne hb] at e
      refine(I.hok b u e).stay (fun c v hc q=>k c v ?_ q) (fun _ q=>up _ _ q) fun _ _ q=>up _ _ q
      rcases hc with z | z
      · rw [z];exact nit b u e
      · exact nit c _ z
end
def Ite (K:PySem.W.Frag) (a:Addr):It:=
  ⟨fun i H=>∃xs x,SqL K H a xs∧xs[i]? = some x,fun i H v H'=>∃p x,H p = none∧v = .ref p∧(∀xs,SqL K H a xs→xs[i]? = some x)∧H' = upd H p (.tup [.int ((i:Nat):Int),x]),fun i H=>∃xs,SqL K H a xs∧xs.length≤i⟩
theorem turn_enum {P:Program} {w:World} {K:PySem.W.Frag} {elts:List Expr} {k':Nat} {pos:Pos} (a e it:Addr) (hei:e≠it) :
    Turn P w K (.Tuple elts k' pos) (Ite K a) [e,it] e (fun i h=>(∃old,IsEnum h e it ((i:Nat):Int) old)∧h.IsListIter it a i) where
  mem:=by simp
  obj := fun i h st b hb=>by
    obtain⟨⟨old,he⟩,o,e1,c,d⟩:=st
    simp only [List.mem_cons,List.not_mem_nil,or_false] at hb
    rcases hb with rfl | rfl
    · exact⟨_,he,fun v z=>by
        have z':Data.fields _ = Data.cell v:=z
        cases z'⟩
    · exact⟨o,e1,fun v z=>by rw [d] at z;cases z⟩
  keep:=fun i h h' st k=>by
    obtain⟨⟨old,he⟩,hit⟩:=st
    exact⟨⟨old,k e (by simp) _ he⟩,hit.at fun o x=>k it (by simp) o x⟩
  item :=by
    intro X hP hw hK hc i pins s σ H E I hf st hg
    subst hP hw hK
    obtain⟨⟨old,he⟩,hit⟩:=st
    obtain⟨xs,x,hq,hx⟩:=hg
    obtain⟨its,rv,p,hz⟩:=I.list hq
    obtain⟨u,hu,ru⟩:=rv.get hx
    refine wpAny_pyNext_enum_item he hit p.isList (x:=u) (by simpa using hu) hei fun h1 ho hit1 hT hsz hk=>?_
    refine⟨_,rfl,wpAny_letOwnedTupleGo_enum (s:={ s with heap:=h1,toks:=s.toks + 1 }) ho fun h2 he2 hs2=>?_⟩
    have hs2':Heap.SameBut e h1 h2:=hs2
    have eT:e≠s.heap.objs.size:=Nat.ne_of_lt (Heap.lt_size he)
    have iT:it≠s.heap.objs.size:=by obtain⟨o,e1,_⟩:=hit;exact Nat.ne_of_lt (Heap.lt_size e1)
    have hN:H s.heap.objs.size = none:=I.hok.fresh (Nat.le_refl _)
    refine⟨.ref s.heap.objs.size,upd H s.heap.objs.size (.tup [.int ((i:Nat):Int),x]),I.turnedT hf (fun b o hb q=>?_) (Nat.le_refl _) ?_,rfl,⟨_,x,hN,rfl,fun ys hy=>by rw [I.list_inj hy hq];exact hx,rfl⟩,⟨⟨u,?_⟩,?_⟩,fun b hb=>?_⟩
    · have b1:b≠e:=fun z=>hb (by simp [z])
      have b2:b≠it:=fun z=>hb (by simp [z])
      exact(hs2'.2 b b1).trans (hk b o b1 b2 q)
    · exact⟨(by show 2≤sizeLine;decide), [.int ((i:Nat):Int) s.toks,u],.cons ⟨_,rfl⟩ (.cons ru .nil),⟨_,(hs2'.2 _ (Ne.symm eT)).trans hT,rfl,_,rfl⟩⟩
    · have:((i + 1:Nat):Int) = ((i:Nat):Int) + 1:=by push_cast;rfl
      rw [this];exact he2
    · exact hit1.at fun o y=>(hs2'.2 it (Ne.symm hei)).trans y
    · have h1:=(hf b hb).1
      have:b≠s.heap.objs.size:=by
        simp only [List.mem_cons,List.not_mem_nil,or_false] at hb
        rcases hb with rfl | rfl
        · exact eT
        · exact iT
      rw [upd_ne this];exact h1
  done:=by
    intro X hP hw hK hc i pins s σ H E I hf st hg
    subst hP hw hK
    obtain⟨⟨old,he⟩,hit⟩:=st
    obtain⟨xs,hq,hx⟩:=hg
    obtain⟨its,rv,p,hz⟩:=I.list hq
    obtain⟨f0,f1,f2,f3,f4,f5⟩:=hf it (by simp)
    have hl:=rv.length
    exact wpAny_pyNext_enum_end (I.ok.hd hc) he hit p.isList (Array.getElem?_eq_none (by simp;omega)) fun h' eb=>⟨rfl,I.turned (t':=s.toks) (fun b o hb e=>eb b o hb e) f0 f1 f3 f4 f5⟩
  self:=fun _ _ _ _ _ st h=>by
    obtain⟨⟨old,he⟩,_⟩:=st
    exact wpAny_pyIter_enum he h
section
variable {X:Cx}
def dEnum (K:PySem.W.Frag) (ta:TA):TI:=fun σ H R=>ta σ H fun vs H1=>l1 vs fun x=>vR x fun a=>(∃xs,SqL K H1 a xs)∧R (Ite K a) H1
theorem mi_enum {a:Expr} {ta:TA} {p pos tpos:Pos} {elts:List Expr} {k':Nat} (hg:Gl X "enumerate") (hm:X.mg "enumerate" = none) (ha:PA X [a] ta) (hs:starEach [a] X.env = [(false,eval a X.env)]:=by rfl) :
    PI X (.Tuple elts k' tpos) (.Call (.Name "enumerate" p) [a] [] pos) (dEnum X.K ta):=by
  intro pins s σ H R I h
  refine Call_ (ld_blt I hg hm bt_enumerate (PyProof.Rows.callWith_type1 (thn (ha pos pins s σ H _ I h) fun us s1 ⟨vs,H1,I1,r1,q1⟩=>?_) hs rfl))
  obtain⟨x,rfl,q1⟩:=l1.ex q1
  obtain⟨l,rfl,⟨xs,hq⟩,q⟩:=vR.ex q1
  obtain⟨u,rfl,ru⟩:=vals1 r1
  cases ru
  obtain⟨its,rv,pl,hz⟩:=I1.list hq
  refine call_enumerate_list pl.isList fun h' he hit hsz hk=>?_
  refine wpAny_pyIter_enum (s:={ s1 with heap:=h' }) he ?_
  have I2:Inv X pins σ H1 { s1 with heap:=h' }:=I1.kept (t':=s1.toks) hk
  refine⟨s1.heap.objs.size + 1, [s1.heap.objs.size + 1,s1.heap.objs.size],_,_,H1,rfl,I2,turn_enum l _ _ (Nat.succ_ne_self _),⟨⟨_,he⟩,hit⟩,fun b hb=>?_,q⟩
  simp only [List.mem_cons,List.not_mem_nil,or_false] at hb
  rcases hb with rfl | rfl
  · exact I1.fpOk (Nat.le_succ _) (I1.hok.fresh (Nat.le_succ _))
  · exact I1.fpOk (Nat.le_refl _) (I1.hok.fresh (Nat.le_refl _))
end
def gT2 (K:PySem.W.Frag) (i j:Nat):TG:=fun v σ H Q=>vR v fun a=>∃x y,SqT K H a [x,y]∧Q ((σ.set i (some x)).set j (some y)) H
theorem mg2 {X:Cx} {tg:Expr} {i j:Nat} (h:PG X tg (gTup X.K 2 (gCons (gName i) (gCons (gName j) gNil)))):PG X tg (gT2 X.K i j):=by
  intro pins s σ H v u Q I r q
  obtain⟨a,rfl,x,y,h1,h2⟩:=vR.ex q
  exact h pins s σ H _ u Q I r ⟨a,_,rfl,h1,rfl,_,_,rfl,_,_,rfl,rfl,h2⟩
theorem for_enum {K:PySem.W.Frag} {a:Addr} {xs:List V} {g:TG} {tb:TS} {D:Ends} {σ:St} {H:Hp} (Pv:Nat→St→Hp→Prop) (h0:Pv 0 σ H) (hl:∀i σ H,i≤xs.length→Pv i σ H→SqL K H a xs)
    (hs:∀i x σ H p,xs[i]? = some x→Pv i σ H→H p = none→g (.ref p) σ (upd H p (.tup [.int ((i:Nat):Int),x])) fun σ2 H2=>tb { D with nx:=Pv (i + 1),ct:=Pv (i + 1),bk:=D.nx } σ2 H2) (hd:∀σ H,Pv xs.length σ H→D.nx σ H) :
    ∃ W:Nat→Nat→St→Hp→Prop,(∃m,W 0 m σ H)∧∀i m σ H,W i m σ H→
      ((Ite K a).stop i H∧D.nx σ H)∨((Ite K a).go i H∧∃N:St→Hp→Prop,(∀σ' H',N σ' H'→∃m',m' < m∧W (i + 1) m' σ' H')∧∀x H',(Ite K a).yld i H x H'→g x σ H' fun σ2 H2=>tb { D with nx:=N,ct:=N,bk:=D.nx } σ2 H2):=by
  refine⟨fun i m σ H=>m = xs.length - i∧i≤xs.length∧Pv i σ H,⟨xs.length,by simp,Nat.zero_le _,h0⟩,?_⟩
  rintro i m σ H ⟨rfl,hi,p⟩
  have q:=hl i σ H hi p
  by_cases hlt:i < xs.length
  · refine .inr ⟨⟨xs,xs[i],q,by simp [hlt]⟩,Pv (i + 1),fun σ' H' p'=>⟨xs.length - (i + 1),by omega,rfl,hlt,p'⟩,?_⟩
    rintro v H' ⟨t,x,ht,rfl,hx,rfl⟩
    exact hs i x σ H t (hx xs q) p ht
  · have e:i = xs.length:=by omega
    subst e
    exact .inl ⟨⟨xs,q,Nat.le_refl _⟩,hd σ H p⟩
end L2
namespace L2
open PySem PySem.Spec PyProof.Rows
section
variable {X:Cx}
noncomputable def eDat (h:Heap) (d:PyData):Value→Bool:=by
  classical
  exact fun y=>if g:∃d' as,Reads h y d' as then PyData.eqv g.choose d else false
def mInD (K:PySem.W.Frag) (f:Bool→Bool):R2:=fun x y H Q=>vR y fun p=>∃d ds xs,DV K H x d∧SqL K H p xs∧DVs K H xs ds∧SeqAt.shaped d = true∧(∀e∈ds,SeqAt.shaped e = true)∧Q (.bl (f (ds.any fun e=>PyData.eqv e d))) H
end
def prD (p:Int×Int):PyData:= .tuple [.int p.1,.int p.2]
inductive PrsQ (K:PySem.W.Frag) (H:Hp):List Addr→List (Int×Int)→Prop
  | nil:PrsQ K H [] []
  | cons {q:Addr} {p:Int×Int} {qs:List Addr} {ps:List (Int×Int)}:SqT K H q [.int p.1,.int p.2]→PrsQ K H qs ps→PrsQ K H (q :: qs) (p :: ps)
section
variable {X:Cx}
def mInP (K:PySem.W.Frag) (f:Bool→Bool):R2:=fun x y H Q=>vR x fun t=>vR y fun l=>∃(p:Int×Int) (ps:List (Int×Int)) (qs:List Addr),SqT K H t [.int p.1,.int p.2]∧SqL K H l (qs.map V.ref)∧PrsQ K H qs ps∧Q (.bl (f (decide (p∈ps)))) H
end
end L2
namespace L2
open PySem
end L2
namespace L2
open PySem
def TupK (K:PySem.W.Frag) (a:Addr) (ns:List Int):Prop:=∃(o:Obj) (its:Array Value) (n:Nat),K.lookup a = some o∧o.cls = .type "tuple"∧o.data = .seq its n∧its.size≤sizeLine∧Vals (ns.map V.int) its.toList
end L2
namespace L2
open PySem PySem.Spec PyProof.Rows
end L2
namespace L2
open PySem PySem.Spec PyProof.Rows
def mNotB:R2:=fun x y H Q=>vB x fun b=>vB y fun c=>Q (.bl (b != c)) H
end L2
namespace L2
open PySem PySem.Spec PyProof.Rows
section
variable {X:Cx} {o e e2:Expr} {to:TE} {t:TA} {apos cpos:Pos}
def rInsert:V→List V→Hp→VK→Prop:=fun x vs H Q=>∃(l:Addr) (xs:List V) (k:Nat) (i:Int) (y:V),x = .ref l∧vs = [.int i,y]∧i = ((k:Nat):Int)∧H l = some (.lst xs)∧k≤xs.length∧xs.length < sizeLine∧k < 2 ^ 62∧Q .non (upd H l (.lst (xs.take k ++ y :: xs.drop k)))
theorem fits {i:Int} (k:Nat) (e:i = ((k:Nat):Int)) (h:k < 2 ^ 62):¬ (!Builtin.List.listFitsIndex i) = true:=by
  have h2:i < 2 ^ 63:=by
    have:((2 ^ 62:Nat):Int) = 2 ^ 62:=by decide
    omega
  rw [fitsIndex_both (by omega) h2]
  decide
theorem mt_insert:MtM X "list.insert" rInsert:=by
  intro pins s σ H x vs v us Q I rx rv h
  obtain⟨l,xs,k,i,y,rfl,rfl,hi,hH,hk,hz,hbig,q⟩:=h
  cases rx
  obtain⟨u0,u,rfl,r1,ru⟩:=rv.two
  obtain⟨t,rfl⟩:=r1
  obtain⟨z,its,n,r,hl,e⟩:=I.lstM hH
  have hs:its.toArray.size≤sizeLine:=by rw [List.size_toArray,←hl];exact Nat.le_of_lt hz
  have hf:=fits k hi hbig
  have hm:=AutoSeq1.list_insert_list_int_val_1 l its.toArray n i t u hf hs
  refine call_meets F.slot_list_insert ⟨_,e,rfl⟩ F.entry_list_insert (F.args_list_insert_3 _ _ _) hm ⟨e,?_⟩
  have hki:k≤its.length:=by omega
  refine⟨.non,_,I.lset (its':=its.take k ++ u :: its.drop k) hH e ?_ ?_ ?_,rfl,q⟩
  · show (its.toArray.extract 0 (if i < 0 then (i + (its.toArray.size:Int)).toNat else min i.toNat its.toArray.size)).push u ++ its.toArray.extract (if i < 0 then (i + (its.toArray.size:Int)).toNat else min i.toNat its.toArray.size) = (its.take k ++ u :: its.drop k).toArray
    have hik:i.toNat = k:=by omega
    rw [if_neg (by omega),hik,List.size_toArray,Nat.min_eq_left hki]
    apply Array.toList_inj.mp
    simp [List.take_of_length_le]
  · exact(r.take k).append (.cons ru (r.drop k))
  · rw [List.length_append,List.length_cons,List.length_take,List.length_drop]
    omega
def dInsert (K:PySem.W.Frag) (to:TE) (t:TA):TE:=fun σ H Q=>to σ H fun x H1=>vR x fun l=>(∃xs,SqL K H1 l xs)∧t σ H1 fun vs H2=>l2 vs fun a y=>∃(k:Nat) (xs:List V),a = .int ((k:Nat):Int)∧H2 l = some (.lst xs)∧k≤xs.length∧xs.length < sizeLine∧k < 2 ^ 62∧Q .non (upd H2 l (.lst (xs.take k ++ y :: xs.drop k)))
theorem md_insert (ho:PE X o to) (ha:PA X [e,e2] t) (hbase:attributeBase o "insert" X.env (eval o X.env) = eval o X.env:=by rfl)
    (hfew:((backTo cpos (starEach [e,e2] X.env)).all (fun x=>!x.1) && (backToKw cpos (keywordEach [] X.env)).all (fun x=>x.1.isSome)
      && decide (([e,e2]:List Expr).length + ([]:List Keyword).length + (if ([]:List Keyword).isEmpty then 0 else 1) < 30)) = true:=by rfl)
    (hline:(apos.endLine == cpos.line) = true:=by rfl) (hs:starEach [e,e2] X.env = (false,eval e X.env) :: starEach [e2] X.env:=by rfl) (hplain:(backTo cpos (starEach [e2] X.env)).any (·.1) = false:=by rfl) :
    PE X (.Call (.Attribute o "insert" apos) [e,e2] [] cpos) (dInsert X.K to t):=
  (pe_bm PySem.F.plainAttrs_list PySem.F.slot_list_insert PySem.F.type_list_insert mt_insert (pe_cut ho) (pa_cut ha) hbase hfew hline hs hplain).imp fun σ H Q h=>⟨_,h,fun x H1 q=>by
    obtain⟨l,rfl,q1,q2⟩:=vR.ex q
    refine⟨.inl ⟨rfl,q1⟩,_,q2,fun vs H2 q3=>?_⟩
    obtain⟨a,y,rfl,k,xs,rfl,h1,h2,h3,h4,h5⟩:=l2.ex q3
    exact⟨l,xs,k,_,y,rfl,rfl,rfl,h1,h2,h3,h4,h5⟩⟩
end
end L2
namespace L2
open PySem PySem.Spec PyProof.Rows
section
variable {X:Cx} {o e:Expr} {to:TE} {t:TA} {apos cpos:Pos}
def rZfill:V→List V→Hp→VK→Prop:=fun x vs H Q=>∃z i,x = .str z∧vs = [.int i]∧PadOk i = true∧Q (.str (Txt.zfill z i)) H
def dZfill (to:TE) (t:TA):TE:=fun σ H Q=>to σ H fun x H1=>vS x fun z=>t σ H1 fun vs H2=>l1 vs fun y=>vI y fun i=>PadOk i = true∧Q (.str (Txt.zfill z i)) H2
def rIdxS:V→List V→Hp→VK→Prop:=fun x vs H Q=>∃z y i rest,x = .str z∧vs = [.str y]∧Builtin.Str.occurrences z y 0 z.length 1 = i :: rest∧Q (.int ((i:Nat):Int)) H
theorem mt_idxS:MtM X "str.index" rIdxS:=by
  intro pins s σ H x vs v us Q I rx rv h
  obtain⟨z,y,i,rest,rfl,rfl,hok,q⟩:=h
  obtain⟨t,rfl⟩:=(show ∃t,v = Value.str z t from rx)
  obtain⟨u,rfl,ru⟩:=rv.one
  obtain⟨t2,rfl⟩:=(show ∃t,u = Value.str y t from ru)
  exact SC.index hok ⟨.int _,H,I.tok _,⟨_,rfl⟩,q⟩
def dIdxS (to:TE) (t:TA):TE:=fun σ H Q=>to σ H fun x H1=>vS x fun z=>t σ H1 fun vs H2=>l1 vs fun y=>vS y fun y=>∃i rest,Builtin.Str.occurrences z y 0 z.length 1 = i :: rest∧Q (.int ((i:Nat):Int)) H2
theorem md_idxS (ho:PE X o to) (ha:PA X [e] t) (hbase:attributeBase o "index" X.env (eval o X.env) = eval o X.env:=by rfl)
    (hfew:((backTo cpos (starEach [e] X.env)).all (fun x=>!x.1) && (backToKw cpos (keywordEach [] X.env)).all (fun x=>x.1.isSome)
      && decide (([e]:List Expr).length + ([]:List Keyword).length + (if ([]:List Keyword).isEmpty then 0 else 1) < 30)) = true:=by rfl)
    (hline:(apos.endLine == cpos.line) = true:=by rfl) (hs:starEach [e] X.env = (false,eval e X.env) :: starEach [] X.env:=by rfl) (hplain:(backTo cpos (starEach [] X.env)).any (·.1) = false:=by rfl) :
    PE X (.Call (.Attribute o "index" apos) [e] [] cpos) (dIdxS to t):=
  (pe_bm PySem.F.plainAttrs_str PySem.F.slot_str_index PySem.F.type_str_index mt_idxS (pe_cut ho) (pa_cut ha) hbase hfew hline hs hplain).imp fun σ H Q h=>⟨_,h,fun x H1 q=>by
    obtain⟨z,rfl,q2⟩:=vS.ex q
    refine⟨rfl,_,q2,fun vs H2 q3=>?_⟩
    obtain⟨y,rfl,q4⟩:=l1.ex q3
    obtain⟨y,rfl,i,rest,h1,h2⟩:=vS.ex q4
    exact⟨z,y,i,rest,rfl,rfl,h1,h2⟩⟩
def mInS:R2:=fun x y H Q=>vS x fun i=>vS y fun j=>Q (.bl (!(Builtin.Str.occurrences j i 0 j.length 1).isEmpty)) H
theorem z_inS:OpR X (compareOp .In) mInS:=op_in_str.imp fun x y H Q h=>by
  obtain⟨i,rfl,h1⟩:=vS.ex h
  obtain⟨j,rfl,q⟩:=vS.ex h1
  exact⟨i,j,rfl,rfl,q⟩
def mIntS:List V→Hp→VK→Prop:=fun xs H Q=>l1 xs fun x=>vS x fun z=>∃n,PySem.intText? z = some n∧z.length≤640∧Q (.int n) H
theorem z_intS:CallR X (.type "int") mIntS:=by
  intro pins s σ H xs us Q I r h
  obtain⟨x,rfl,h⟩:=l1.ex h
  obtain⟨z,rfl,n,h1,h2,q⟩:=vS.ex h
  obtain⟨u,rfl,t,rfl⟩:=vals1 r
  exact PySem.W.KIN.call_text h1 h2 ⟨.int _,H,I.tok _,⟨_,rfl⟩,q⟩
def mStrI:List V→Hp→VK→Prop:=fun xs H Q=>l1 xs fun x=>vI x fun i=>i.natAbs.log2 < 1920∧Q (.str (toString i)) H
end
def iTextA (tl:TE):TI:=fun σ H R=>tl σ H fun x H1=>vS x fun z=>True∧R (Its z) H1
theorem mi_textA {X:Cx} {tg l:Expr} {tl:TE} (hl:PE X l tl):PI X tg l (iTextA tl):=(mi_text (pe_cut hl)).imp fun σ H R h=>⟨_,h,fun x H1 q=>by
  obtain⟨z,rfl,_,q2⟩:=vS.ex q
  exact q2⟩
end L2
namespace L2
open PySem PySem.Spec PyProof.Rows PySem.Builtin PySem.Builtin.Str
theorem clip_lo (i n:Nat) (h:Option Int):strSliceIndices (some (i:Int)) h 1 n = strSliceIndices (some ((min i n:Nat):Int)) h 1 n:=by
  have e1:¬ ((i:Int) < 0):=by omega
  have e2:¬ (((min i n:Nat):Int) < 0):=by omega
  have e3:max (0:Int) (min (i:Int) n) = max 0 (min ((min i n:Nat):Int) n):=by omega
  have e0:(1:Int) > 0:=by decide
  simp only [strSliceIndices,if_neg e1,if_neg e2,if_pos e0,e3]
theorem clip_hi (j n:Nat) (l:Option Int):strSliceIndices l (some (j:Int)) 1 n = strSliceIndices l (some ((min j n:Nat):Int)) 1 n:=by
  have e1:¬ ((j:Int) < 0):=by omega
  have e2:¬ (((min j n:Nat):Int) < 0):=by omega
  have e3:max (0:Int) (min (j:Int) n) = max 0 (min ((min j n:Nat):Int) n):=by omega
  have e0:(1:Int) > 0:=by decide
  simp only [strSliceIndices,if_neg e1,if_neg e2,if_pos e0,e3]
section
variable {X:Cx}
def mSlG:V→Option Int→Option Int→Hp→VK→Prop:=fun x lo hi H Q=>vS x fun z=>∃a b:Nat,(a≤b∧b≤z.length∧z.length≤sizeLine)∧(lo = none∧a = 0∨∃i:Nat,lo = some (i:Int)∧a = min i z.length)∧(hi = none∧b = z.length∨∃j:Nat,hi = some (j:Int)∧b = min j z.length)∧Q (.str (txt ((z.cps.toList.drop a).take (b - a)))) H
theorem z_slG:SlR X mSlG:=by
  intro pins s σ H x v vl vu lo hi sl Q I rx hs pl pu h
  obtain⟨z,rfl,a,b,⟨hab,hb,hz⟩,ha',hb',q⟩:=vS.ex h
  obtain⟨t,rfl⟩:=(show ∃t,v = Value.str z t from rx)
  refine⟨"str",_,F.slot_str_getitem.lookup,typeIs_str _ _ _,?_⟩
  have eix:strSliceIndices lo hi 1 z.length = strSliceIndices (some (a:Int)) (some (b:Int)) 1 z.length:=by
    rcases ha' with ⟨rfl,rfl⟩ | ⟨i,rfl,rfl⟩
    · rcases hb' with ⟨rfl,rfl⟩ | ⟨j,rfl,rfl⟩
      · rw [idx_lo,idx_hi]
      · rw [idx_lo,clip_hi]
    · rcases hb' with ⟨rfl,rfl⟩ | ⟨j,rfl,rfl⟩
      · rw [clip_lo,idx_hi]
      · rw [clip_lo,clip_hi]
  have key:∀l u:Option (Int×Tok),vl = partValue l→vu = partValue u→l.map (·.1) = lo→u.map (·.1) = hi→wpAny (model X.prog X.w) X.A (getItem (.str z t) (.ref sl)) (EP X pins σ Q) X.xe s:=by
    intro l u e1 e2 e3 e4
    subst e1 e2
    obtain⟨o,ho,hc,hd⟩:=hs
    refine wpAny_getItem_str_slice (l:=l) (u:=u) (st:=none) ⟨o,ho,hc,hd⟩ rfl ?_
    have hp:((slicePicked z l u none).filterMap (z.cps[·]?)) = (z.cps.toList.drop a).take (b - a):=by
      unfold slicePicked
      rw [e3,e4]
      show (strSliceIndices lo hi 1 z.length).filterMap _ = _
      rw [eix]
      exact StrLaws.sliced_plain z hab hb
    have hl:(slicePicked z l u none).length = b - a:=by
      unfold slicePicked
      rw [e3,e4]
      show (strSliceIndices lo hi 1 z.length).length = _
      rw [eix,StrLaws.strSliceIndices_plain hab hb];simp
    unfold sliceMade
    split
    · rename_i hw
      have hw2:(slicePicked z l u none).length = z.length:=by
        simp only [Bool.and_eq_true,beq_iff_eq] at hw
        exact hw.2
      rw [hl] at hw2
      have a0:a = 0:=by omega
      have b0:b = z.length:=by omega
      have ez:txt ((z.cps.toList.drop a).take (b - a)) = z:=by
        rw [a0,b0,List.drop_zero,List.take_of_length_le (by simp [PySem.Str.length]),txt_of]
      rw [ez] at q
      exact⟨.str z,H,I,⟨_,rfl⟩,q⟩
    · rw [hp]
      refine⟨?_,⟨.str _,H,I.tok _,⟨_,rfl⟩,q⟩⟩
      have:((z.cps.toList.drop a).take (b - a)).length≤b - a:=List.length_take_le ..
      show (((z.cps.toList.drop a).take (b - a)).toArray).size≤sizeLine
      rw [List.size_toArray]
      omega
  cases pl with
  | none=>
    cases pu with
    | none=>exact key none none rfl rfl rfl rfl
    | int j u=>exact key none (some (j,u)) rfl rfl rfl rfl
  | int i u=>
    cases pu with
    | none=>exact key (some (i,u)) none rfl rfl rfl rfl
    | int j u'=>exact key (some (i,u)) (some (j,u')) rfl rfl rfl rfl
def mNotInS:R2:=fun x y H Q=>vS x fun i=>vS y fun j=>Q (.bl (!(!(Builtin.Str.occurrences j i 0 j.length 1).isEmpty))) H
theorem z_notInS:OpR X (compareOp .NotIn) mNotInS:=op_notin_str.imp fun x y H Q h=>by
  obtain⟨i,rfl,h1⟩:=vS.ex h
  obtain⟨j,rfl,q⟩:=vS.ex h1
  exact⟨i,j,rfl,rfl,q⟩
def mMulS:R2:=fun x y H Q=>vS x fun z=>vI y fun n=>MulOk z n∧Q (.str (Txt.mul z n)) H
theorem z_mulS:OpR X (binaryOp .Mult) mMulS:=by
  intro pins s σ H x y v u Q I rx ry h
  obtain⟨z,rfl,h⟩:=vS.ex h
  obtain⟨n,rfl,h1,q⟩:=vI.ex h
  obtain⟨t,rfl⟩:=(show ∃t,v = Value.str z t from rx)
  obtain⟨t2,rfl⟩:=(show ∃t,u = Value.int n t from ry)
  exact SB.mul h1 fun t' k=>⟨.str _,H,I.tok k,⟨_,rfl⟩,q⟩
theorem for_text {z:Str} {g:TG} {tb:TS} {D:Ends} {σ:St} {H:Hp} (Pv:Nat→St→Hp→Prop) (h0:Pv 0 σ H)
    (hs:∀i c σ H,z.cps[i]? = some c→Pv i σ H→g (.str ⟨#[c]⟩) σ H fun σ2 H2=>tb { D with nx:=Pv (i + 1),ct:=Pv (i + 1),bk:=D.nx } σ2 H2) (hd:∀σ H,Pv z.cps.size σ H→D.nx σ H) :
    ∃ W:Nat→Nat→St→Hp→Prop,(∃m,W 0 m σ H)∧∀i m σ H,W i m σ H→
      ((Its z).stop i H∧D.nx σ H)∨((Its z).go i H∧∃N:St→Hp→Prop,(∀σ' H',N σ' H'→∃m',m' < m∧W (i + 1) m' σ' H')∧∀x H',(Its z).yld i H x H'→g x σ H' fun σ2 H2=>tb { D with nx:=N,ct:=N,bk:=D.nx } σ2 H2):=by
  refine⟨fun i m σ H=>m = z.cps.size - i∧i≤z.cps.size∧Pv i σ H,⟨z.cps.size,by simp,Nat.zero_le _,h0⟩,?_⟩
  rintro i m σ H ⟨rfl,hi,p⟩
  by_cases hlt:i < z.cps.size
  · refine .inr ⟨hlt,Pv (i + 1),fun σ' H' p'=>⟨z.cps.size - (i + 1),by omega,rfl,hlt,p'⟩,fun x H' y=>?_⟩
    obtain⟨e,c,hc,y⟩:=y
    subst e y
    exact hs i c σ _ hc p
  · have e:i = z.cps.size:=by omega
    subst e
    exact .inl ⟨Nat.le_refl _,hd σ H p⟩
end
end L2
namespace Bm
def bitI (n j:Nat):Int:=if n.testBit j then 1 else 0
def bitsI (n m:Nat):List Int:=(List.range m).map fun i=>bitI n (m - 1 - i)
def numI (bs:List Int):Int:=bs.foldl (fun x b=>x * 2 + b) 0
def Bits (bs:List Int):Prop:=∀b∈bs,b = 0∨b = 1
def left (n m k:Nat):Int:=((n / 2 ^ (m - k) * 2 ^ (m - k):Nat):Int)
end Bm
namespace My
open PySem L2
def top (i:Nat):Stmt:=PySem.Challenge.pw_bitrail_k81_strips_read.main.body.getD i (.Pass ⟨0,0,0,0⟩)
abbrev s_turn_of:Stmt:=top 17
abbrev s_signs_of:Stmt:=top 18
abbrev s_read_strips:Stmt:=top 16
abbrev s__law_draw:Stmt:=top 20
abbrev s__law_figures:Stmt:=top 21
abbrev s__law_due:Stmt:=top 24
abbrev s__law_is_told:Stmt:=top 25
abbrev s__law_good:Stmt:=top 22
abbrev s__law_spoiled:Stmt:=top 23
abbrev s_law:Stmt:=top 26
def spCellAt (K:PySem.W.Frag):Sp:=fun vs H Q _=>∃(a:Addr) (ns:List Int) (k:Nat),vs = [.ref a,.int k]∧SqL K H a (ns.map V.int)∧∀z:Int,Q (.int z) H
theorem same_new {H:Hp} {p:Addr} (h:H p = none) (o:HO):Same H (upd H p o):=fun b u q=>by rw [upd_ne (ne_of_none q h)];exact q
theorem small {n:Nat} (h:n≤1000):n≤sizeLine:=Nat.le_of_lt (small1000 h)
theorem small_lit {n:Nat} (h:decide (n≤1000) = true):n≤sizeLine:=small (of_decide_eq_true h)
theorem kit_self {K:PySem.W.Frag} {t:Value}:PySem.W.kitOne K t t = some true:=by
  unfold PySem.W.kitOne
  rw [if_pos (beq_self_eq_true t)]
theorem _root_.L2.Same.put {H H':Hp} {p:Addr} {o:HO} (g:Same H H') (h:H p = none):Same H (upd H' p o):=fun b u q=>by rw [upd_ne (ne_of_none q h)];exact g b u q
theorem _root_.L2.Same.none {H H':Hp} {x:Addr} (g:Same H H') (h:H' x = none):H x = none:=by
  cases e:H x with
  | none=>rfl
  | some o=>rw [g x o e] at h;cases h
open Bm
def fg:Nat→Nat→List Nat
  | 0,_=>[]
  | k + 1,n=>fg k (n / 10) ++ [48 + n % 10]
theorem fg_len:∀k n,(fg k n).length = k
  | 0,_=>rfl
  | k + 1,n=>by show (fg k (n / 10) ++ [_]).length = _;rw [List.length_append,fg_len k];rfl
theorem fg_dig:∀k n,∀c∈fg k n,48≤c∧c≤57
  | 0,_,_,h=>by cases h
  | k + 1,n,c,h=>by
    rcases List.mem_append.mp h with z | z
    · exact fg_dig k _ c z
    · rw [List.mem_singleton.mp z];omega
theorem fg_front:∀k n,fg (k + 1) n = (48 + n / 10 ^ k % 10) :: fg k n
  | 0,n=>by show [] ++ [48 + n % 10] = [48 + n / 10 ^ 0 % 10];rw [Nat.pow_zero,Nat.div_one];rfl
  | k + 1,n=>by
    show fg (k + 1) (n / 10) ++ [48 + n % 10] = _ :: (fg k (n / 10) ++ [48 + n % 10])
    rw [fg_front k (n / 10),Nat.div_div_eq_div_mul,←Nat.pow_succ']
    rfl
abbrev dgs (m:Nat):List Nat:=(Nat.toDigits 10 m).map Char.toNat
def sgn (b:Int):Nat:=if b = 0 then 95 else 45
def stl (n:Nat) (bs:List Int):List Nat:=fg 6 n ++ [32] ++ bs.map sgn
abbrev pcs (bs:List Int) (i:Nat):List Int:=(bs.drop (40 * i)).take 40
def nS (bs:List Int):Nat:=(bs.length + 39) / 40
def stps (f:Nat) (bs:List Int):List Str:=(List.range (nS bs)).map fun i=>txt (stl (f + 40 * i) (pcs bs i))
theorem join1 {ls:List (List Nat)} (h:∀l∈ls,l.length = 1) (hl:ls.length≤450):JoinOk (txt []) (ls.map txt) = true:=by
  unfold JoinOk
  rw [StrLaws.joinFits (B:=1)]
  · rfl
  · intro y hy
    obtain⟨l,hl2,rfl⟩:=List.mem_map.mp hy
    rw [txt_len,h l hl2];exact Nat.le_refl _
  · rw [List.length_map,txt_len]
    simp only [List.length_nil,Nat.mul_zero,Nat.add_zero,Nat.mul_one]
    omega
theorem flat_sgn (bs:List Int):(bs.map fun b=>[sgn b]).flatten = bs.map sgn:=by
  induction bs with
  | nil=>rfl
  | cons a r ih=>rw [List.map_cons,List.flatten_cons,ih];rfl
def spStripOf (K:PySem.W.Frag):Sp:=fun vs H Q _=>∃(a:Addr) (bs:List Int) (n:Nat),vs = [.ref a,.int ((n:Nat):Int)]∧SqL K H a (bs.map V.int)∧Bits bs∧bs.length≤40∧n < 10 ^ 6∧∀H',Same H H'→Q (.str (txt (stl n bs))) H'
def spStrips (K:PySem.W.Frag):Sp:=fun vs H Q _=>∃(a:Addr) (bs:List Int) (f:Nat),vs = [.ref a,.int ((f:Nat):Int)]∧SqL K H a (bs.map V.int)∧Bits bs∧bs.length≤2000∧f≤20000∧∀p H',H p = none→Same H H'→H' p = some (.lst ((stps f bs).map V.str))→Q (.ref p) H'
theorem szl {n:Nat} (h:n≤9000):n≤sizeLine:=Nat.le_trans h (by decide)
theorem szl1 {n:Nat} (h:n≤9000):n < sizeLine:=Nat.lt_of_le_of_lt h (by decide)
theorem stl_len (n:Nat) (bs:List Int):(stl n bs).length = 7 + bs.length:=by unfold stl;rw [List.length_append,List.length_append,fg_len,List.length_map];rfl
theorem stl_six (n:Nat) (bs:List Int):(stl n bs).take 6 = fg 6 n:=by unfold stl;rw [List.append_assoc,List.take_append_of_le_length (by rw [fg_len];exact Nat.le_refl _),List.take_of_length_le (by rw [fg_len];exact Nat.le_refl _)]
theorem stl_blank (n:Nat) (bs:List Int):((stl n bs).drop 6).take 1 = [32]:=by
  have e:stl n bs = fg 6 n ++ (32 :: bs.map sgn):=by unfold stl;rw [List.append_assoc];rfl
  rw [e,List.drop_left' (fg_len 6 n)]
  rfl
theorem stl_signs (n:Nat) (bs:List Int):(stl n bs).drop 7 = bs.map sgn:=by
  unfold stl
  exact List.drop_left' (by rw [List.length_append,fg_len];rfl)
theorem val_fg : ∀ k n,n < 10 ^ k→PySem.NumText.digitsVal (fg k n) = n
  | 0, n, h => by have:n = 0:=by omega
                  rw [this];rfl
  | k + 1,n,h=>by
    show PySem.NumText.digitsVal (fg k (n / 10) ++ [48 + n % 10]) = n
    have h1:n / 10 < 10 ^ k:=by
      rw [Nat.pow_succ] at h
      exact Nat.div_lt_of_lt_mul (by rw [Nat.mul_comm];exact h)
    rw [PySem.NumText.digitsVal_snoc,val_fg k _ h1]
    omega
theorem dig_in {c:Nat} (h:48≤c∧c≤57):(!(Builtin.Str.occurrences ("0123456789":Str) (⟨#[c]⟩:Str) 0 ("0123456789":Str).length 1).isEmpty) = true:=by
  have:c = 48∨c = 49∨c = 50∨c = 51∨c = 52∨c = 53∨c = 54∨c = 55∨c = 56∨c = 57:=by omega
  rcases this with rfl | rfl | rfl | rfl | rfl | rfl | rfl | rfl | rfl | rfl <;> decide +kernel
theorem sgn_in (b:Int):(!(Builtin.Str.occurrences ("_-":Str) (⟨#[sgn b]⟩:Str) 0 ("_-":Str).length 1).isEmpty) = true:=by
  unfold sgn
  split <;> decide +kernel
def spTurnOf:Sp:=fun vs H Q _=>∃(n:Nat) (bs:List Int),vs = [.str (txt (stl n bs))]∧n < 10 ^ 6∧bs.length≤40∧∀H',Same H H'→Q (.int ((n:Nat):Int)) H'
def spSignsOf:Sp:=fun vs H Q _=>∃(n:Nat) (bs:List Int),vs = [.str (txt (stl n bs))]∧1≤bs.length∧bs.length≤40∧∀H',Same H H'→Q (.str (txt (bs.map sgn))) H'
def spReadS (K:PySem.W.Frag):Sp:=fun vs H Q _=>∃(a:Addr) (f:Nat) (bs:List Int),vs = [.ref a]∧SqL K H a ((stps f bs).map V.str)∧Bits bs∧bs.length≤2000∧f≤20000∧∀t q_ H',H t = none→H q_ = none→t≠q_→Same H H'→H' t = some (.tup [.int (if bs = [] then 0 else ((f:Nat):Int)),.ref q_])→H' q_ = some (.lst (bs.map V.int))→Q (.ref t) H'
abbrev isD (c:Nat):Prop:=48≤c∧c≤57
abbrev isS (c:Nat):Prop:=c = 95∨c = 45
theorem inD (c:Nat):(!(Builtin.Str.occurrences ("0123456789":Str) (⟨#[c]⟩:Str) 0 ("0123456789":Str).length 1).isEmpty) = decide (isD c):=by
  by_cases h:isD c
  · rw [dig_in h,decide_eq_true h]
  · rw [decide_eq_false h,←Bool.not_eq_true]
    intro z
    obtain⟨i,hi,hs⟩:=(StrLaws.found_iff _ _).mp z
    have hi9:i < 10:=by have:i + 1≤10:=hi;omega
    have hx:("0123456789":Str).cps.extract i (i + 1) = #[48 + i]:=by
      have:∀i:Nat,i < 10→("0123456789":Str).cps.extract i (i + 1) = #[48 + i]:=by decide +kernel
      exact this i hi9
    have h2:(("0123456789":Str).cps.extract i (i + 1) == #[c]) = true:=hs
    rw [hx,beq_iff_eq] at h2
    have:48 + i = c:=by injection h2 with h3;injection h3
    omega
theorem inS (c:Nat):(!(Builtin.Str.occurrences ("_-":Str) (⟨#[c]⟩:Str) 0 ("_-":Str).length 1).isEmpty) = decide (isS c):=by
  by_cases h:isS c
  · rw [decide_eq_true h]
    rcases h with rfl | rfl <;> decide +kernel
  · rw [decide_eq_false h,←Bool.not_eq_true]
    intro z
    obtain⟨i,hi,hs⟩:=(StrLaws.found_iff _ _).mp z
    have hi9:i < 2:=by have:i + 1≤2:=hi;omega
    have hx:∀i:Nat,i < 2→("_-":Str).cps.extract i (i + 1) = #[if i = 0 then 95 else 45]:=by decide +kernel
    have h2:(("_-":Str).cps.extract i (i + 1) == #[c]) = true:=hs
    rw [hx i hi9,beq_iff_eq] at h2
    have:(if i = 0 then 95 else 45) = c:=by injection h2 with h3;injection h3
    refine h ?_
    rw [←this]
    split
    · exact .inl rfl
    · exact .inr rfl
def bt (c:Nat):Int:=if c = 95 then 0 else 1
abbrev vl (l:List Nat):Nat:=PySem.NumText.digitsVal (l.take 6)
abbrev TOk (l:List Nat):Prop:=6≤l.length∧∀c∈l.take 6,isD c
abbrev SOk (l:List Nat):Prop:=(l.drop 6).take 1 = [32]∧(1≤(l.drop 7).length∧(l.drop 7).length≤40)∧∀c∈l.drop 7,isS c
def SGd (T:List (List Nat)) (k:Nat) (l:List Nat):Prop:=TOk l∧vl l = vl (T.headD []) + 40 * k∧SOk l∧(k + 1 < T.length→(l.drop 7).length = 40)
def AllOk (T:List (List Nat)):Prop:=∀k l,T[k]? = some l→SGd T k l
def bT (T:List (List Nat)):List Int:=(T.map fun l=>(l.drop 7).map bt).flatten
abbrev tvs (T:List (List Nat)):List V:=T.map fun l=>V.str (txt l)
theorem take_min {l:List Nat} (k:Nat):(l.drop 0).take (min k l.length - 0) = l.take k:=by
  rw [List.drop_zero,Nat.sub_zero]
  by_cases c:k≤l.length
  · rw [Nat.min_eq_left c]
  · rw [Nat.min_eq_right (by omega),List.take_of_length_le (Nat.le_refl _),List.take_of_length_le (by omega)]
theorem drop_min {l:List Nat} (k:Nat):(l.drop (min k l.length)).take (l.length - min k l.length) = l.drop k:=by
  by_cases c:k≤l.length
  · rw [Nat.min_eq_left c,List.take_of_length_le (by rw [List.length_drop];exact Nat.le_refl _)]
  · rw [Nat.min_eq_right (by omega),Nat.sub_self,List.take_zero,List.drop_of_length_le (by omega)]
theorem one_min {l:List Nat}:(l.drop (min 6 l.length)).take (min 7 l.length - min 6 l.length) = (l.drop 6).take 1:=by
  by_cases c:7≤l.length
  · rw [Nat.min_eq_left c,Nat.min_eq_left (by omega)]
  · rw [Nat.min_eq_right (a:=7) (by omega)]
    have h6:l.length≤6:=by omega
    rw [Nat.min_eq_right h6,Nat.sub_self,List.take_zero,List.drop_of_length_le h6];rfl
theorem int_dig {l:List Nat} (h:TOk l):PySem.intText? (txt (l.take 6)) = some ((vl l:Nat):Int):=by
  have hl:(l.take 6).length = 6:=by rw [List.length_take];have:=h.1;omega
  have e:=PySem.intText_digits (x:=txt (l.take 6)) (by rw [txt_cps];exact h.2) (by rw [txt_cps];intro z;rw [z] at hl;cases hl) (by rw [txt_len,hl];decide)
  rw [txt_cps] at e
  exact e
theorem all_map {p:Nat→Bool} {cs:List Nat}:((cs.map p).all id = true)↔∀c∈cs,p c = true:=by
  rw [List.all_map,List.all_eq_true]
  rfl
def spTurnR (C:Addr):Sp:=fun vs H Q E=>∃l:List Nat,vs = [.str (txt l)]∧l.length≤100∧(TOk l→∀H',Same H H'→Q (.int ((vl l:Nat):Int)) H')∧(¬ TOk l→∀H',Same H H'→E (.ref C) none H')
def spSignsR (C:Addr):Sp:=fun vs H Q E=>∃l:List Nat,vs = [.str (txt l)]∧l.length≤100∧(SOk l→∀H',Same H H'→Q (.str (txt (l.drop 7))) H')∧(¬ SOk l→∀H',Same H H'→E (.ref C) none H')
def spReadR (K:PySem.W.Frag) (C:Addr):Sp:=fun vs H Q E=>∃(a:Addr) (T:List (List Nat)),vs = [.ref a]∧SqL K H a (tvs T)∧T.length≤100∧(∀l∈T,l.length≤100)∧(AllOk T→∀t q_ H',H t = none→H q_ = none→t≠q_→Same H H'→H' t = some (.tup [.int (if T = [] then 0 else ((vl (T.headD []):Nat):Int)),.ref q_])→H' q_ = some (.lst ((bT T).map V.int))→Q (.ref t) H')∧(¬ AllOk T→∀H',Same H H'→E (.ref C) none H')
theorem sg_at {c:Nat} (h:isS c):∃i rest,Builtin.Str.occurrences ("_-":Str) (⟨#[c]⟩:Str) 0 ("_-":Str).length 1 = i :: rest∧((i:Nat):Int) = bt c:=by
  rcases h with rfl | rfl
  · exact⟨0, [],by decide +kernel,rfl⟩
  · exact⟨1, [],by decide +kernel,rfl⟩
theorem dg_at {c:Nat} (h:isD c):∃rest,Builtin.Str.occurrences ("0123456789":Str) (⟨#[c]⟩:Str) 0 ("0123456789":Str).length 1 = (c - 48) :: rest:=by
  have:c = 48∨c = 49∨c = 50∨c = 51∨c = 52∨c = 53∨c = 54∨c = 55∨c = 56∨c = 57:=by omega
  rcases this with rfl | rfl | rfl | rfl | rfl | rfl | rfl | rfl | rfl | rfl <;> exact⟨[],by decide +kernel⟩
theorem bT_succ {T:List (List Nat)} {i:Nat} {l:List Nat} (h:T[i]? = some l):bT (T.take (i + 1)) = bT (T.take i) ++ (l.drop 7).map bt:=by
  obtain⟨hi,e⟩:=List.getElem?_eq_some_iff.mp h
  unfold bT
  rw [List.take_succ_eq_append_getElem hi,e,List.map_append,List.flatten_append]
  simp
theorem bT_len {T:List (List Nat)} (h:∀l∈T,l.length≤100):(bT T).length≤100 * T.length:=by
  induction T with
  | nil=>exact Nat.le_refl _
  | cons a r ih=>
    have h1:=ih fun l hl=>h l (List.mem_cons_of_mem _ hl)
    have h2:=h a List.mem_cons_self
    unfold bT at h1 ⊢
    rw [List.map_cons,List.flatten_cons,List.length_append,List.length_map,List.length_drop,List.length_cons]
    omega
def spDueT (K:PySem.W.Frag):Sp:=fun vs H Q _=>∃(a:Addr) (T:List (List Nat)),vs = [.ref a]∧SqL K H a (tvs T)∧T.length≤100∧(∀l∈T,l.length≤100)∧(AllOk T→∀t q_ H',Same H H'→H' t = some (.tup [.int (if T = [] then 0 else ((vl (T.headD []):Nat):Int)),.ref q_])→H' q_ = some (.lst ((bT T).map V.int))→Q (.ref t) H')∧(¬ AllOk T→∀H',Same H H'→Q .non H')
theorem dig_at {d:Nat} (h:d < 10):atI ("0123456789":Str).cps.toList ((d:Nat):Int) = some (48 + d):=by
  have:∀d:Nat,d < 10→atI ("0123456789":Str).cps.toList ((d:Nat):Int) = some (48 + d):=by decide +kernel
  exact this d h
def spFig:Sp:=fun vs H Q _=>∃n:Nat,vs = [.int ((n:Nat):Int)]∧Q (.str (txt (fg 6 n))) H
theorem drop_one {l:List Nat} {c:Nat} (h:l[6]? = some c):(l.drop 6).take 1 = [c]:=by
  obtain⟨hi,e⟩:=List.getElem?_eq_some_iff.mp h
  rw [List.drop_eq_getElem_cons hi,e]
  rfl
theorem blank {c:Nat}:((⟨#[c]⟩:Str) = (" ":Str))↔c = 32:=by
  constructor
  · intro h
    have:=congrArg (fun z=>z.cps.toList) h
    exact(List.cons.inj this).1
  · rintro rfl;decide +kernel
theorem minus {c:Nat}:((⟨#[c]⟩:Str) = ("-":Str))↔c = 45:=by
  constructor
  · intro h
    have:=congrArg (fun z=>z.cps.toList) h
    exact(List.cons.inj this).1
  · rintro rfl;decide +kernel
theorem dv_lt {cs:List Nat} (h:∀c∈cs,isD c):PySem.NumText.digitsVal cs < 10 ^ cs.length:=by
  have :∀n,∀cs:List Nat,cs.length = n→(∀c∈cs,isD c)→PySem.NumText.digitsVal cs < 10 ^ n:=by
    intro n
    induction n with
    | zero=>intro cs h _;rw [List.eq_nil_of_length_eq_zero h];decide
    | succ n ih=>
      intro cs hl h
      have hne:cs≠ []:=fun z=>by rw [z] at hl;cases hl
      have e:=List.dropLast_concat_getLast hne
      have h1:=ih cs.dropLast (by rw [List.length_dropLast,hl];rfl) fun c hc=>h c ((List.dropLast_sublist cs).subset hc)
      have h2:=h _ (List.getLast_mem hne)
      rw [←e,PySem.NumText.digitsVal_snoc,Nat.pow_succ]
      omega
  exact this _ cs rfl h
abbrev tds (T:List (List Nat)):List PyData:=T.map fun l=>PyData.str (txt l)
theorem DVs.txts {K:PySem.W.Frag} {H:Hp}:∀T:List (List Nat),DVs K H (tvs T) (tds T)
  | []=> .nil
  | n :: r=> .cons (.str _) (DVs.txts r)
theorem shaped_txts {T:List (List Nat)} (h:∀l∈T,∀c∈l,c < 200):SeqAt.shaped (.list (tds T)) = true:=shapedL fun d hd=>by
  obtain⟨l,hl,rfl⟩:=List.mem_map.mp hd
  refine⟨?_,by simp [PyData.depth]⟩
  simp only [PyData.canLay0]
  unfold PyData.strOk
  rw [←Array.all_toList,txt_cps,List.all_eq_true]
  intro c hc
  have:=h l hl c hc
  exact decide_eq_true (by omega)
theorem shaped_back (x:Int) (bs:List Int):SeqAt.shaped (.tuple [.int x,.list (bs.map .int)]) = true:=by
  have h:=lay_ints bs
  have h3:=PySem.W.depthAll_ints bs
  unfold SeqAt.shaped
  rw [Bool.and_eq_true]
  refine⟨?_,decide_eq_true ?_⟩
  · simp only [PyData.canLay0,PyData.canLayAll0,Bool.true_and,Bool.and_true]
    have:=h.1
    simp only [PyData.canLay0] at this
    exact this
  · simp only [PyData.depth,PyData.depthAll]
    omega
def Tx (T:List (List Nat)):Prop:=T.length≤100∧∀l∈T,l.length≤100∧∀c∈l,c < 200
def spTold (K:PySem.W.Frag):Sp:=fun vs H Q _=>∃(a:Addr) (T:List (List Nat)) (v:V),vs = [.ref a,v]∧H a = some (.lst (tvs T))∧Tx T∧((AllOk T∧∃t q_,v = .ref t∧H t = some (.tup [.int (if T = [] then 0 else ((vl (T.headD []):Nat):Int)),.ref q_])∧H q_ = some (.lst ((bT T).map V.int)))∨(¬ AllOk T∧v = .non))∧∀H',Same H H'→Q (.bl true) H'
theorem get_intz {bs:List Int} {i:Nat} {x:V} (hx:(bs.map V.int)[i]? = some x):∃b:Int,x = .int b:=by
  rw [List.getElem?_map] at hx
  cases e:bs[i]? with
  | none=>rw [e] at hx;cases hx
  | some b=>rw [e] at hx;exact⟨b,(Option.some.inj hx).symm⟩
def spGoodT (K:PySem.W.Frag):Sp:=fun vs H Q _=>∃(a:Addr) (ns:List Int),vs = [.ref a]∧SqL K H a (ns.map V.int)∧ns.length≤63∧∀p T H',H p = none→Same H H'→H' p = some (.lst (tvs T))→AllOk T→Tx T→T≠ []→T.length≤49→(∀l∈T,8≤l.length∧l.length≤47)→Q (.ref p) H'
theorem stl_lt {n:Nat} {bs:List Int}:∀c∈stl n bs,c < 200:=fun c hc=>by
  unfold stl at hc
  rcases List.mem_append.mp hc with h | h
  · rcases List.mem_append.mp h with h | h
    · have:=fg_dig 6 _ c h;omega
    · rw [List.mem_singleton.mp h];decide
  · obtain⟨b,_,rfl⟩:=List.mem_map.mp h
    unfold sgn
    split <;> decide
theorem stl_good {n:Nat} {bs:List Int} (hn:n < 10 ^ 6) (h1:1≤bs.length) (h2:bs.length≤40):TOk (stl n bs)∧vl (stl n bs) = n∧SOk (stl n bs)∧((stl n bs).drop 7).length = bs.length:=by
  have sl:=stl_len n bs
  refine⟨⟨by omega,by rw [stl_six];exact fg_dig 6 n⟩,by unfold vl;rw [stl_six];exact val_fg 6 n hn,⟨stl_blank n bs,?_,?_⟩,by rw [stl_signs,List.length_map]⟩
  · rw [stl_signs,List.length_map];exact⟨h1,h2⟩
  · rw [stl_signs]
    intro c hc
    obtain⟨b,_,rfl⟩:=List.mem_map.mp hc
    unfold sgn
    split
    · exact .inl rfl
    · exact .inr rfl
theorem all_good {T:List (List Nat)} {f m:Nat} (hm:T.length = m) (hf:f + 40 * m≤10 ^ 6) (h:∀k l,T[k]? = some l→∃bs:List Int,l = stl (f + 40 * k) bs∧1≤bs.length∧bs.length≤40∧(k + 1 < m→bs.length = 40)):AllOk T:=by
  intro k l hk
  obtain⟨hkl,_⟩:=List.getElem?_eq_some_iff.mp hk
  obtain⟨bs,rfl,h1,h2,h3⟩:=h k l hk
  have e0:vl (T.headD []) = f:=by
    cases T with
    | nil=>cases hkl
    | cons x r=>
      obtain⟨bs0,e,b1,b2,_⟩:=h 0 x rfl
      show vl x = f
      rw [e,(stl_good (n:=f + 40 * 0) (by omega) b1 b2).2.1]
      omega
  obtain⟨g1,g2,g3,g4⟩:=stl_good (n:=f + 40 * k) (bs:=bs) (by omega) h1 h2
  exact⟨g1,by rw [g2,e0],g3,fun z=>by rw [g4];exact h3 (by omega)⟩
def spSpoilT (K:PySem.W.Frag):Sp:=fun vs H Q _=>∃(a p0:Addr) (ns:List Int) (T:List (List Nat)),vs = [.ref a,.ref p0]∧SqL K H a (ns.map V.int)∧ns.length≤63∧H p0 = some (.lst (tvs T))∧AllOk T∧Tx T∧T≠ []∧T.length≤49∧(∀l∈T,8≤l.length∧l.length≤47)∧∀p T' H',Same H H'→H' p = some (.lst (tvs T'))→Tx T'→Q (.ref p) H'
theorem Tx.set {T:List (List Nat)} (h:Tx T) {i:Nat} {l:List Nat} (h1:l.length≤100) (h2:∀c∈l,c < 200):Tx (T.set i l):=by
  refine⟨by rw [List.length_set];exact h.1,fun x hx=>?_⟩
  rcases List.mem_or_eq_of_mem_set hx with h3 | rfl
  · exact h.2 x h3
  · exact⟨h1,h2⟩
theorem tvs_set {T:List (List Nat)} {i:Nat} {l:List Nat}:(tvs T).set i (.str (txt l)) = tvs (T.set i l):=by
  unfold tvs
  rw [List.map_set]
theorem at_map {T:List (List Nat)} {i:Nat} {l:List Nat} (h:T[i]? = some l):atI (tvs T) ((i:Nat):Int) = some (.str (txt l)):=by
  exact atI_nat (by rw [List.getElem?_map,h];rfl)
theorem sg20 (d:Int) (h0:0≤d) (h1:d < 20):∃c,atI ("_-0123456789 +.a=~\n|":Str).cps.toList d = some c∧c < 200:=by
  obtain⟨d,rfl⟩:=Int.eq_ofNat_of_zero_le h0
  have:∀d:Nat,d < 20→∃c,atI ("_-0123456789 +.a=~\n|":Str).cps.toList ((d:Nat):Int) = some c∧c < 200:=by
    intro d hd
    have h:∀d:Nat,d < 20→(atI ("_-0123456789 +.a=~\n|":Str).cps.toList ((d:Nat):Int)).any (fun c=>decide (c < 200)) = true:=by decide +kernel
    have h2:=h d hd
    rw [Option.any_eq_true_iff_get] at h2
    obtain⟨h3,h4⟩:=h2
    exact⟨_,(Option.some_get h3).symm,of_decide_eq_true h4⟩
  exact this d (by omega)
theorem ixN_nat {n i:Nat} (h:i < n):ixN n ((i:Nat):Int) = some i:=by
  unfold ixN
  rw [if_pos (by omega),if_pos (by omega),Int.toNat_natCast]
theorem tvs_erase:∀(T:List (List Nat)) (i:Nat),(tvs T).eraseIdx i = tvs (T.eraseIdx i)
  | [],_=>rfl
  | _ :: _,0=>rfl
  | a :: r,i + 1=>congrArg (V.str (txt a) :: ·) (tvs_erase r i)
theorem mul3 (z:Int) (h0:0≤z) (h1:z < 3):∃n:Nat,n≤3∧MulOk (PySem.Str.ofString "_") (1 + z)∧Txt.mul (PySem.Str.ofString "_") (1 + z) = txt (List.replicate n 95):=by
  have:z = 0∨z = 1∨z = 2:=by omega
  rcases this with rfl | rfl | rfl
  · exact⟨1,by decide,by unfold MulOk;decide +kernel,by decide +kernel⟩
  · exact⟨2,by decide,by unfold MulOk;decide +kernel,by decide +kernel⟩
  · exact⟨3,by decide,by unfold MulOk;decide +kernel,by decide +kernel⟩
theorem fg_lt {k n:Nat}:∀c∈fg k n,c < 200:=fun c hc=>by have:=fg_dig k n c hc;omega
section
variable {P:Program} {w:World} {K:PySem.W.Frag} {mg:Str→Option Value} {base:Heap}
theorem sc_turn_of:FnScope ["strip","figures"] ["strip"] (defScope s_turn_of):=⟨rfl,rfl,rfl,by decide +kernel,rfl,by decide +kernel,by decide +kernel⟩
set_option maxHeartbeats 4000000 in
theorem ok_turn_of {a_turn_of:Addr} {d_turn_of:FuncData} {a_NoStrip:Addr} {t_FIGURES:Tok} (F_turn_of:Fun K "turn_of" "turn_of" s_turn_of a_turn_of d_turn_of) (m_FIGURES:mg "FIGURES" = some (.int 6 t_FIGURES)) (m_all:mg "all" = none) (m_len:mg "len" = none) (m_NoStrip:mg "NoStrip" = some (.ref a_NoStrip)) (fact_exc_NoStrip:PySem.W.excIn K a_NoStrip [.type "ValueError",.type "Exception",.type "BaseException",.type "object"] "ValueError.__new__" = true) (m_int:mg "int" = none) :
    FnOk P w K mg base (CXR P w) 1 a_turn_of d_turn_of ["strip"] (spTurnR a_NoStrip):=by
  refine F_turn_of.okR sc_turn_of (fun vs H Q E h=>?_) (fun cdv A outer s H vs Q E hr h=>?_)
  · obtain⟨l,rfl,_⟩:=h
    rfl
  obtain⟨l,rfl,hl,q1,q2⟩:=h
  have nd:=sc_turn_of.nd
  refine⟨_,(pss_cons (ps_set (i:=1) nd rfl (Or.inl rfl) (pe_slice z_slG (dv 0) po_none (md_part (pe_glob (v:= .int 6) rfl m_FIGURES ⟨_,rfl⟩)))) (pss_cons (ps_if (PW.pt (pw_or (md_cmp z_lt (pe_callB z_lenS rfl m_len bt_len (pa_cons (dv 1) pa_nil)) (pe_glob (v:= .int 6) rfl m_FIGURES ⟨_,rfl⟩) (nomark _)) (pw_or1 (pt_not (md_val (pe_callB (z_all rfl) rfl m_all bt_all (pa_cons (pe_comp rfl (ix:=[]) (mi_textA (dv 1)) (fun C fp s0 H0 at0=>pts_nil) (fun C fp s0 H0 at0=>(pe_cmpR z_inS (dv 0) pe_str rfl)) rfl rfl (by rfl) (show ([".0","sign"]:List Str).Nodup by decide +kernel)) pa_nil))))))) (pss_one (ps_raise F.excBase_ValueError m_NoStrip fact_exc_NoStrip (pa_cons pe_str pa_nil))) pss_nil) (pss_one (ps_ret (pe_callTy z_intS rfl m_int bt_int (pa_cons (dv 1) pa_nil)))))),?_⟩
  refine⟨0,min 6 l.length,⟨Nat.zero_le _,by rw [txt_len];omega,by rw [txt_len];exact szl (by omega)⟩,.inl ⟨rfl,rfl⟩,.inr ⟨6,rfl,by rw [txt_len]⟩,?_⟩
  rw [txt_cps,take_min]
  refine⟨by rw [txt_len,List.length_take];exact szl (by omega),?_⟩
  obtain⟨L,hL⟩:∃L,L = (txt (l.take 6)).length:=⟨_,rfl⟩
  have hL6:L = min 6 l.length:=by rw [hL,txt_len,List.length_take]
  rw [←hL]
  conv=>whnf
  refine ite2 (fun c=>?_) (fun c=>?_)
  · have c1:((L:Nat):Int) < 6:=dec_true c
    exact⟨small_lit rfl,q2 (fun z=>by have:=z.1;omega) _ (Same.refl _)⟩
  have c1:¬ ((L:Nat):Int) < 6:=dec_false c
  refine⟨trivial,comp_text (z:=txt (l.take 6)) (fun i ys H'=>ys = (((l.take 6).take i).map fun c=>decide (isD c)).map V.bl∧H' = H) ?_ ⟨rfl,rfl⟩ ?_ ?_⟩
  · rintro i ys H' hi ⟨rfl,_⟩
    refine szl1 ?_
    have h1_:=List.length_take_le i (l.take 6)
    rw [List.length_map,List.length_map]
    have h2_:(l.take 6).length≤100:=by first | (rw [List.length_take];omega) | (rw [List.length_drop];omega)
    have h3_:((l.take 6).take i).length≤(l.take 6).length:=by rw [List.length_take];omega
    omega
  · rintro i c ys H' hc ⟨rfl,rfl⟩
    have hc':(l.take 6)[i]? = some c:=by
      have:((l.take 6).toArray)[i]? = some c:=hc
      rwa [List.getElem?_toArray] at this
    obtain⟨hi,hci⟩:=List.getElem?_eq_some_iff.mp hc'
    refine⟨?_,rfl⟩
    have e:=inD c
    rw [e,List.take_succ_eq_append_getElem hi,hci,List.map_append,List.map_append]
    rfl
  rintro ys H' ⟨rfl,rfl⟩ pz hpz
  have esz:(txt (l.take 6)).cps.size = (l.take 6).length:=by show ((l.take 6).toArray).size = _;rw [List.size_toArray]
  rw [esz,List.take_of_length_le (Nat.le_refl _)]
  refine⟨(l.take 6).map fun c=>decide (isD c),SqL.of upd_same,?_⟩
  by_cases z:∀c∈l.take 6,isD c
  · have ok:TOk l:=⟨by omega,z⟩
    rw [show ((l.take 6).map fun c=>decide (isD c)).all id = true from all_map.mpr fun c hc=>decide_eq_true (z c hc)]
    conv=>whnf
    refine⟨_,int_dig ok,by rw [←hL];omega,?_⟩
    exact q1 ok _ (same_new hpz _)
  · rw [show ((l.take 6).map fun c=>decide (isD c)).all id = false from by
      rw [←Bool.not_eq_true]
      intro y
      exact z fun c hc=>of_decide_eq_true (all_map.mp y c hc)]
    conv=>whnf
    exact⟨small_lit rfl,q2 (fun y=>z y.2) _ (same_new hpz _)⟩
theorem sc_signs_of:FnScope ["strip","signs"] ["strip"] (defScope s_signs_of):=⟨rfl,rfl,rfl,by decide +kernel,rfl,by decide +kernel,by decide +kernel⟩
set_option maxHeartbeats 4000000 in
theorem ok_signs_of {a_signs_of:Addr} {d_signs_of:FuncData} {a_NoStrip:Addr} {t_FIGURES:Tok} {t_STRIP_BITS:Tok} {t_SIGNS:Tok} (F_signs_of:Fun K "signs_of" "signs_of" s_signs_of a_signs_of d_signs_of) (m_FIGURES:mg "FIGURES" = some (.int 6 t_FIGURES)) (m_NoStrip:mg "NoStrip" = some (.ref a_NoStrip)) (fact_exc_NoStrip:PySem.W.excIn K a_NoStrip [.type "ValueError",.type "Exception",.type "BaseException",.type "object"] "ValueError.__new__" = true) (m_len:mg "len" = none) (m_STRIP_BITS:mg "STRIP_BITS" = some (.int 40 t_STRIP_BITS)) (m_all:mg "all" = none) (m_SIGNS:mg "SIGNS" = some (.str "_-" t_SIGNS)) :
    FnOk P w K mg base (CXR P w) 1 a_signs_of d_signs_of ["strip"] (spSignsR a_NoStrip):=by
  refine F_signs_of.okR sc_signs_of (fun vs H Q E h=>?_) (fun cdv A outer s H vs Q E hr h=>?_)
  · obtain⟨l,rfl,_⟩:=h
    rfl
  obtain⟨l,rfl,hl,q1,q2⟩:=h
  have nd:=sc_signs_of.nd
  refine⟨_,(pss_cons (ps_if (md_cmp z_ne (pe_slice z_slG (dv 0) (md_part (pe_glob (v:= .int 6) rfl m_FIGURES ⟨_,rfl⟩)) (md_part (pe_op z_add (pe_glob (v:= .int 6) rfl m_FIGURES ⟨_,rfl⟩) pe_int))) pe_str (nomark _)) (pss_one (ps_raise F.excBase_ValueError m_NoStrip fact_exc_NoStrip (pa_cons pe_str pa_nil))) pss_nil) (pss_cons (ps_set (i:=1) nd rfl (Or.inl rfl) (pe_slice z_slG (dv 0) (md_part (pe_op z_add (pe_glob (v:= .int 6) rfl m_FIGURES ⟨_,rfl⟩) pe_int)) po_none)) (pss_cons (ps_if (pt_not (mt_chain z_le z_le pe_int (pe_callB z_lenS rfl m_len bt_len (pa_cons (dv 1) pa_nil)) (pe_glob (v:= .int 40) rfl m_STRIP_BITS ⟨_,rfl⟩))) (pss_one (ps_raise F.excBase_ValueError m_NoStrip fact_exc_NoStrip (pa_cons pe_str pa_nil))) pss_nil) (pss_cons (ps_if (pt_not (md_val (pe_callB (z_all rfl) rfl m_all bt_all (pa_cons (pe_comp rfl (ix:=[]) (mi_textA (dv 1)) (fun C fp s0 H0 at0=>pts_nil) (fun C fp s0 H0 at0=>(pe_cmpR z_inS (dv 0) (pe_glob (v:= .str "_-") rfl m_SIGNS ⟨_,rfl⟩) rfl)) rfl rfl (by rfl) (show ([".0","sign"]:List Str).Nodup by decide +kernel)) pa_nil)))) (pss_one (ps_raise F.excBase_ValueError m_NoStrip fact_exc_NoStrip (pa_cons pe_str pa_nil))) pss_nil) (pss_one (ps_ret (dv 1))))))),?_⟩
  refine⟨min 6 l.length,min 7 l.length,⟨by omega,by rw [txt_len];omega,by rw [txt_len];exact szl (by omega)⟩,.inr ⟨6,rfl,by rw [txt_len]⟩,.inr ⟨7,rfl,by rw [txt_len]⟩,?_⟩
  rw [txt_cps,one_min]
  obtain⟨u,hu⟩:∃u,u = (l.drop 6).take 1:=⟨_,rfl⟩
  rw [←hu]
  conv=>whnf
  refine ite2 (fun c=>?_) (fun c=>?_)
  · have c1:(!decide (txt u = (" ":Str))) = true:=c
    refine⟨small_lit rfl,q2 (fun z=>?_) _ (Same.refl _)⟩
    rw [hu,z.1,decide_eq_true (show txt [32] = (" ":Str) by decide +kernel)] at c1
    cases c1
  have hu32:u = [32]:=by
    have c1:¬ (!decide (txt u = (" ":Str))) = true:=c
    have c2:txt u = (" ":Str):=by
      by_cases y:txt u = (" ":Str)
      · exact y
      · rw [decide_eq_false y] at c1;exact absurd rfl c1
    have c3:=congrArg (fun z=>z.cps.toList) c2
    rw [show (txt u).cps.toList = u from txt_cps u] at c3
    exact c3
  refine⟨min 7 l.length,l.length,⟨by omega,by rw [txt_len];exact Nat.le_refl _,by rw [txt_len];exact szl (by omega)⟩,.inr ⟨7,rfl,by rw [txt_len]⟩,.inl ⟨rfl,by rw [txt_len]⟩,?_⟩
  rw [txt_cps,drop_min]
  refine⟨by rw [txt_len,List.length_drop];exact szl (by omega),?_⟩
  obtain⟨L,hL⟩:∃L,L = (txt (l.drop 7)).length:=⟨_,rfl⟩
  have hL6:L = (l.drop 7).length:=by rw [hL,txt_len]
  rw [←hL]
  conv=>whnf
  refine ite2 (fun c=>?_) (fun c=>⟨small_lit rfl,q2 (fun z=>by have h_:=z.2.1.1;have c1:¬ (1:Int)≤((L:Nat):Int):=dec_false c;omega) _ (Same.refl _)⟩)
  have c1:(1:Int)≤((L:Nat):Int):=dec_true c
  conv=>whnf
  refine ite2 (fun c2=>?_) (fun c2=>?_)
  · have c3:(!decide (((L:Nat):Int)≤40)) = true:=c2
    refine⟨small_lit rfl,q2 (fun z=>?_) _ (Same.refl _)⟩
    rw [decide_eq_true (by have:=z.2.1.2;omega)] at c3
    cases c3
  have c3:((L:Nat):Int)≤40:=by
    by_cases y:((L:Nat):Int)≤40
    · exact y
    · exact absurd (show (!decide (((L:Nat):Int)≤40)) = true by rw [decide_eq_false y];rfl) c2
  refine⟨trivial,comp_text (z:=txt (l.drop 7)) (fun i ys H'=>ys = (((l.drop 7).take i).map fun c=>decide (isS c)).map V.bl∧H' = H) ?_ ⟨rfl,rfl⟩ ?_ ?_⟩
  · rintro i ys H' hi ⟨rfl,_⟩
    refine szl1 ?_
    have h1_:=List.length_take_le i (l.drop 7)
    rw [List.length_map,List.length_map]
    have h2_:(l.drop 7).length≤100:=by first | (rw [List.length_take];omega) | (rw [List.length_drop];omega)
    have h3_:((l.drop 7).take i).length≤(l.drop 7).length:=by rw [List.length_take];omega
    omega
  · rintro i c ys H' hc ⟨rfl,rfl⟩
    have hc':(l.drop 7)[i]? = some c:=by
      have:((l.drop 7).toArray)[i]? = some c:=hc
      rwa [List.getElem?_toArray] at this
    obtain⟨hi,hci⟩:=List.getElem?_eq_some_iff.mp hc'
    refine⟨?_,rfl⟩
    have e:=inS c
    rw [e,List.take_succ_eq_append_getElem hi,hci,List.map_append,List.map_append]
    rfl
  rintro ys H' ⟨rfl,rfl⟩ pz hpz
  have esz:(txt (l.drop 7)).cps.size = (l.drop 7).length:=by show ((l.drop 7).toArray).size = _;rw [List.size_toArray]
  rw [esz,List.take_of_length_le (Nat.le_refl _)]
  refine⟨(l.drop 7).map fun c=>decide (isS c),SqL.of upd_same,?_⟩
  by_cases z:∀c∈l.drop 7,isS c
  · have ok:SOk l:=⟨by rw [←hu];exact hu32,⟨by omega,by omega⟩,z⟩
    rw [show ((l.drop 7).map fun c=>decide (isS c)).all id = true from all_map.mpr fun c hc=>decide_eq_true (z c hc)]
    conv=>whnf
    exact q1 ok _ (same_new hpz _)
  · rw [show ((l.drop 7).map fun c=>decide (isS c)).all id = false from by
      rw [←Bool.not_eq_true]
      intro y
      exact z fun c hc=>of_decide_eq_true (all_map.mp y c hc)]
    conv=>whnf
    exact⟨small_lit rfl,q2 (fun y=>z y.2.2) _ (same_new hpz _)⟩
theorem sc_read_strips:FnScope ["some","first","bits","number","strip","signs"] ["some"] (defScope s_read_strips):=⟨rfl,rfl,rfl,by decide +kernel,rfl,by decide +kernel,by decide +kernel⟩
set_option maxHeartbeats 4000000 in
theorem ok_read_strips {a_read_strips:Addr} {d_read_strips:FuncData} {a_turn_of:Addr} {d_turn_of:FuncData} {a_signs_of:Addr} {d_signs_of:FuncData} {a_NoStrip:Addr} {t_STRIP_BITS:Tok} {t_SIGNS:Tok} (F_read_strips:Fun K "read_strips" "read_strips" s_read_strips a_read_strips d_read_strips) (m_len:mg "len" = none) (m_enumerate:mg "enumerate" = none) (m_STRIP_BITS:mg "STRIP_BITS" = some (.int 40 t_STRIP_BITS)) (m_NoStrip:mg "NoStrip" = some (.ref a_NoStrip)) (fact_exc_NoStrip:PySem.W.excIn K a_NoStrip [.type "ValueError",.type "Exception",.type "BaseException",.type "object"] "ValueError.__new__" = true) (m_SIGNS:mg "SIGNS" = some (.str "_-" t_SIGNS)) (G_turn_of:FnOk P w K mg base (CXR P w) 1 a_turn_of d_turn_of ["strip"] (spTurnR a_NoStrip)) (b_turn_of:Binds K d_turn_of ["strip"] []) (k_turn_of:PySem.W.keepIn K (.ref a_turn_of) = true) (m_turn_of:mg "turn_of" = some (.ref a_turn_of)) (G_signs_of:FnOk P w K mg base (CXR P w) 1 a_signs_of d_signs_of ["strip"] (spSignsR a_NoStrip)) (b_signs_of:Binds K d_signs_of ["strip"] []) (k_signs_of:PySem.W.keepIn K (.ref a_signs_of) = true) (m_signs_of:mg "signs_of" = some (.ref a_signs_of)) :
    FnOk P w K mg base (CXR P w) 2 a_read_strips d_read_strips ["some"] (spReadR K a_NoStrip):=by
  refine F_read_strips.okR sc_read_strips (fun vs H Q E h=>?_) (fun cdv A outer s H vs Q E hr h=>?_)
  · obtain⟨a,T,rfl,_⟩:=h
    rfl
  obtain⟨a,T,rfl,hS,hT,hlen,q1,q2⟩:=h
  have nd:=sc_read_strips.nd
  refine⟨_,(pss_cons (ps_if (md_cmp z_eq (pe_callB z_len rfl m_len bt_len (pa_cons (dv 0) pa_nil)) pe_int (nomark _)) (pss_one (ps_ret (pe_tup (pa_cons pe_int (pa_cons (pe_lst pa_nil) pa_nil))))) pss_nil) (pss_cons (ps_set (i:=1) nd rfl (Or.inl rfl) (pe_call G_turn_of (hr.mono (by decide)) rfl m_turn_of k_turn_of b_turn_of .nil (passR fun _ _ _ z=>z) (pa_cons (pe_ix z_ixL (dv 0) pe_int (fun _ _=>rfl)) pa_nil))) (pss_cons (ps_set (i:=2) nd rfl (Or.inl rfl) (pe_lst pa_nil)) (pss_cons (ps_for PassesOwn.leaving rfl (mi_enum rfl m_enumerate (pa_cons (dv 0) pa_nil)) (mg2 (pg_tup rfl (pgs_cons (pg_name (i:=3) nd rfl (Or.inl rfl)) (pgs_cons (pg_name (i:=4) nd rfl (Or.inl rfl)) pgs_nil)))) (pss_cons (ps_if (md_cmp z_ne (pe_call G_turn_of (hr.mono (by decide)) rfl m_turn_of k_turn_of b_turn_of .nil (passR fun _ _ _ z=>z) (pa_cons (dv 4) pa_nil)) (pe_op z_add (dv 1) (pe_op z_mul (pe_glob (v:= .int 40) rfl m_STRIP_BITS ⟨_,rfl⟩) (dv 3))) (nomark _)) (pss_one (ps_raise F.excBase_ValueError m_NoStrip fact_exc_NoStrip (pa_cons pe_str pa_nil))) pss_nil) (pss_cons (ps_set (i:=5) nd rfl (Or.inl rfl) (pe_call G_signs_of (hr.mono (by decide)) rfl m_signs_of k_signs_of b_signs_of .nil (passR fun _ _ _ z=>z) (pa_cons (dv 4) pa_nil))) (pss_cons (ps_cut (ps_if (PW.pt (pw_and (md_cmp z_lt (dv 3) (pe_op z_sub (pe_callB z_len rfl m_len bt_len (pa_cons (dv 0) pa_nil)) pe_int) (nomark _)) (pw_and1 (md_cmp z_ne (pe_callB z_lenS rfl m_len bt_len (pa_cons (dv 5) pa_nil)) (pe_glob (v:= .int 40) rfl m_STRIP_BITS ⟨_,rfl⟩) (nomark _))))) (pss_one (ps_raise F.excBase_ValueError m_NoStrip fact_exc_NoStrip (pa_cons pe_str pa_nil))) pss_nil)) (pss_one (ps_expr (md_extend (dv 2) (pa_cons (pe_comp rfl (ix:=[]) (mi_textA (dv 5)) (fun C fp s0 H0 at0=>pts_nil) (fun C fp s0 H0 at0=>(md_idxS (pe_glob (v:= .str "_-") rfl m_SIGNS ⟨_,rfl⟩) (pa_cons (dv 0) pa_nil))) rfl rfl (by rfl) (show ([".0","sign"]:List Str).Nodup by decide +kernel)) pa_nil)))))))) (pss_one (ps_ret (pe_tup (pa_cons (dv 1) (pa_cons (dv 2) pa_nil))))))))),?_⟩
  have lT:(tvs T).length = T.length:=List.length_map ..
  refine⟨_,.inl hS,?_⟩
  rw [lT]
  refine ite2 (fun c=>?_) (fun c=>?_)
  · have c1:((T.length:Nat):Int) = 0:=dec_true c
    have hT0:T = []:=List.eq_nil_of_length_eq_zero (by omega)
    refine⟨small_lit rfl,fun q_ hq=>⟨small_lit rfl,fun t ht=>?_⟩⟩
    have k1:=same_new hq (.lst [])
    have k2:=same_new ht (.tup [.int 0,.ref q_])
    refine q1 (fun k l h=>by rw [hT0] at h;cases h) t q_ _ (k1.none ht) hq (fun z=>by rw [z,upd_same] at ht;cases ht) (k1.trans k2) (by rw [upd_same,if_pos hT0]) (by rw [hT0];exact k2 _ _ upd_same)
  have c1:¬ ((T.length:Nat):Int) = 0:=dec_false c
  have hne:¬ T = []:=fun z=>by rw [z] at c1;exact c1 rfl
  obtain⟨l0,hl0⟩:∃l0,l0 = T.headD []:=⟨_,rfl⟩
  have hg0:T[0]? = some l0:=by
    cases T with
    | nil=>exact absurd rfl hne
    | cons x r=>rw [hl0];rfl
  have hget:∀{i:Nat} {l:List Nat},T[i]? = some l→(tvs T)[i]? = some (V.str (txt l)):=fun {i l} h=>by rw [List.getElem?_map,h];rfl
  have hin:∀{i:Nat} {l:List Nat},T[i]? = some l→l.length≤100:=fun h=>hlen _ (List.mem_of_getElem? h)
  refine⟨_,_,hS,atI_nat (j:=0) (hget hg0),l0,rfl,hin hg0,fun ok0 H1 g1=>?_,fun bad H1 g1=>q2 (fun A=>bad (A 0 l0 hg0).1) _ g1⟩
  refine⟨small_lit rfl,fun q_ hq=>?_⟩
  have k1:=same_new hq (.lst [])
  have e1:=upd_same (H:=H1) (a:=q_) (o:= .lst [])
  generalize upd H1 q_ _ = H2 at k1 e1
  have fq:=g1.none hq
  have gs:=g1.trans k1
  refine⟨⟨_,gs.seq hS⟩,for_enum (xs:=tvs T) (fun i σ H'=>(∃x y z,σ = [some (.ref a),some (.int ((vl l0:Nat):Int)),some (.ref q_),x,y,z])∧Same H H'∧H' q_ = some (.lst ((bT (T.take i)).map V.int))∧∀k l,k < i→T[k]? = some l→SGd T k l) ⟨⟨_,_,_,rfl⟩,gs,e1,fun k l h=>absurd h (Nat.not_lt_zero k)⟩ (fun i σ H' _ z=>z.2.1.seq hS) ?_ ?_⟩
  · rintro i x σ H' t hx ⟨⟨x1,x2,x3,rfl⟩,g,eq_,hok⟩ ht
    have hi:i < T.length:=by
      have:=(List.getElem?_eq_some_iff.mp hx).1
      rwa [lT] at this
    have hTi:T[i]? = some T[i]:=List.getElem?_eq_getElem hi
    generalize T[i] = l at hTi
    rw [hget hTi] at hx
    cases hx
    refine⟨_,_,SqT.of upd_same,?_⟩
    have k3:=same_new ht (.tup [.int ((i:Nat):Int),.str (txt l)])
    have eq3:=k3 _ _ eq_
    generalize upd H' t _ = H3 at k3 eq3
    have g3:=g.trans k3
    refine⟨l,rfl,hin hTi,fun ok H4 g4=>?_,fun bad H4 g4=>q2 (fun A=>bad (A i l hTi).1) _ (g3.trans g4)⟩
    refine⟨⟨by decide,big64 (by omega) (by omega)⟩,?_⟩
    refine ite2 (fun c=>?_) (fun c=>?_)
    · have c2:(!decide (((vl l:Nat):Int) = ((vl l0:Nat):Int) + 40 * ((i:Nat):Int))) = true:=c
      refine⟨small_lit rfl,q2 (fun A=>?_) _ (g3.trans g4)⟩
      have h_:=(A i l hTi).2.1
      rw [←hl0] at h_
      rw [decide_eq_true (by omega)] at c2
      cases c2
    have hv:vl l = vl l0 + 40 * i:=by
      by_cases y:((vl l:Nat):Int) = ((vl l0:Nat):Int) + 40 * ((i:Nat):Int)
      · omega
      · exact absurd (show (!decide (((vl l:Nat):Int) = ((vl l0:Nat):Int) + 40 * ((i:Nat):Int))) = true by rw [decide_eq_false y];rfl) c
    refine⟨l,rfl,hin hTi,fun ok2 H5 g5=>?_,fun bad H5 g5=>q2 (fun A=>bad (A i l hTi).2.2.1) _ (g3.trans (g4.trans g5))⟩
    have g35:=g4.trans g5
    refine⟨fun σ' H''=>σ' = [some (.ref a),some (.int ((vl l0:Nat):Int)),some (.ref q_),some (.int ((i:Nat):Int)),some (.str (txt l)),some (.str (txt (l.drop 7)))]∧H'' = H5∧(i + 1 < T.length→(l.drop 7).length = 40),?_,?_⟩
    · refine⟨_,.inl ((g3.trans g35).seq hS),?_⟩
      rw [lT]
      conv=>whnf
      refine ite2 (fun c=>?_) (fun c=>?_)
      · have c2:((i:Nat):Int) < ((T.length:Nat):Int) - 1:=dec_true c
        refine⟨by rw [txt_len,List.length_drop];have:=hin hTi;exact szl (by omega),?_⟩
        obtain⟨L,hL⟩:∃L,L = (txt (l.drop 7)).length:=⟨_,rfl⟩
        have hL6:L = (l.drop 7).length:=by rw [hL,txt_len]
        rw [←hL]
        conv=>whnf
        refine ite2 (fun c3=>?_) (fun c3=>?_)
        · have c4:(!decide (((L:Nat):Int) = 40)) = true:=c3
          refine⟨small_lit rfl,q2 (fun A=>?_) _ (g3.trans g35)⟩
          have h_:=(A i l hTi).2.2.2 (by omega)
          rw [decide_eq_true (by omega)] at c4
          cases c4
        · refine⟨rfl,rfl,fun _=>?_⟩
          by_cases y:((L:Nat):Int) = 40
          · omega
          · exact absurd (show (!decide (((L:Nat):Int) = 40)) = true by rw [decide_eq_false y];rfl) c3
      · have c2:¬ ((i:Nat):Int) < ((T.length:Nat):Int) - 1:=dec_false c
        exact⟨rfl,rfl,fun z=>absurd (by omega) c2⟩
    rintro σ' H_ ⟨rfl,e_H,h40⟩
    rw [e_H]
    clear e_H
    have eq5:=g35 _ _ eq3
    have hl100:=hin hTi
    refine⟨⟨_,eq5⟩,trivial,comp_text (z:=txt (l.drop 7)) (fun j ys H'=>ys = (((l.drop 7).take j).map bt).map V.int∧H' = H5) ?_ ⟨rfl,rfl⟩ ?_ ?_⟩
    · rintro j ys H' hj ⟨rfl,_⟩
      refine szl1 ?_
      rw [List.length_map,List.length_map,List.length_take,List.length_drop]
      omega
    · rintro j c ys H' hc ⟨rfl,rfl⟩
      have hc':(l.drop 7)[j]? = some c:=by
        have:((l.drop 7).toArray)[j]? = some c:=hc
        rwa [List.getElem?_toArray] at this
      obtain⟨hj,hbj⟩:=List.getElem?_eq_some_iff.mp hc'
      obtain⟨iz,rest,ho,hbt⟩:=sg_at (ok2.2.2 c (List.mem_of_getElem? hc'))
      refine⟨iz,rest,ho,?_,rfl⟩
      rw [List.take_succ_eq_append_getElem hj,hbj,List.map_append,List.map_append,hbt]
      rfl
    rintro ys H' ⟨rfl,rfl⟩ pz hpz
    have esz:(txt (l.drop 7)).cps.size = (l.drop 7).length:=by show ((l.drop 7).toArray).size = _;rw [List.size_toArray]
    rw [esz,List.take_of_length_le (Nat.le_refl _)]
    have k6:=same_new hpz (.lst (((l.drop 7).map bt).map V.int))
    have bl:=bT_len (T:=T.take i) fun l hl=>hlen l (List.mem_of_mem_take hl)
    refine⟨_,_,k6 _ _ eq5,upd_same,?_,⟨_,_,_,rfl⟩,?_,?_,?_⟩
    · refine Nat.le_trans (m:=20000) ?_ (by decide)
      rw [List.length_map,List.length_map,List.length_map,List.length_drop]
      rw [List.length_take] at bl
      have:100 * min i T.length≤100 * 100:=Nat.mul_le_mul_left _ (by omega)
      omega
    · exact((g3.trans g35).trans k6).put fq
    · rw [upd_same,←List.map_append,bT_succ hTi]
    · intro k l' hk hk'
      by_cases y:k = i
      · rw [y,hTi] at hk'
        cases hk'
        rw [y]
        exact⟨ok,by rw [←hl0];exact hv,ok2,h40⟩
      · exact hok k l' (by omega) hk'
  rintro σ H3 ⟨⟨x1,x2,x3,rfl⟩,g3,e3,hok⟩
  rw [lT,List.take_of_length_le (Nat.le_refl _)] at e3
  refine⟨small_lit rfl,fun t ht=>?_⟩
  have k4:=same_new ht (.tup [.int ((vl l0:Nat):Int),.ref q_])
  refine q1 (fun k l h=>hok k l (by rw [lT];exact(List.getElem?_eq_some_iff.mp h).1) h) t q_ _ (g3.none ht) fq (fun z=>by rw [z,e3] at ht;cases ht) (g3.trans k4) (by rw [upd_same,if_neg hne,←hl0]) (k4 _ _ e3)
theorem sc__law_draw:FnScope ["_law_script","_law_k","_law_many","_law_cell","_law_seed"] ["_law_script","_law_k","_law_many"] (defScope s__law_draw):=⟨rfl,rfl,rfl,by decide +kernel,rfl,by decide +kernel,by decide +kernel⟩
set_option maxHeartbeats 4000000 in
theorem ok__law_draw {a__law_draw:Addr} {d__law_draw:FuncData} (F__law_draw:Fun K "_law_draw" "_law_draw" s__law_draw a__law_draw d__law_draw) (m_len:mg "len" = none) :
    FnOk P w K mg base CX0 1 a__law_draw d__law_draw ["_law_script","_law_k","_law_many"] (spDraw K):=by
  refine F__law_draw.ok sc__law_draw (fun vs H Q E h=>?_) (fun cdv A outer s H vs Q E hr h=>?_)
  · obtain⟨a,ns,k,m,rfl,_⟩:=h
    rfl
  obtain⟨a,ns,k,m,rfl,hS,h63,k0,k1,m0,q⟩:=h
  have nd:=sc__law_draw.nd
  refine⟨_,(pss_cons (ps_set (i:=3) nd rfl (Or.inl rfl) (pe_cut (pe_ifExp (md_cmp z_gt (pe_callB z_len rfl m_len bt_len (pa_cons (dv 0) pa_nil)) pe_int (nomark _)) (pe_ix z_ixL (dv 0) (pe_op z_mod (dv 1) (pe_callB z_len rfl m_len bt_len (pa_cons (dv 0) pa_nil))) (fun _ _=>rfl)) pe_int))) (pss_cons (ps_set (i:=4) nd rfl (Or.inl rfl) (pe_op z_add (pe_op z_add (pe_op z_mod (dv 3) pe_int) (pe_op z_mul (pe_op z_mul pe_int (dv 1)) (dv 1))) pe_int)) (pss_one (ps_ret (pe_op z_mod (pe_op z_mod (pe_op z_mul (pe_op z_mod (pe_op z_mul (dv 4) pe_int) pe_int) pe_int) pe_int) (dv 2)))))),?_⟩
  refine⟨fun x H'=>(∃v,x = .int v)∧H' = H,?_,?_⟩
  · have hlen:(ns.map V.int).length = ns.length:=List.length_map _
    refine⟨_,.inl hS,?_⟩
    conv=>whnf
    refine ite2 (fun c=>?_) (fun c=>⟨⟨_,rfl⟩,rfl⟩)
    have c1:(0:Int) < (((ns.map V.int).length:Nat):Int):=dec_true c
    obtain⟨v,hv⟩:=at_mod (ns:=ns) (k:=k) (by rw [hlen] at c1;omega)
    exact⟨_,.inl hS,c1,_,_,hS,hv,⟨v,rfl⟩,rfl⟩
  rintro x H' ⟨⟨v,rfl⟩,rfl⟩
  have k2:31 * k * k≤31 * 100000 * 100000:=Int.mul_le_mul (by omega) k1 k0 (by decide)
  have k3:0≤31 * k * k:=Int.mul_nonneg (by omega) k0
  refine⟨(by show (0:Int) < _;decide),⟨big64 (by decide) (by decide),big64 (by omega) (by omega)⟩,⟨big64 (by omega) (by omega),big64 (by omega) (by omega)⟩,?_⟩
  have s0:0≤v % 1000003:=Int.emod_nonneg _ (by decide)
  have s1:v % 1000003 < 1000003:=Int.emod_lt_of_pos _ (by decide)
  refine⟨⟨big64 (by omega) (by omega),big64 (by decide) (by decide)⟩,(by show (0:Int) < _;decide),?_⟩
  have t0:0≤(v % 1000003 + 31 * k * k + 1) * 48271 % 999983:=Int.emod_nonneg _ (by decide)
  have t1:(v % 1000003 + 31 * k * k + 1) * 48271 % 999983 < 999983:=Int.emod_lt_of_pos _ (by decide)
  refine⟨⟨big64 (by omega) (by omega),big64 (by decide) (by decide)⟩,(by show (0:Int) < _;decide),m0,?_⟩
  exact q _ (Int.emod_nonneg _ (by omega)) (Int.emod_lt_of_pos _ m0)
theorem sc__law_figures:FnScope ["_law_turn","_law_signs","_law_k"] ["_law_turn"] (defScope s__law_figures):=⟨rfl,rfl,rfl,by decide +kernel,rfl,by decide +kernel,by decide +kernel⟩
set_option maxHeartbeats 4000000 in
theorem ok__law_figures {a__law_figures:Addr} {d__law_figures:FuncData} (F__law_figures:Fun K "_law_figures" "_law_figures" s__law_figures a__law_figures d__law_figures) (m_range:mg "range" = none) :
    FnOk P w K mg base CX0 1 a__law_figures d__law_figures ["_law_turn"] (spFig):=by
  refine F__law_figures.ok sc__law_figures (fun vs H Q E h=>?_) (fun cdv A outer s H vs Q E hr h=>?_)
  · obtain⟨n,rfl,_⟩:=h
    rfl
  obtain⟨n,rfl,q⟩:=h
  have nd:=sc__law_figures.nd
  refine⟨_,(pss_cons (ps_set (i:=1) nd rfl (Or.inl rfl) pe_str) (pss_cons (ps_for PassesOwn.never rfl (mi_range1 rfl m_range (pa_cons pe_int pa_nil)) (pg_name (i:=2) nd rfl (Or.inl rfl)) (pss_cons (ps_set (i:=1) nd rfl (Or.inl rfl) (pe_op z_addS (pe_ix z_ixS pe_str (pe_op z_mod (dv 0) pe_int) (fun _ _=>rfl)) (dv 1))) (pss_one (ps_set (i:=0) nd rfl (Or.inl rfl) (pe_op z_fdiv (dv 0) pe_int))))) (pss_one (ps_ret (dv 1))))),?_⟩
  refine⟨⟨by decide,by decide⟩,for_range (fun i σ H'=>(∃x,σ = [some (.int ((n / 10 ^ i:Nat):Int)),some (.str (txt (fg i n))),x])∧H' = H) ⟨⟨_,by rw [Nat.pow_zero,Nat.div_one];rfl⟩,rfl⟩ ?_ ?_⟩
  · rintro i σ H' hi ⟨⟨x,rfl⟩,rfl⟩
    have hi6:i < 6:=hi
    have em:((n / 10 ^ i:Nat):Int) % 10 = ((n / 10 ^ i % 10:Nat):Int):=by omega
    refine⟨(by show (0:Int) < 10;decide),48 + n / 10 ^ i % 10,szl (by decide),by rw [em];exact dig_at (by omega),?_⟩
    have ea:(⟨#[48 + n / 10 ^ i % 10]⟩:Str) ++ txt (fg i n) = txt (fg (i + 1) n):=by rw [fg_front];exact txt_add [48 + n / 10 ^ i % 10] _
    refine⟨by show (txt [48 + n / 10 ^ i % 10]).length + (txt (fg i n)).length≤sizeLine;rw [txt_len,txt_len,fg_len];exact szl (by show 1 + i≤9000;omega),?_⟩
    refine⟨⟨by decide,by decide⟩,⟨some (.int (0 + (i:Int))),?_⟩,rfl⟩
    have ed:((n / 10 ^ i:Nat):Int) / 10 = ((n / 10 ^ (i + 1):Nat):Int):=by rw [Nat.pow_succ,←Nat.div_div_eq_div_mul];omega
    show [some (V.int (((n / 10 ^ i:Nat):Int) / 10)),some (V.str ((⟨#[48 + n / 10 ^ i % 10]⟩:Str) ++ txt (fg i n))),_] = _
    rw [ed,ea]
  rintro σ H' ⟨⟨x,rfl⟩,rfl⟩
  exact q
theorem sc__law_due:FnScope ["_law_some","_law_first","_law_bits","_law_k","_law_text","_law_turn","_law_sign"] ["_law_some"] (defScope s__law_due):=⟨rfl,rfl,rfl,by decide +kernel,rfl,by decide +kernel,by decide +kernel⟩
set_option maxHeartbeats 4000000 in
theorem ok__law_due {a__law_due:Addr} {d__law_due:FuncData} (F__law_due:Fun K "_law_due" "_law_due" s__law_due a__law_due d__law_due) (m_range:mg "range" = none) (m_len:mg "len" = none) (m_int:mg "int" = none) :
    FnOk P w K mg base CX0 1 a__law_due d__law_due ["_law_some"] (spDueT K):=by
  refine F__law_due.ok sc__law_due (fun vs H Q E h=>?_) (fun cdv A outer s H vs Q E hr h=>?_)
  · obtain⟨a,T,rfl,_⟩:=h
    rfl
  obtain⟨a,T,rfl,hS,hT,hlen,q1,q2⟩:=h
  have nd:=sc__law_due.nd
  refine⟨_,(pss_cons (ps_set (i:=1) nd rfl (Or.inl rfl) pe_int) (pss_cons (ps_set (i:=2) nd rfl (Or.inl rfl) (pe_lst pa_nil)) (pss_cons (ps_for PassesOwn.never rfl (mi_range1 rfl m_range (pa_cons (pe_callB z_len rfl m_len bt_len (pa_cons (dv 0) pa_nil)) pa_nil)) (pg_name (i:=3) nd rfl (Or.inl rfl)) (pss_cons (ps_set (i:=4) nd rfl (Or.inl rfl) (pe_ix z_ixL (dv 0) (dv 3) (fun _ _=>rfl))) (pss_cons (ps_cut (ps_if (PW.pt (pw_or (md_cmp z_lt (pe_callB z_lenS rfl m_len bt_len (pa_cons (dv 4) pa_nil)) pe_int (nomark _)) (pw_or (md_cmp z_gt (pe_callB z_lenS rfl m_len bt_len (pa_cons (dv 4) pa_nil)) pe_int (nomark _)) (pw_or (PW.pt (pw_and (md_cmp z_lt (pe_op z_add (dv 3) pe_int) (pe_callB z_len rfl m_len bt_len (pa_cons (dv 0) pa_nil)) (nomark _)) (pw_and1 (md_cmp z_lt (pe_callB z_lenS rfl m_len bt_len (pa_cons (dv 4) pa_nil)) pe_int (nomark _))))) (pw_or1 (md_cmp z_ne (pe_ix z_ixS (dv 4) pe_int (fun _ _=>rfl)) pe_str (nomark _))))))) (pss_one (ps_ret pe_non)) pss_nil)) (pss_cons (ps_set (i:=5) nd rfl (Or.inl rfl) pe_int) (pss_cons (ps_for PassesOwn.never rfl (mi_textA (pe_slice z_slG (dv 4) po_none (md_part pe_int))) (pg_name (i:=6) nd rfl (Or.inl rfl)) (pss_cons (ps_if (md_cmp z_notInS (dv 6) pe_str rfl) (pss_one (ps_ret pe_non)) pss_nil) (pss_one (ps_set (i:=5) nd rfl (Or.inl rfl) (pe_op z_add (pe_op z_mul (dv 5) pe_int) (md_idxS pe_str (pa_cons (dv 6) pa_nil))))))) (pss_cons (ps_cut (ps_if (md_cmp z_eq (dv 3) pe_int (nomark _)) (pss_one (ps_set (i:=1) nd rfl (Or.inl rfl) (dv 5))) pss_nil)) (pss_cons (ps_if (md_cmp z_ne (dv 5) (pe_op z_add (dv 1) (pe_op z_mul pe_int (dv 3))) (nomark _)) (pss_one (ps_ret pe_non)) pss_nil) (pss_one (ps_for PassesOwn.never rfl (mi_textA (pe_slice z_slG (dv 4) (md_part pe_int) po_none)) (pg_name (i:=6) nd rfl (Or.inl rfl)) (pss_cons (ps_if (md_cmp z_notInS (dv 6) pe_str rfl) (pss_one (ps_ret pe_non)) pss_nil) (pss_one (ps_expr (md_append (dv 2) (pa_cons (pe_callTy z_int rfl m_int bt_int (pa_cons (pe_cmpR z_eq (dv 6) pe_str (nomark _)) pa_nil)) pa_nil)))))))))))))) (pss_one (ps_ret (pe_tup (pa_cons (dv 1) (pa_cons (dv 2) pa_nil)))))))),?_⟩
  have lT:(tvs T).length = T.length:=List.length_map ..
  obtain⟨l0,hl0⟩:∃l0,l0 = T.headD []:=⟨_,rfl⟩
  have hget:∀{i:Nat} {l:List Nat},T[i]? = some l→(tvs T)[i]? = some (V.str (txt l)):=fun {i l} h=>by rw [List.getElem?_map,h];rfl
  have hin:∀{i:Nat} {l:List Nat},T[i]? = some l→l.length≤100:=fun h=>hlen _ (List.mem_of_getElem? h)
  refine⟨small_lit rfl,fun q_ hq=>?_⟩
  have k1:=same_new hq (.lst [])
  have e1:=upd_same (H:=H) (a:=q_) (o:= .lst [])
  generalize upd H q_ _ = H1 at k1 e1
  refine⟨_,.inl (k1.seq hS),?_⟩
  rw [lT]
  have em:((T.length:Nat):Int).toNat = T.length:=Int.toNat_natCast _
  refine⟨⟨by omega,by omega⟩,for_range (fun i σ H'=>(∃(f:Nat) (x y z u:Option V),σ = [some (.ref a),some (.int ((f:Nat):Int)),some (.ref q_),x,y,z,u]∧f = if i = 0 then 0 else vl l0)∧Same H H'∧H' q_ = some (.lst ((bT (T.take i)).map V.int))∧∀k l,k < i→T[k]? = some l→SGd T k l) ⟨⟨0,_,_,_,_,rfl,rfl⟩,k1,e1,fun k l h=>absurd h (Nat.not_lt_zero k)⟩ ?_ ?_⟩
  · rintro i σ H' hi ⟨⟨f,x,y,z,u,rfl,hf⟩,g,eq_,hok⟩
    rw [em] at hi
    have hTi:T[i]? = some T[i]:=List.getElem?_eq_getElem hi
    have hl0i:i = 0→T[i] = l0:=fun h0=>by
      subst h0
      rw [hl0]
      cases T with
      | nil=>cases hi
      | cons x r=>rfl
    generalize T[i] = l at hTi hl0i
    have hl100:=hin hTi
    rw [Int.zero_add]
    refine⟨_,_,g.seq hS,atI_nat (hget hTi),?_⟩
    refine⟨fun σ' H''=>σ' = [some (.ref a),some (.int ((f:Nat):Int)),some (.ref q_),some (.int ((i:Nat):Int)),some (.str (txt l)),z,u]∧H'' = H'∧(8≤l.length∧l.length≤47)∧(i + 1 < T.length→l.length = 47)∧(l.drop 6).take 1 = [32],?_,?_⟩
    · have bad:¬ ((8≤l.length∧l.length≤47)∧(i + 1 < T.length→l.length = 47)∧(l.drop 6).take 1 = [32])→Q .non H':=fun nb=>q2 (fun A=>nb (by
        obtain⟨_,_,b3,b4⟩:=A i l hTi
        have b1:=b3.2.1
        rw [List.length_drop] at b1 b4
        exact⟨⟨by omega,by omega⟩,fun z=>by have:=b4 z;omega,b3.1⟩)) _ g
      have szt:(txt l).length≤sizeLine:=by rw [txt_len];exact szl (by omega)
      have el:(txt l).length = l.length:=txt_len l
      obtain⟨L,hL⟩:∃L,L = (txt l).length:=⟨_,rfl⟩
      refine⟨szt,?_⟩
      rw [←hL]
      conv=>whnf
      refine ite2 (fun c=>bad fun z=>by have c1:((L:Nat):Int) < 8:=dec_true c;omega) (fun c=>?_)
      have c1:¬ ((L:Nat):Int) < 8:=dec_false c
      refine⟨szt,?_⟩
      rw [←hL]
      conv=>whnf
      refine ite2 (fun c=>bad fun z=>by have c1:(47:Int) < ((L:Nat):Int):=dec_true c;omega) (fun c=>?_)
      have c2:¬ (47:Int) < ((L:Nat):Int):=dec_false c
      have h7:6 < l.length:=by omega
      have h6:l[6]? = some l[6]:=List.getElem?_eq_getElem h7
      refine⟨_,.inl (g.seq hS),?_⟩
      rw [lT]
      conv=>whnf
      refine ite2 (fun c=>?_) (fun c=>?_)
      · refine⟨szt,?_⟩
        rw [←hL]
        conv=>whnf
        refine ite2 (fun c3=>bad fun z=>by have c4:((L:Nat):Int) < 47:=dec_true c3;have c5:((i:Nat):Int) + 1 < ((T.length:Nat):Int):=dec_true c;have:=z.2.1 (by omega);omega) (fun c3=>?_)
        have h47:i + 1 < T.length→l.length = 47:=fun _=>by have c4:¬ ((L:Nat):Int) < 47:=dec_false c3;omega
        refine⟨l[6],szt,atI_nat (j:=6) (by rw [txt_cps];exact h6),?_⟩
        conv=>whnf
        refine ite2 (fun c=>bad fun z=>?_) (fun c=>⟨rfl,rfl,⟨by omega,by omega⟩,h47,?_⟩)
        · have c3:(!decide ((⟨#[l[6]]⟩:Str) = (" ":Str))) = true:=c
          have h32:l[6] = 32:=by have:=z.2.2;rw [drop_one h6] at this;exact(List.cons.inj this).1
          rw [decide_eq_true (blank.mpr h32)] at c3
          cases c3
        · have c3:¬ (!decide ((⟨#[l[6]]⟩:Str) = (" ":Str))) = true:=c
          have h32:l[6] = 32:=by
            by_cases y:(⟨#[l[6]]⟩:Str) = (" ":Str)
            · exact blank.mp y
            · rw [decide_eq_false y] at c3;exact absurd rfl c3
          rw [drop_one h6,h32]
      · have h47:i + 1 < T.length→l.length = 47:=fun z=>by have c5:¬ ((i:Nat):Int) + 1 < ((T.length:Nat):Int):=dec_false c;omega
        refine⟨l[6],szt,atI_nat (j:=6) (by rw [txt_cps];exact h6),?_⟩
        conv=>whnf
        refine ite2 (fun c=>bad fun z=>?_) (fun c=>⟨rfl,rfl,⟨by omega,by omega⟩,h47,?_⟩)
        · have c3:(!decide ((⟨#[l[6]]⟩:Str) = (" ":Str))) = true:=c
          have h32:l[6] = 32:=by have:=z.2.2;rw [drop_one h6] at this;exact(List.cons.inj this).1
          rw [decide_eq_true (blank.mpr h32)] at c3
          cases c3
        · have c3:¬ (!decide ((⟨#[l[6]]⟩:Str) = (" ":Str))) = true:=c
          have h32:l[6] = 32:=by
            by_cases y:(⟨#[l[6]]⟩:Str) = (" ":Str)
            · exact blank.mp y
            · rw [decide_eq_false y] at c3;exact absurd rfl c3
          rw [drop_one h6,h32]
    rintro σ' H_ ⟨rfl,e_H,hl8,h47,h32⟩
    rw [e_H]
    clear e_H
    have notok:∀{P:Prop},(SGd T i l→P)→¬ P→¬ AllOk T:=fun h n A=>n (h (A i l hTi))
    refine⟨0,min 6 l.length,⟨Nat.zero_le _,by rw [txt_len];omega,by rw [txt_len];exact szl (by omega)⟩,.inl ⟨rfl,rfl⟩,.inr ⟨6,rfl,by rw [txt_len]⟩,?_⟩
    rw [txt_cps,take_min]
    have l6:(l.take 6).length = 6:=by rw [List.length_take];omega
    have sz6:(txt (l.take 6)).cps.size = 6:=by show ((l.take 6).toArray).size = _;rw [List.size_toArray,l6]
    refine⟨trivial,for_text (z:=txt (l.take 6)) (fun j σ H''=>(∃u,σ = [some (.ref a),some (.int ((f:Nat):Int)),some (.ref q_),some (.int ((i:Nat):Int)),some (.str (txt l)),some (.int ((PySem.NumText.digitsVal ((l.take 6).take j):Nat):Int)),u])∧H'' = H'∧∀c∈(l.take 6).take j,isD c) ⟨⟨_,rfl⟩,rfl,fun _ z=>by cases z⟩ ?_ ?_⟩
    · rintro j c σ H'' hc ⟨⟨u,rfl⟩,rfl,hd⟩
      have hc':(l.take 6)[j]? = some c:=by
        have:((l.take 6).toArray)[j]? = some c:=hc
        rwa [List.getElem?_toArray] at this
      obtain⟨hj,hcj⟩:=List.getElem?_eq_some_iff.mp hc'
      rw [l6] at hj
      have hmem:=List.mem_of_getElem? hc'
      refine ite2 (fun y=>?_) (fun y=>?_)
      · have y1:(!decide (isD c)) = true:=by rw [←inD c];exact y
        exact q2 (notok (fun s=>s.1.2 c hmem) (fun z=>by rw [decide_eq_true z] at y1;cases y1)) _ g
      have hD:isD c:=by
        by_cases z:isD c
        · exact z
        · exact absurd (show (!(!(Builtin.Str.occurrences ("0123456789":Str) (⟨#[c]⟩:Str) 0 ("0123456789":Str).length 1).isEmpty)) = true by rw [inD c,decide_eq_false z];rfl) y
      obtain⟨rest,ho⟩:=dg_at hD
      have dvl:=dv_lt hd
      have d6:((l.take 6).take j).length≤6:=by rw [List.length_take];omega
      have dvb:PySem.NumText.digitsVal ((l.take 6).take j) < 10 ^ 6:=Nat.lt_of_lt_of_le dvl (Nat.pow_le_pow_right (by decide) d6)
      have es:(l.take 6).take (j + 1) = (l.take 6).take j ++ [c]:=by rw [List.take_succ_eq_append_getElem (by omega),hcj]
      refine⟨⟨big64 (by omega) (by omega),by decide⟩,c - 48,rest,ho,⟨some (.str ⟨#[c]⟩),?_⟩,rfl,?_⟩
      · rw [es,PySem.NumText.digitsVal_snoc]
        rfl
      · rw [es]
        intro c' hc2
        rcases List.mem_append.mp hc2 with h | h
        · exact hd c' h
        · rw [List.mem_singleton.mp h];exact hD
    rintro σ H_ ⟨⟨u,rfl⟩,e_H,hd⟩
    rw [e_H]
    clear e_H
    have e66:(l.take 6).take 6 = l.take 6:=List.take_of_length_le (by omega)
    rw [sz6,e66] at hd
    rw [sz6,e66]
    have tok:TOk l:=⟨by omega,hd⟩
    refine⟨fun σ' H''=>σ' = [some (.ref a),some (.int ((vl l0:Nat):Int)),some (.ref q_),some (.int ((i:Nat):Int)),some (.str (txt l)),some (.int ((vl l:Nat):Int)),u]∧H'' = H',?_,?_⟩
    · refine ite2 (fun c=>?_) (fun c=>?_)
      · have c1:((i:Nat):Int) = 0:=dec_true c
        rw [←hl0i (by omega)]
        exact⟨rfl,rfl⟩
      · have c1:¬ ((i:Nat):Int) = 0:=dec_false c
        rw [if_neg (by omega)] at hf
        rw [hf]
        exact⟨rfl,rfl⟩
    rintro σ' H_ ⟨rfl,e_H⟩
    rw [e_H]
    clear e_H
    refine⟨⟨by decide,big64 (by omega) (by omega)⟩,?_⟩
    refine ite2 (fun c=>?_) (fun c=>?_)
    · have c2:(!decide (((vl l:Nat):Int) = ((vl l0:Nat):Int) + 40 * ((i:Nat):Int))) = true:=c
      exact q2 (notok (fun s=>s.2.1) (fun z=>by
        rw [←hl0] at z
        rw [decide_eq_true (by omega)] at c2
        cases c2)) _ g
    have hv:vl l = vl l0 + 40 * i:=by
      by_cases y:((vl l:Nat):Int) = ((vl l0:Nat):Int) + 40 * ((i:Nat):Int)
      · omega
      · exact absurd (show (!decide (((vl l:Nat):Int) = ((vl l0:Nat):Int) + 40 * ((i:Nat):Int))) = true by rw [decide_eq_false y];rfl) c
    refine⟨min 7 l.length,l.length,⟨by omega,by rw [txt_len];exact Nat.le_refl _,by rw [txt_len];exact szl (by omega)⟩,.inr ⟨7,rfl,by rw [txt_len]⟩,.inl ⟨rfl,by rw [txt_len]⟩,?_⟩
    rw [txt_cps,drop_min]
    have l7:(l.drop 7).length = l.length - 7:=List.length_drop ..
    have sz7:(txt (l.drop 7)).cps.size = (l.drop 7).length:=by show ((l.drop 7).toArray).size = _;rw [List.size_toArray]
    have bl:=bT_len (T:=T.take i) fun l hl=>hlen l (List.mem_of_mem_take hl)
    have bl2:(bT (T.take i)).length≤10000:=by
      rw [List.length_take] at bl
      have:100 * min i T.length≤100 * 100:=Nat.mul_le_mul_left _ (by omega)
      omega
    refine⟨trivial,for_text (z:=txt (l.drop 7)) (fun j σ H''=>(∃u,σ = [some (.ref a),some (.int ((vl l0:Nat):Int)),some (.ref q_),some (.int ((i:Nat):Int)),some (.str (txt l)),some (.int ((vl l:Nat):Int)),u])∧Same H H''∧H'' q_ = some (.lst ((bT (T.take i) ++ ((l.drop 7).take j).map bt).map V.int))∧∀c∈(l.drop 7).take j,isS c) ⟨⟨_,rfl⟩,g,by rw [List.take_zero,List.map_nil,List.append_nil];exact eq_,fun _ z=>by cases z⟩ ?_ ?_⟩
    · rintro j c σ H'' hc ⟨⟨u,rfl⟩,g',e',hs⟩
      have hc':(l.drop 7)[j]? = some c:=by
        have:((l.drop 7).toArray)[j]? = some c:=hc
        rwa [List.getElem?_toArray] at this
      obtain⟨hj,hcj⟩:=List.getElem?_eq_some_iff.mp hc'
      have hmem:=List.mem_of_getElem? hc'
      refine ite2 (fun y=>?_) (fun y=>?_)
      · have y1:(!decide (isS c)) = true:=by rw [←inS c];exact y
        exact q2 (notok (fun s=>s.2.2.1.2.2 c hmem) (fun z=>by rw [decide_eq_true z] at y1;cases y1)) _ g'
      have hD:isS c:=by
        by_cases z:isS c
        · exact z
        · exact absurd (show (!(!(Builtin.Str.occurrences ("_-":Str) (⟨#[c]⟩:Str) 0 ("_-":Str).length 1).isEmpty)) = true by rw [inS c,decide_eq_false z];rfl) y
      have es:(l.drop 7).take (j + 1) = (l.drop 7).take j ++ [c]:=by rw [List.take_succ_eq_append_getElem hj,hcj]
      have eb:(if decide ((⟨#[c]⟩:Str) = ("-":Str)) = true then (1:Int) else 0) = bt c:=by
        unfold bt
        rcases hD with rfl | rfl
        · rw [if_neg (by rw [decide_eq_false (fun z=>by have:=minus.mp z;omega)];decide),if_pos rfl]
        · rw [if_pos (decide_eq_true (minus.mpr rfl)),if_neg (by decide)]
      refine⟨⟨_,SqL.of e'⟩,_,e',?_,⟨_,rfl⟩,g'.put hq,?_,?_⟩
      · refine Nat.lt_of_le_of_lt (m:=20000) ?_ (by decide)
        rw [List.length_map,List.length_append,List.length_map,List.length_take]
        omega
      · rw [upd_same,es,List.map_append (f:=bt),←List.append_assoc,List.map_append (l₂:=[c].map bt)]
        rw [eb]
        rfl
      · rw [es]
        intro c' hc2
        rcases List.mem_append.mp hc2 with h | h
        · exact hs c' h
        · rw [List.mem_singleton.mp h];exact hD
    rintro σ H'' ⟨⟨u,rfl⟩,g',e',hs⟩
    rw [sz7,List.take_of_length_le (Nat.le_refl _)] at e' hs
    refine⟨⟨vl l0,_,_,_,_,rfl,by rw [if_neg (Nat.succ_ne_zero i)]⟩,g',by rw [bT_succ hTi];exact e',fun k l' hk hk'=>?_⟩
    by_cases y:k = i
    · rw [y,hTi] at hk'
      cases hk'
      rw [y]
      exact⟨tok,by rw [←hl0];exact hv,⟨h32,⟨by omega,by omega⟩,hs⟩,fun z=>by have:=h47 z;omega⟩
    · exact hok k l' (by omega) hk'
  rintro σ H' ⟨⟨f,x,y,z,u,rfl,hf⟩,g,eq_,hok⟩
  rw [em,List.take_of_length_le (Nat.le_refl _)] at eq_
  rw [em] at hf hok
  refine⟨small_lit rfl,fun t ht=>?_⟩
  have k4:=same_new ht (.tup [.int ((f:Nat):Int),.ref q_])
  refine q1 (fun k l h=>hok k l (List.getElem?_eq_some_iff.mp h).1 h) t q_ _ (g.trans k4) ?_ (k4 _ _ eq_)
  rw [upd_same,hf,←hl0]
  by_cases y:T = []
  · rw [if_pos y,if_pos (by rw [y];rfl)];rfl
  · rw [if_neg y,if_neg (fun z=>y (List.eq_nil_of_length_eq_zero z))]
theorem sc__law_is_told:FnScope ["_law_some","_law_due_here","_law_found","_law_caught","_law_handed","e"] ["_law_some","_law_due_here"] (defScope s__law_is_told):=⟨rfl,rfl,rfl,by decide +kernel,rfl,by decide +kernel,by decide +kernel⟩
set_option maxHeartbeats 4000000 in
theorem ok__law_is_told {a__law_is_told:Addr} {d__law_is_told:FuncData} {a_read_strips:Addr} {d_read_strips:FuncData} {a_RailError:Addr} {a_NoStrip:Addr} {a_NoPost:Addr} {a_NoName:Addr} {a_NoKey:Addr} {a_NoFrame:Addr} {a_NoBits:Addr} {a_NoWire:Addr} {a_NoThing:Addr} {a_NoRow:Addr} {a_NoRail:Addr} (F__law_is_told:Fun K "_law_is_told" "_law_is_told" s__law_is_told a__law_is_told d__law_is_told) (m_list:mg "list" = none) (m_RailError:mg "RailError" = some (.ref a_RailError)) (m_isinstance:mg "isinstance" = none) (m_tuple:mg "tuple" = none) (m_len:mg "len" = none) (m_bool:mg "bool" = none) (m_ValueError:mg "ValueError" = none) (m_NoStrip:mg "NoStrip" = some (.ref a_NoStrip)) (m_NoPost:mg "NoPost" = some (.ref a_NoPost)) (m_NoName:mg "NoName" = some (.ref a_NoName)) (m_NoKey:mg "NoKey" = some (.ref a_NoKey)) (m_NoFrame:mg "NoFrame" = some (.ref a_NoFrame)) (m_NoBits:mg "NoBits" = some (.ref a_NoBits)) (m_NoWire:mg "NoWire" = some (.ref a_NoWire)) (m_NoThing:mg "NoThing" = some (.ref a_NoThing)) (m_NoRow:mg "NoRow" = some (.ref a_NoRow)) (m_NoRail:mg "NoRail" = some (.ref a_NoRail)) (fact_match:PySem.W.exmOne K (.ref a_NoStrip) (.ref a_RailError) = some true) (fact_ve:PySem.W.kitOne K (.ref a_NoStrip) (.type "ValueError") = some true) (fact_o1:PySem.W.kitAny K (.ref a_NoStrip) [.ref a_NoBits,.ref a_NoFrame,.ref a_NoKey,.ref a_NoName,.ref a_NoPost] = some false) (fact_o2:PySem.W.kitAny K (.ref a_NoStrip) [.ref a_NoRail,.ref a_NoRow,.ref a_NoThing,.ref a_NoWire] = some false) (fact_c1:PySem.W.isClsIn K a_NoStrip = true) (fact_c2:PySem.W.findIn K (.ref a_NoStrip) "__getattribute__" = some (some (.builtin "BaseException.__getattribute__"))) (fact_c3:PySem.W.findIn K (.ref a_NoStrip) "__getattr__" = some none) (fact_c4:PySem.W.findIn K (.ref a_NoStrip) "__class__" = some (some (.builtin "object.__class__"))) (fact_c5:PySem.W.specialIn K (.builtin "object.__class__") "__get__" = some (some (.builtin "getset_descriptor.__get__"))) (fact_c6:PySem.W.takesIn K (.builtin "object.__class__") = some true) (fact_c7:PySem.W.mroIn K a_NoStrip (.type "object") = some true) (fact_c8:PySem.W.mroIn K a_NoStrip (.type "BaseException") = some true) (G_read_strips:FnOk P w K mg base (CXR P w) 2 a_read_strips d_read_strips ["some"] (spReadR K a_NoStrip)) (b_read_strips:Binds K d_read_strips ["some"] []) (k_read_strips:PySem.W.keepIn K (.ref a_read_strips) = true) (m_read_strips:mg "read_strips" = some (.ref a_read_strips)) :
    FnOk P w K mg base CX0 4 a__law_is_told d__law_is_told ["_law_some","_law_due_here"] (spTold K):=by
  refine F__law_is_told.ok sc__law_is_told (fun vs H Q E h=>?_) (fun cdv A outer s H vs Q E hr h=>?_)
  · obtain⟨a,T,v,rfl,_⟩:=h
    rfl
  obtain⟨a,T,v,rfl,ea,hT,hv,q⟩:=h
  have nd:=sc__law_is_told.nd
  refine⟨_,(pss_cons (ps_set (i:=2) nd rfl (Or.inl rfl) pe_non) (pss_cons (ps_set (i:=3) nd rfl (Or.inl rfl) pe_non) (pss_cons (ps_set (i:=4) nd rfl (Or.inl rfl) (pe_callTy z_listOf rfl m_list bt_list (pa_cons (dv 0) pa_nil))) (pss_cons (ps_tryH (fun pins0 σ0 EX=>(pss_one (ps_set (i:=2) nd rfl (Or.inl rfl) (pe_callT G_read_strips (hr.mono (by decide)) rfl m_read_strips k_read_strips b_read_strips .nil (pa_cons (dv 4) pa_nil))))) (ph_as (i:=5) rfl m_RailError nd rfl rfl (fun ev=>(pss_one (ps_set (i:=3) nd rfl (Or.inl rfl) (dv 5)))) ph_nil) rfl rfl) (pss_cons (ps_if (md_cmp (z_neS hr.units) (dv 4) (dv 0) (nomark _)) (pss_one (ps_ret pe_bl)) pss_nil) (pss_cons (ps_if (md_cmp z_notN (dv 1) pe_non (nomark _)) (pss_cons (ps_if (PW.pt (pw_or (md_cmp z_notN (dv 3) pe_non (nomark _)) (pw_or (pt_not (md_val (pe_callB z_isi_tuple rfl m_isinstance bt_isinstance (pa_cons (dv 2) (pa_cons (pe_bltn (v:= .ty "tuple") rfl m_tuple bt_tuple rfl) pa_nil))))) (pw_or1 (md_cmp (z_neS hr.units) (dv 2) (dv 1) (nomark _)))))) (pss_one (ps_ret pe_bl)) pss_nil) (pss_one (ps_ret (pe_cmpR z_eq (pe_callB z_len rfl m_len bt_len (pa_cons (pe_comp rfl (ix:=[]) (mi_list (pe_ix z_ixT (dv 2) pe_int (fun _ _=>rfl))) (fun C fp s0 H0 at0=>(pts_one (md_val (pe_callB z_isi_bool rfl m_isinstance bt_isinstance (pa_cons (dv 0) (pa_cons (pe_bltn (v:= .ty "bool") rfl m_bool bt_bool rfl) pa_nil)))))) (fun C fp s0 H0 at0=>(dv 0)) rfl rfl (by rfl) (show ([".0","_law_bit"]:List Str).Nodup by decide +kernel)) pa_nil)) pe_int (nomark _))))) pss_nil) (pss_cons (ps_if (PW.pt (pw_or (md_cmp z_isN (dv 3) pe_non (nomark _)) (pw_or (pt_not (md_val (pe_callB (call_isiXK (K:=K)) rfl m_isinstance bt_isinstance (pa_cons (dv 3) (pa_cons (pe_glob (v:= .ref a_NoStrip) rfl m_NoStrip rfl) pa_nil))))) (pw_or1 (pt_not (md_val (pe_callB (call_isiXK (K:=K)) rfl m_isinstance bt_isinstance (pa_cons (dv 3) (pa_cons (pe_bltn (v:= .ty "ValueError") rfl m_ValueError bt_ValueError rfl) pa_nil))))))))) (pss_one (ps_ret pe_bl)) pss_nil) (pss_cons (ps_if (md_val (pe_callB call_isiXT rfl m_isinstance bt_isinstance (pa_cons (dv 3) (pa_cons (pe_tup (pa_cons (pe_glob (v:= .ref a_NoBits) rfl m_NoBits rfl) (pa_cons (pe_glob (v:= .ref a_NoFrame) rfl m_NoFrame rfl) (pa_cons (pe_glob (v:= .ref a_NoKey) rfl m_NoKey rfl) (pa_cons (pe_glob (v:= .ref a_NoName) rfl m_NoName rfl) (pa_cons (pe_glob (v:= .ref a_NoPost) rfl m_NoPost rfl) pa_nil)))))) pa_nil)))) (pss_one (ps_ret pe_bl)) pss_nil) (pss_one (ps_ret (md_not (pe_callB call_isiXT rfl m_isinstance bt_isinstance (pa_cons (dv 3) (pa_cons (pe_tup (pa_cons (pe_glob (v:= .ref a_NoRail) rfl m_NoRail rfl) (pa_cons (pe_glob (v:= .ref a_NoRow) rfl m_NoRow rfl) (pa_cons (pe_glob (v:= .ref a_NoThing) rfl m_NoThing rfl) (pa_cons (pe_glob (v:= .ref a_NoWire) rfl m_NoWire rfl) pa_nil))))) pa_nil)))))))))))))),?_⟩
  have X:ExcC K a_NoStrip:=⟨fact_c1,fact_c2,fact_c3,fact_c4,fact_c5,fact_c6,fact_c7,fact_c8⟩
  have sh:=shaped_txts fun l hl=>(hT.2 l hl).2
  refine⟨_,.inl (SqL.of ea),fun hn hhn=>?_⟩
  have k1:=same_new hhn (.lst (tvs T))
  have e1:=upd_same (H:=H) (a:=hn) (o:= .lst (tvs T))
  generalize upd H hn _ = H1 at k1 e1
  refine⟨rfl,hn,T,rfl,SqL.of e1,hT.1,(fun l hl=>(hT.2 l hl).1),fun ok t2 q2 H2 ht2 hq2 htq g2 et2 eq2=>?_,fun bad H2 g2=> .inl ⟨fact_match,fun x hx=>?_⟩⟩
  · have g12:=k1.trans g2
    obtain⟨t,q_,rfl,et,eq_⟩:∃t q_,v = .ref t∧H t = some (.tup [.int (if T = [] then 0 else ((vl (T.headD []):Nat):Int)),.ref q_])∧H q_ = some (.lst ((bT T).map V.int)):=by
      rcases hv with ⟨_,h⟩ | ⟨no,_⟩
      · exact h
      · exact absurd ok no
    refine⟨_,.lst (SqL.of (g2 _ _ e1)) (DVs.txts T),.lst (SqL.of (g12 _ _ ea)) (DVs.txts T),sh,?_⟩
    conv=>whnf
    refine⟨rfl,⟨_,et2⟩,_,.tup (SqT.of et2) (.cons (.int _) (.cons (DV.ints (SqL.of eq2)) .nil)),.tup (SqT.of (g12 _ _ et)) (.cons (.int _) (.cons (DV.ints (SqL.of (g12 _ _ eq_))) .nil)),shaped_back _ _,?_⟩
    conv=>whnf
    refine⟨_,_,SqT.of et2,rfl,⟨_,SqL.of eq2⟩,comp_list (xs:=(bT T).map V.int) (fun i ys H'=>ys = []∧H' = H2) ?_ ⟨rfl,rfl⟩ (fun i ys H' _ z=>by rw [z.2];exact SqL.of eq2) ?_ ?_⟩
    · rintro i ys H' hi ⟨rfl,_⟩
      exact szl1 (Nat.zero_le _)
    · rintro i x ys H' hx ⟨rfl,rfl⟩
      obtain⟨b,rfl⟩:=get_intz hx
      exact⟨rfl,rfl,rfl⟩
    rintro ys H' ⟨rfl,rfl⟩ pz hpz
    refine⟨_,.inl (SqL.of upd_same),?_⟩
    exact q _ (g12.trans (same_new hpz _))
  have g12:=k1.trans g2
  have g3:=same_new hx (excO (.ref a_NoStrip) x none)
  have e3:=upd_same (H:=H2) (a:=x) (o:=excO (.ref a_NoStrip) x none)
  generalize upd H2 x (excO (.ref a_NoStrip) x none) = H3 at g3 e3
  have g13:=g12.trans g3
  have hvn:v = .non:=by
    rcases hv with ⟨ok,_⟩ | ⟨_,h⟩
    · exact absurd ok bad
    · exact h
  subst hvn
  refine⟨_,.lst (SqL.of (g3 _ _ (g2 _ _ e1))) (DVs.txts T),.lst (SqL.of (g13 _ _ ea)) (DVs.txts T),sh,?_⟩
  conv=>whnf
  refine⟨x,_,_,a_NoStrip,_,rfl,rfl,⟨_,e3⟩,X,kit_self,?_⟩
  refine⟨x,_,_,a_NoStrip,_,rfl,rfl,⟨_,e3⟩,X,fact_ve,?_⟩
  refine⟨small_lit rfl,fun p3 hp3=>?_⟩
  have k3:=same_new hp3 (.tup [.ref a_NoBits,.ref a_NoFrame,.ref a_NoKey,.ref a_NoName,.ref a_NoPost])
  refine⟨x,p3,_,_,a_NoStrip,false,rfl,upd_same,rfl,⟨_,k3 _ _ e3⟩,X,fact_o1,?_⟩
  refine⟨small_lit rfl,fun p4 hp4=>?_⟩
  have k4:=same_new hp4 (.tup [.ref a_NoRail,.ref a_NoRow,.ref a_NoThing,.ref a_NoWire])
  refine⟨x,p4,_,_,a_NoStrip,false,rfl,upd_same,rfl,⟨_,k4 _ _ (k3 _ _ e3)⟩,X,fact_o2,?_⟩
  exact q _ (g13.trans (k3.trans k4))
theorem sc__law_good:FnScope ["_law_script","_law_many","_law_first","_law_some","_law_k","_law_size","_law_signs"] ["_law_script"] (defScope s__law_good):=⟨rfl,rfl,rfl,by decide +kernel,rfl,by decide +kernel,by decide +kernel⟩
set_option maxHeartbeats 4000000 in
theorem ok__law_good {a__law_good:Addr} {d__law_good:FuncData} {a__law_draw:Addr} {d__law_draw:FuncData} {a__law_figures:Addr} {d__law_figures:FuncData} (F__law_good:Fun K "_law_good" "_law_good" s__law_good a__law_good d__law_good) (m_min:mg "min" = none) (m_range:mg "range" = none) (G__law_draw:FnOk P w K mg base CX0 1 a__law_draw d__law_draw ["_law_script","_law_k","_law_many"] (spDraw K)) (b__law_draw:Binds K d__law_draw ["_law_script","_law_k","_law_many"] []) (k__law_draw:PySem.W.keepIn K (.ref a__law_draw) = true) (m__law_draw:mg "_law_draw" = some (.ref a__law_draw)) (G__law_figures:FnOk P w K mg base CX0 1 a__law_figures d__law_figures ["_law_turn"] (spFig)) (b__law_figures:Binds K d__law_figures ["_law_turn"] []) (k__law_figures:PySem.W.keepIn K (.ref a__law_figures) = true) (m__law_figures:mg "_law_figures" = some (.ref a__law_figures)) :
    FnOk P w K mg base CX0 2 a__law_good d__law_good ["_law_script"] (spGoodT K):=by
  refine F__law_good.ok sc__law_good (fun vs H Q E h=>?_) (fun cdv A outer s H vs Q E hr h=>?_)
  · obtain⟨a,ns,rfl,_⟩:=h
    rfl
  obtain⟨a,ns,rfl,hS,h63,q⟩:=h
  have nd:=sc__law_good.nd
  refine⟨_,(pss_cons (ps_set (i:=1) nd rfl (Or.inl rfl) (pe_op z_add pe_int (pe_call G__law_draw (hr.mono (by decide)) rfl m__law_draw k__law_draw b__law_draw .nil pass0 (pa_cons (dv 0) (pa_cons pe_int (pa_cons pe_int pa_nil)))))) (pss_cons (ps_cut (ps_if (md_cmp z_eq (pe_call G__law_draw (hr.mono (by decide)) rfl m__law_draw k__law_draw b__law_draw .nil pass0 (pa_cons (dv 0) (pa_cons pe_int (pa_cons pe_int pa_nil)))) pe_int (nomark _)) (pss_one (ps_set (i:=1) nd rfl (Or.inl rfl) (pe_op z_add pe_int (pe_call G__law_draw (hr.mono (by decide)) rfl m__law_draw k__law_draw b__law_draw .nil pass0 (pa_cons (dv 0) (pa_cons pe_int (pa_cons pe_int pa_nil))))))) pss_nil)) (pss_cons (ps_set (i:=2) nd rfl (Or.inl rfl) (pe_op z_add (pe_op z_mul (pe_call G__law_draw (hr.mono (by decide)) rfl m__law_draw k__law_draw b__law_draw .nil pass0 (pa_cons (dv 0) (pa_cons pe_int (pa_cons pe_int pa_nil)))) pe_int) (pe_call G__law_draw (hr.mono (by decide)) rfl m__law_draw k__law_draw b__law_draw .nil pass0 (pa_cons (dv 0) (pa_cons pe_int (pa_cons pe_int pa_nil)))))) (pss_cons (ps_cut (ps_if (md_cmp z_eq (pe_call G__law_draw (hr.mono (by decide)) rfl m__law_draw k__law_draw b__law_draw .nil pass0 (pa_cons (dv 0) (pa_cons pe_int (pa_cons pe_int pa_nil)))) pe_int (nomark _)) (pss_one (ps_set (i:=2) nd rfl (Or.inl rfl) (pe_call G__law_draw (hr.mono (by decide)) rfl m__law_draw k__law_draw b__law_draw .nil pass0 (pa_cons (dv 0) (pa_cons pe_int (pa_cons pe_int pa_nil)))))) pss_nil)) (pss_cons (ps_set (i:=2) nd rfl (Or.inl rfl) (pe_cut (pe_callB (z_min2 rfl) rfl m_min bt_min (pa_cons (dv 2) (pa_cons (pe_op z_sub pe_int (pe_op z_mul pe_int (dv 1))) pa_nil))))) (pss_cons (ps_set (i:=3) nd rfl (Or.inl rfl) (pe_lst pa_nil)) (pss_cons (ps_for PassesOwn.never rfl (mi_range1 rfl m_range (pa_cons (dv 1) pa_nil)) (pg_name (i:=4) nd rfl (Or.inr rfl)) (pss_cons (ps_set (i:=5) nd rfl (Or.inl rfl) (pe_cut (pe_cut (pe_ifExp (md_cmp z_lt (pe_op z_add (dv 4) pe_int) (dv 1) (nomark _)) pe_int (pe_op z_add pe_int (pe_call G__law_draw (hr.mono (by decide)) rfl m__law_draw k__law_draw b__law_draw .nil pass0 (pa_cons (dv 0) (pa_cons pe_int (pa_cons pe_int pa_nil))))))))) (pss_cons (ps_setComp (j:=6) nd rfl rfl rfl (ix:=[0,4]) (mi_range1 rfl m_range (pa_cons (dv 5) pa_nil)) (fun C fp s0 H0 at0=>pts_nil) (fun C fp s0 H0 at0=>(pe_ix z_ixS pe_str (pe_call G__law_draw (hr.mono (by decide)) rfl m__law_draw k__law_draw b__law_draw .nil pass0 (pa_cons (dv 1) (pa_cons (pe_op z_add (pe_op z_add pe_int (pe_op z_mul pe_int (dv 2))) (dv 0)) (pa_cons pe_int pa_nil)))) (fun _ _=>rfl))) rfl rfl (by rfl) (show ([".0","_law_j","_law_script","_law_k"]:List Str).Nodup by decide +kernel)) (pss_one (ps_expr (md_append (dv 3) (pa_cons (pe_op z_addS (pe_op z_addS (pe_call G__law_figures (hr.mono (by decide)) rfl m__law_figures k__law_figures b__law_figures .nil pass0 (pa_cons (pe_op z_add (dv 2) (pe_op z_mul pe_int (dv 4))) pa_nil)) pe_str) (md_join pe_str (pa_cons (dv 6) pa_nil))) pa_nil))))))) (pss_one (ps_ret (dv 3)))))))))),?_⟩
  refine⟨a,ns,0,5,rfl,hS,h63,by decide,by decide,by decide,fun x x0 x1=>?_⟩
  obtain⟨x,rfl⟩:=Int.eq_ofNat_of_zero_le x0
  refine⟨fun σ' H'=>∃m:Nat,σ' = [some (.ref a),some (.int ((m:Nat):Int)),none,none,none,none,none]∧H' = H∧1≤m∧m≤49,?_,?_⟩
  · refine⟨a,ns,1,10,rfl,hS,h63,by decide,by decide,by decide,fun y y0 y1=>?_⟩
    refine ite2 (fun c=>?_) (fun c=>?_)
    · refine⟨a,ns,0,49,rfl,hS,h63,by decide,by decide,by decide,fun z z0 z1=>?_⟩
      obtain⟨z,rfl⟩:=Int.eq_ofNat_of_zero_le z0
      exact⟨1 + z,by rw [Int.natCast_add];rfl,rfl,by omega,by omega⟩
    · exact⟨1 + x,by rw [Int.natCast_add];rfl,rfl,by omega,by omega⟩
  rintro σ' H_ ⟨m,rfl,e_H,m1,m49⟩
  rw [e_H]
  clear e_H
  refine⟨a,ns,2,500000,rfl,hS,h63,by decide,by decide,by decide,fun f0 f0a f0b=>?_⟩
  refine⟨⟨big64 (by omega) (by omega),by decide⟩,a,ns,3,2,rfl,hS,h63,by decide,by decide,by decide,fun f1 f1a f1b=>?_⟩
  refine⟨fun σ' H'=>∃f:Int,σ' = [some (.ref a),some (.int ((m:Nat):Int)),some (.int f),none,none,none,none]∧H' = H∧0≤f∧f < 1000002,?_,?_⟩
  · refine⟨a,ns,4,3,rfl,hS,h63,by decide,by decide,by decide,fun y y0 y1=>?_⟩
    refine ite2 (fun c=>?_) (fun c=>⟨_,rfl,rfl,by omega,by omega⟩)
    refine⟨a,ns,2,300,rfl,hS,h63,by decide,by decide,by decide,fun z z0 z1=>?_⟩
    exact⟨z,rfl,rfl,by omega,by omega⟩
  rintro σ' H_ ⟨f,rfl,e_H,fa_,fb_⟩
  rw [e_H]
  clear e_H
  obtain⟨g,hg⟩:∃g:Nat,min f (1000000 - 40 * ((m:Nat):Int)) = ((g:Nat):Int):=⟨(min f (1000000 - 40 * ((m:Nat):Int))).toNat,by omega⟩
  have hgm:g + 40 * m≤10 ^ 6:=by omega
  refine⟨fun v H'=>v = .int ((g:Nat):Int)∧H' = H,⟨⟨by decide,big64 (by omega) (by omega)⟩,congrArg V.int hg,rfl⟩,?_⟩
  rintro v_ H_ ⟨rfl,e_H⟩
  rw [e_H]
  clear e_H
  refine⟨small_lit rfl,fun D hD=>?_⟩
  have k3:=same_new hD (.lst [])
  have eD:=upd_same (H:=H) (a:=D) (o:= .lst [])
  generalize upd H D _ = H3 at k3 eD
  have em:((m:Nat):Int).toNat = m:=Int.toNat_natCast m
  refine⟨⟨by omega,by omega⟩,for_range (fun i σ H'=>(∃x y z T,σ = [some (.ref a),some (.int ((m:Nat):Int)),some (.int ((g:Nat):Int)),some (.ref D),x,y,z]∧Same H H'∧H' D = some (.lst (tvs T))∧T.length = i∧∀k l,T[k]? = some l→∃bs:List Int,l = stl (g + 40 * k) bs∧1≤bs.length∧bs.length≤40∧(k + 1 < m→bs.length = 40))) ⟨_,_,_, [],rfl,k3,eD,rfl,fun _ _ h=>by cases h⟩ ?_ ?_⟩
  · rintro i σ H' hi ⟨x,y,z,T,rfl,g1,eD1,hTl,hT⟩
    rw [em] at hi
    refine⟨fun v H''=>∃n:Nat,v = .int ((n:Nat):Int)∧1≤n∧n≤40∧(i + 1 < m→n = 40)∧H'' = H',?_,?_⟩
    · refine⟨fun v H''=>∃n:Nat,v = .int ((n:Nat):Int)∧1≤n∧n≤40∧(i + 1 < m→n = 40)∧H'' = H',?_,fun _ _ h=>h⟩
      conv=>whnf
      refine ite2 (fun c=>?_) (fun c=>?_)
      · exact⟨40,rfl,by decide,by decide,fun _=>rfl,rfl⟩
      · have c1:¬ 0 + ((i:Nat):Int) + 1 < ((m:Nat):Int):=dec_false c
        refine⟨a,ns,5,40,rfl,g1.seq hS,h63,by decide,by decide,by decide,fun y y0 y1=>?_⟩
        obtain⟨y,rfl⟩:=Int.eq_ofNat_of_zero_le y0
        exact⟨1 + y,by rw [Int.natCast_add];rfl,by omega,by omega,fun z=>absurd z (by omega),rfl⟩
    rintro v_ H_ ⟨n,rfl,n1,n40,nm,e_H⟩
    rw [e_H]
    clear e_H
    have en:((n:Nat):Int).toNat = n:=Int.toNat_natCast n
    refine⟨⟨by omega,by omega⟩,comp_range (fun j ys H''=>∃bs:List Int,ys = (bs.map fun b=>V.str (txt [sgn b]))∧bs.length = j∧H'' = H') ?_ ⟨[],rfl,rfl,rfl⟩ ?_ ?_⟩
    · rintro j ys H'' hj ⟨bs,rfl,hbl,_⟩
      rw [en] at hj
      refine szl1 ?_
      rw [List.length_map]
      omega
    · rintro j ys H'' hj ⟨bs,rfl,hbl,rfl⟩
      rw [en] at hj
      refine⟨⟨by decide,big64 (by omega) (by omega)⟩,a,ns,_,2,rfl,g1.seq hS,h63,by omega,by omega,by decide,fun d d0 d1=>?_⟩
      refine⟨sgn d,szl (by decide),?_,bs ++ [d],by rw [List.map_append];rfl,by rw [List.length_append,hbl];rfl,rfl⟩
      have:d = 0∨d = 1:=by omega
      rcases this with rfl | rfl <;> rfl
    rintro ys H'' ⟨bs,rfl,hbl,e_H⟩ p6 hp6
    rw [e_H] at hp6 ⊢
    clear e_H
    have k6:=same_new hp6 (.lst (bs.map fun b=>V.str (txt [sgn b])))
    have e6:=upd_same (H:=H') (a:=p6) (o:= .lst (bs.map fun b=>V.str (txt [sgn b])))
    generalize upd H' p6 _ = H6 at k6 e6
    rw [en] at hbl
    refine⟨⟨_,SqL.of (k6 _ _ eD1)⟩,⟨by decide,big64 (by omega) (by omega)⟩,g + 40 * i,by show [V.int (((g:Nat):Int) + 40 * (0 + ((i:Nat):Int)))] = _;rw [show ((g:Nat):Int) + 40 * (0 + ((i:Nat):Int)) = ((g + 40 * i:Nat):Int) by omega],?_⟩
    refine⟨by show (txt (fg 6 (g + 40 * i))).length + 1≤sizeLine;rw [txt_len,fg_len];exact szl (by decide),?_⟩
    refine⟨(bs.map fun b=>[sgn b]).map txt,?_,join1 ?_ (by rw [List.length_map];omega),?_⟩
    · rw [e6,List.map_map,List.map_map];rfl
    · intro l hl2
      obtain⟨b,_,rfl⟩:=List.mem_map.mp hl2
      rfl
    have ej:Txt.join (txt []) ((bs.map fun b=>[sgn b]).map txt) = txt (bs.map sgn):=by rw [join_empty,flat_sgn]
    have eb:txt (fg 6 (g + 40 * i)) ++ (" ":Str) = txt (fg 6 (g + 40 * i) ++ [32]):=txt_add _ [32]
    have el:(txt (fg 6 (g + 40 * i)) ++ (" ":Str)).length + (Txt.join (txt []) ((bs.map fun b=>[sgn b]).map txt)).length≤sizeLine:=by
      rw [eb,ej,txt_len,txt_len,List.length_append,fg_len,List.length_map]
      exact szl (by show 6 + 1 + _≤9000;omega)
    have ef:txt (fg 6 (g + 40 * i)) ++ (" ":Str) ++ Txt.join (txt []) ((bs.map fun b=>[sgn b]).map txt) = txt (stl (g + 40 * i) bs):=by rw [eb,ej,txt_add];rfl
    refine⟨el,_,k6 _ _ eD1,szl1 (by rw [List.length_map];omega),_,_,_,T ++ [stl (g + 40 * i) bs],rfl,(g1.trans k6).put hD,?_,by rw [List.length_append,hTl];rfl,fun k l hk=>?_⟩
    · rw [upd_same]
      show some (HO.lst (tvs T ++ [V.str _])) = some (HO.lst (tvs (T ++ [_])))
      rw [tvs,tvs,List.map_append]
      exact congrArg (fun z=>some (HO.lst (_ ++ [V.str z]))) ef
    · by_cases hk2:k < T.length
      · rw [List.getElem?_append_left hk2] at hk
        exact hT k l hk
      · have hkl:=(List.getElem?_eq_some_iff.mp hk).1
        rw [List.length_append] at hkl
        have hkl2:k < T.length + 1:=hkl
        have ek:k = T.length:=by omega
        rw [ek,List.getElem?_append_right (Nat.le_refl _),Nat.sub_self] at hk
        cases hk
        exact⟨bs,by rw [ek,hTl],by omega,by omega,fun z=>by have:=nm (by omega);omega⟩
  rintro σ H' ⟨x,y,z,T,rfl,g1,eD1,hTl,hT⟩
  rw [em] at hTl
  have hl:∀l∈T,8≤l.length∧l.length≤47∧∀c∈l,c < 200:=fun l hl=>by
    obtain⟨k,hk⟩:=List.getElem?_of_mem hl
    obtain⟨bs,rfl,b1,b2,_⟩:=hT k l hk
    have:=stl_len (g + 40 * k) bs
    exact⟨by omega,by omega,stl_lt⟩
  exact q D T H' hD g1 eD1 (all_good hTl hgm hT) ⟨by omega,fun l h=>⟨by have:=(hl l h).2.1;omega,(hl l h).2.2⟩⟩ (fun z=>by rw [z] at hTl;simp at hTl;omega) (by omega) fun l h=>⟨(hl l h).1,(hl l h).2.1⟩
theorem sc__law_spoiled:FnScope ["_law_script","_law_some","_law_at","_law_text","_law_place","_law_sign","_law_way","_law_turn"] ["_law_script","_law_some"] (defScope s__law_spoiled):=⟨rfl,rfl,rfl,by decide +kernel,rfl,by decide +kernel,by decide +kernel⟩
set_option maxHeartbeats 4000000 in
theorem ok__law_spoiled {a__law_spoiled:Addr} {d__law_spoiled:FuncData} {a__law_draw:Addr} {d__law_draw:FuncData} {a__law_figures:Addr} {d__law_figures:FuncData} (F__law_spoiled:Fun K "_law_spoiled" "_law_spoiled" s__law_spoiled a__law_spoiled d__law_spoiled) (m_list:mg "list" = none) (m_len:mg "len" = none) (m_int:mg "int" = none) (m_max:mg "max" = none) (m_range:mg "range" = none) (G__law_draw:FnOk P w K mg base CX0 1 a__law_draw d__law_draw ["_law_script","_law_k","_law_many"] (spDraw K)) (b__law_draw:Binds K d__law_draw ["_law_script","_law_k","_law_many"] []) (k__law_draw:PySem.W.keepIn K (.ref a__law_draw) = true) (m__law_draw:mg "_law_draw" = some (.ref a__law_draw)) (G__law_figures:FnOk P w K mg base CX0 1 a__law_figures d__law_figures ["_law_turn"] (spFig)) (b__law_figures:Binds K d__law_figures ["_law_turn"] []) (k__law_figures:PySem.W.keepIn K (.ref a__law_figures) = true) (m__law_figures:mg "_law_figures" = some (.ref a__law_figures)) :
    FnOk P w K mg base CX0 2 a__law_spoiled d__law_spoiled ["_law_script","_law_some"] (spSpoilT K):=by
  refine F__law_spoiled.ok sc__law_spoiled (fun vs H Q E h=>?_) (fun cdv A outer s H vs Q E hr h=>?_)
  · obtain⟨a,p0,ns,T,rfl,_⟩:=h
    rfl
  obtain⟨a,p0,ns,T,rfl,hS,h63,e0,ok,hT,hne,h49,hl,q⟩:=h
  have nd:=sc__law_spoiled.nd
  refine⟨_,(pss_cons (ps_set (i:=1) nd rfl (Or.inr rfl) (pe_callTy z_listOf rfl m_list bt_list (pa_cons (dv 1) pa_nil))) (pss_cons (ps_set (i:=2) nd rfl (Or.inl rfl) (pe_call G__law_draw (hr.mono (by decide)) rfl m__law_draw k__law_draw b__law_draw .nil pass0 (pa_cons (dv 0) (pa_cons pe_int (pa_cons (pe_callB z_len rfl m_len bt_len (pa_cons (dv 1) pa_nil)) pa_nil))))) (pss_cons (ps_set (i:=3) nd rfl (Or.inl rfl) (pe_ix z_ixL (dv 1) (dv 2) (fun _ _=>rfl))) (pss_cons (ps_set (i:=4) nd rfl (Or.inl rfl) (pe_call G__law_draw (hr.mono (by decide)) rfl m__law_draw k__law_draw b__law_draw .nil pass0 (pa_cons (dv 0) (pa_cons pe_int (pa_cons (pe_callB z_lenS rfl m_len bt_len (pa_cons (dv 3) pa_nil)) pa_nil))))) (pss_cons (ps_cut (ps_if (md_cmp z_eq (pe_call G__law_draw (hr.mono (by decide)) rfl m__law_draw k__law_draw b__law_draw .nil pass0 (pa_cons (dv 0) (pa_cons pe_int (pa_cons pe_int pa_nil)))) pe_int (nomark _)) (pss_one (ps_set (i:=4) nd rfl (Or.inl rfl) (pe_op z_add pe_int (pe_call G__law_draw (hr.mono (by decide)) rfl m__law_draw k__law_draw b__law_draw .nil pass0 (pa_cons (dv 0) (pa_cons pe_int (pa_cons pe_int pa_nil))))))) pss_nil)) (pss_cons (ps_set (i:=5) nd rfl (Or.inl rfl) (pe_ix z_ixS pe_str (pe_call G__law_draw (hr.mono (by decide)) rfl m__law_draw k__law_draw b__law_draw .nil pass0 (pa_cons (dv 0) (pa_cons pe_int (pa_cons pe_int pa_nil)))) (fun _ _=>rfl))) (pss_cons (ps_set (i:=6) nd rfl (Or.inl rfl) (pe_call G__law_draw (hr.mono (by decide)) rfl m__law_draw k__law_draw b__law_draw .nil pass0 (pa_cons (dv 0) (pa_cons pe_int (pa_cons pe_int pa_nil))))) (pss_cons (ps_if (md_cmp z_eq (dv 6) pe_int (nomark _)) (pss_one (ps_asg (pe_op z_addS (pe_op z_addS (pe_slice z_slG (dv 3) po_none (md_part (dv 4))) (dv 5)) (pe_slice z_slG (dv 3) (md_part (dv 4)) po_none)) (pg_sub (dv 1) (dv 2) z_setL))) pss_nil) (pss_cons (ps_if (md_cmp z_eq (dv 6) pe_int (nomark _)) (pss_one (ps_asg (pe_op z_addS (pe_slice z_slG (dv 3) po_none (md_part (dv 4))) (pe_slice z_slG (dv 3) (md_part (pe_op z_add (dv 4) pe_int)) po_none)) (pg_sub (dv 1) (dv 2) z_setL))) pss_nil) (pss_cons (ps_if (md_cmp z_eq (dv 6) pe_int (nomark _)) (pss_one (ps_asg (pe_op z_addS (pe_op z_addS (pe_slice z_slG (dv 3) po_none (md_part (dv 4))) (dv 5)) (pe_slice z_slG (dv 3) (md_part (pe_op z_add (dv 4) pe_int)) po_none)) (pg_sub (dv 1) (dv 2) z_setL))) pss_nil) (pss_cons (ps_if (md_cmp z_eq (dv 6) pe_int (nomark _)) (pss_cons (ps_set (i:=7) nd rfl (Or.inl rfl) (pe_op z_add (pe_callTy z_intS rfl m_int bt_int (pa_cons (pe_slice z_slG (dv 3) po_none (md_part pe_int)) pa_nil)) (pe_ix z_ixL (pe_lst (pa_cons pe_int (pa_cons (pe_un z_neg pe_int) (pa_cons pe_int (pa_cons (pe_un z_neg pe_int) (pa_cons pe_int (pa_cons pe_int pa_nil))))))) (pe_call G__law_draw (hr.mono (by decide)) rfl m__law_draw k__law_draw b__law_draw .nil pass0 (pa_cons (dv 0) (pa_cons pe_int (pa_cons pe_int pa_nil)))) (fun _ _=>rfl)))) (pss_one (ps_asg (pe_op z_addS (pe_call G__law_figures (hr.mono (by decide)) rfl m__law_figures k__law_figures b__law_figures .nil pass0 (pa_cons (pe_callB (z_max2 rfl) rfl m_max bt_max (pa_cons pe_int (pa_cons (dv 7) pa_nil))) pa_nil)) (pe_slice z_slG (dv 3) (md_part pe_int) po_none)) (pg_sub (dv 1) (dv 2) z_setL)))) pss_nil) (pss_cons (ps_if (md_cmp z_eq (dv 6) pe_int (nomark _)) (pss_one (ps_expr (md_popAt (dv 1) (pa_cons (dv 2) pa_nil)))) pss_nil) (pss_cons (ps_if (md_cmp z_eq (dv 6) pe_int (nomark _)) (pss_one (ps_expr (md_insert (dv 1) (pa_cons (dv 2) (pa_cons (dv 3) pa_nil))))) pss_nil) (pss_cons (ps_if (md_cmp z_eq (dv 6) pe_int (nomark _)) (pss_one (ps_asg (pe_slice z_slG (dv 3) po_none (md_part pe_int)) (pg_sub (dv 1) (dv 2) z_setL))) pss_nil) (pss_cons (ps_if (md_cmp z_eq (dv 6) pe_int (nomark _)) (pss_one (ps_asg (pe_op z_addS (dv 3) (pe_op z_mulS pe_str (pe_op z_add pe_int (pe_call G__law_draw (hr.mono (by decide)) rfl m__law_draw k__law_draw b__law_draw .nil pass0 (pa_cons (dv 0) (pa_cons pe_int (pa_cons pe_int pa_nil))))))) (pg_sub (dv 1) (dv 2) z_setL))) pss_nil) (pss_cons (ps_if (md_cmp z_eq (dv 6) pe_int (nomark _)) (pss_one (ps_asg (pe_slice z_slG (dv 3) po_none (md_part (pe_call G__law_draw (hr.mono (by decide)) rfl m__law_draw k__law_draw b__law_draw .nil pass0 (pa_cons (dv 0) (pa_cons pe_int (pa_cons pe_int pa_nil)))))) (pg_sub (dv 1) (dv 2) z_setL))) pss_nil) (pss_cons (ps_if (md_cmp z_eq (dv 6) pe_int (nomark _)) (pss_one (ps_ret (pe_comp rfl (ix:=[1]) (mi_range1 rfl m_range (pa_cons (pe_callB z_len rfl m_len bt_len (pa_cons (dv 1) pa_nil)) pa_nil)) (fun C fp s0 H0 at0=>pts_nil) (fun C fp s0 H0 at0=>(pe_op z_addS (pe_call G__law_figures (hr.mono (by decide)) rfl m__law_figures k__law_figures b__law_figures .nil pass0 (pa_cons (pe_op z_add pe_int (pe_op z_mul pe_int (dv 0))) pa_nil)) (pe_slice z_slG (pe_ix (z_ixLK (K:=K)) (dv 1) (dv 0) (fun _ _=>rfl)) (md_part pe_int) po_none))) rfl rfl (by rfl) (show ([".0","_law_k","_law_some"]:List Str).Nodup by decide +kernel)))) pss_nil) (pss_one (ps_ret (dv 1)))))))))))))))))))),?_⟩
  refine⟨_,.inl (SqL.of e0),fun p hp=>?_⟩
  have g1:=same_new hp (.lst (tvs T))
  have e1:=upd_same (H:=H) (a:=p) (o:= .lst (tvs T))
  generalize upd H p _ = H1 at g1 e1
  have hS1:=g1.seq hS
  have lt:(tvs T).length = T.length:=List.length_map ..
  have Tpos:0 < T.length:=List.length_pos_iff.mpr hne
  refine⟨_,.inl (SqL.of e1),?_⟩
  rw [lt]
  refine⟨a,ns,6,_,rfl,hS1,h63,by decide,by decide,by omega,fun at_ at0 at1=>?_⟩
  obtain⟨i,rfl⟩:=Int.eq_ofNat_of_zero_le at0
  have hi:i < T.length:=by omega
  obtain⟨l,hli⟩:∃l,T[i]? = some l:=⟨_,List.getElem?_eq_getElem hi⟩
  have hlm:l∈T:=List.mem_of_getElem? hli
  obtain⟨l8,l47⟩:=hl l hlm
  have lc:=(hT.2 l hlm).2
  refine⟨_,_,SqL.of e1,at_map hli,?_⟩
  refine⟨by rw [txt_len];exact szl (by omega),?_⟩
  refine⟨a,ns,7,((txt l).length:Nat),rfl,hS1,h63,by decide,by decide,by rw [txt_len];omega,fun pl pl0 pl1=>?_⟩
  rw [txt_len] at pl1
  refine⟨fun σ' H'=>∃pl:Nat,σ' = [some (.ref a),some (.ref p),some (.int ((i:Nat):Int)),some (.str (txt l)),some (.int ((pl:Nat):Int)),none,none,none]∧H' = H1∧pl < 47,?_,?_⟩
  · refine⟨a,ns,8,3,rfl,hS1,h63,by decide,by decide,by decide,fun y y0 y1=>?_⟩
    obtain⟨pl,rfl⟩:=Int.eq_ofNat_of_zero_le pl0
    refine ite2 (fun c=>?_) (fun c=>⟨pl,rfl,rfl,by omega⟩)
    refine⟨a,ns,7,3,rfl,hS1,h63,by decide,by decide,by decide,fun z z0 z1=>?_⟩
    obtain⟨z,rfl⟩:=Int.eq_ofNat_of_zero_le z0
    exact⟨5 + z,by rw [Int.natCast_add];rfl,rfl,by omega⟩
  clear pl0 pl1 pl
  rintro σ' H_ ⟨pl,rfl,e_H,hpl⟩
  rw [e_H]
  clear e_H
  refine⟨a,ns,9,20,rfl,hS1,h63,by decide,by decide,by decide,fun sg sg0 sg1=>?_⟩
  obtain⟨c,hc1,hc2⟩:=sg20 sg sg0 sg1
  refine⟨c,szl (by decide),hc1,?_⟩
  refine⟨a,ns,10,10,rfl,hS1,h63,by decide,by decide,by decide,fun wy wy0 wy1=>?_⟩
  have h10:wy = 0∨wy = 1∨wy = 2∨wy = 3∨wy = 4∨wy = 5∨wy = 6∨wy = 7∨wy = 8∨wy = 9:=by omega
  have lu:∀n,(l.take n).length≤47:=fun n=>by rw [List.length_take];omega
  have ld:∀n,(l.drop n).length≤47:=fun n=>by rw [List.length_drop];omega
  have cu:∀n,∀c∈l.take n,c < 200:=fun n c h=>lc c (List.mem_of_mem_take h)
  have cd:∀n,∀c∈l.drop n,c < 200:=fun n c h=>lc c (List.mem_of_mem_drop h)
  have ca:∀{x y:List Nat},(∀c∈x,c < 200)→(∀c∈y,c < 200)→∀c∈x ++ y,c < 200:=fun h1 h2 c h=>(List.mem_append.mp h).elim (h1 c) (h2 c)
  have c1s:∀c'∈ [c],c' < 200:=fun c' h=>by rw [List.mem_singleton.mp h];exact hc2
  have ixi:ixN (tvs T).length ((i:Nat):Int) = some i:=ixN_nat (by rw [lt];exact hi)
  have fin:∀{z:Str} (l':List Nat),z = txt l'→l'.length≤100→(∀c∈l',c < 200)→Q (.ref p) (upd H1 p (.lst ((tvs T).set i (.str z)))):=fun l' h0 h1 h2=>by
    rw [h0]
    exact q p (T.set i l') _ (g1.put hp) (by rw [upd_same,tvs_set]) (hT.set h1 h2)
  have el:∀{x y:List Nat},x.length + y.length≤9000→(txt x).length + (txt y).length≤sizeLine:=fun h=>by rw [txt_len,txt_len];exact szl h
  have e1c:(⟨#[c]⟩:Str) = txt [c]:=rfl
  rcases h10 with rfl | rfl | rfl | rfl | rfl | rfl | rfl | rfl | rfl | rfl
  · conv=>whnf
    refine⟨0,min pl l.length,⟨Nat.zero_le _,by rw [txt_len];omega,by rw [txt_len];exact szl (by omega)⟩,.inl ⟨rfl,rfl⟩,.inr ⟨pl,rfl,by rw [txt_len]⟩,?_⟩
    rw [txt_cps,take_min]
    refine⟨el (x:=l.take pl) (y:=[c]) (by have:=lu pl;show _ + 1≤9000;omega),?_⟩
    rw [e1c,txt_add]
    refine⟨min pl l.length,l.length,⟨by omega,by rw [txt_len];exact Nat.le_refl _,by rw [txt_len];exact szl (by omega)⟩,.inr ⟨pl,rfl,by rw [txt_len]⟩,.inl ⟨rfl,by rw [txt_len]⟩,?_⟩
    rw [txt_cps,drop_min]
    refine⟨el (by have:=lu pl;have:=ld pl;rw [List.length_append];show _ + 1 + _≤9000;omega),?_⟩
    rw [txt_add]
    refine⟨_,i,e1,ixi,?_⟩
    exact fin _ rfl (by have:=lu pl;have:=ld pl;rw [List.length_append,List.length_append];show _ + 1 + _≤100;omega) (ca (ca (cu _) c1s) (cd _))
  · conv=>whnf
    refine⟨0,min pl l.length,⟨Nat.zero_le _,by rw [txt_len];omega,by rw [txt_len];exact szl (by omega)⟩,.inl ⟨rfl,rfl⟩,.inr ⟨pl,rfl,by rw [txt_len]⟩,?_⟩
    rw [txt_cps,take_min]
    refine⟨min (pl + 1) l.length,l.length,⟨by omega,by rw [txt_len];exact Nat.le_refl _,by rw [txt_len];exact szl (by omega)⟩,.inr ⟨(pl + 1),rfl,by rw [txt_len]⟩,.inl ⟨rfl,by rw [txt_len]⟩,?_⟩
    rw [txt_cps,drop_min]
    refine⟨el (by have:=lu pl;have:=ld (pl + 1);omega),?_⟩
    rw [txt_add]
    refine⟨_,i,e1,ixi,?_⟩
    exact fin _ rfl (by have:=lu pl;have:=ld (pl + 1);rw [List.length_append];omega) (ca (cu _) (cd _))
  · conv=>whnf
    refine⟨0,min pl l.length,⟨Nat.zero_le _,by rw [txt_len];omega,by rw [txt_len];exact szl (by omega)⟩,.inl ⟨rfl,rfl⟩,.inr ⟨pl,rfl,by rw [txt_len]⟩,?_⟩
    rw [txt_cps,take_min]
    refine⟨el (x:=l.take pl) (y:=[c]) (by have:=lu pl;show _ + 1≤9000;omega),?_⟩
    rw [e1c,txt_add]
    refine⟨min (pl + 1) l.length,l.length,⟨by omega,by rw [txt_len];exact Nat.le_refl _,by rw [txt_len];exact szl (by omega)⟩,.inr ⟨(pl + 1),rfl,by rw [txt_len]⟩,.inl ⟨rfl,by rw [txt_len]⟩,?_⟩
    rw [txt_cps,drop_min]
    refine⟨el (by have:=lu pl;have:=ld (pl + 1);rw [List.length_append];show _ + 1 + _≤9000;omega),?_⟩
    rw [txt_add]
    refine⟨_,i,e1,ixi,?_⟩
    exact fin _ rfl (by have:=lu pl;have:=ld (pl + 1);rw [List.length_append,List.length_append];show _ + 1 + _≤100;omega) (ca (ca (cu _) c1s) (cd _))
  · conv=>whnf
    refine⟨0,min 6 l.length,⟨Nat.zero_le _,by rw [txt_len];omega,by rw [txt_len];exact szl (by omega)⟩,.inl ⟨rfl,rfl⟩,.inr ⟨6,rfl,by rw [txt_len]⟩,?_⟩
    rw [txt_cps,take_min]
    refine⟨_,int_dig (ok i l hli).1,by rw [txt_len];have:=lu 6;omega,small_lit rfl,fun lp hlp=>?_⟩
    have k3:=same_new hlp (.lst [.int 1,.int (-1),.int 40,.int (-40),.int 400,.int 39])
    have e3:=upd_same (H:=H1) (a:=lp) (o:= .lst [.int 1,.int (-1),.int 40,.int (-40),.int 400,.int 39])
    have e1':=k3 _ _ e1
    generalize upd H1 lp _ = H3 at k3 e3 e1'
    refine⟨a,ns,11,6,rfl,k3.seq hS1,h63,by decide,by decide,by decide,fun z z0 z1=>?_⟩
    obtain⟨v,hv⟩:∃v:Int,atI [V.int 1,V.int (-1),V.int 40,V.int (-40),V.int 400,V.int 39] z = some (V.int v):=by
      have:z = 0∨z = 1∨z = 2∨z = 3∨z = 4∨z = 5:=by omega
      rcases this with rfl | rfl | rfl | rfl | rfl | rfl <;> exact⟨_,rfl⟩
    refine⟨_,_,SqL.of e3,hv,?_⟩
    refine⟨(max 0 (((vl l:Nat):Int) + v)).toNat,congrArg (fun z=>[V.int z]) (show max 0 (((vl l:Nat):Int) + v) = _ by omega),?_⟩
    refine⟨min 6 l.length,l.length,⟨by omega,by rw [txt_len];exact Nat.le_refl _,by rw [txt_len];exact szl (by omega)⟩,.inr ⟨6,rfl,by rw [txt_len]⟩,.inl ⟨rfl,by rw [txt_len]⟩,?_⟩
    rw [txt_cps,drop_min]
    refine⟨el (by have:=ld 6;rw [fg_len];omega),?_⟩
    rw [txt_add]
    refine⟨_,i,e1',ixi,?_⟩
    exact q p (T.set i (fg 6 (max 0 (((vl l:Nat):Int) + v)).toNat ++ l.drop 6)) _ ((g1.trans k3).put hp) (by rw [upd_same,tvs_set]) (hT.set (by have:=ld 6;rw [List.length_append,fg_len];omega) (ca fg_lt (cd _)))
  · conv=>whnf
    refine⟨⟨_,e1⟩,_,i,_,e1,⟨by omega,by omega⟩,?_,by rw [List.getElem?_map,hli];rfl,?_⟩
    · have:=seqIndex_of (k:=((i:Nat):Int)) (n:=(tvs T).length) (by omega) (by rw [lt];omega)
      rwa [Int.toNat_natCast] at this
    refine q p (T.eraseIdx i) _ (g1.put hp) (by rw [upd_same,tvs_erase]) ⟨by rw [List.length_eraseIdx_of_lt hi];omega,fun x hx=>hT.2 x (List.mem_of_mem_eraseIdx hx)⟩
  · conv=>whnf
    refine⟨⟨_,SqL.of e1⟩,i,_,rfl,e1,by rw [lt];omega,by rw [lt];exact szl1 (by omega),by omega,?_⟩
    refine q p (T.take i ++ l :: T.drop i) _ (g1.put hp) (by rw [upd_same,tvs,tvs,List.map_append,List.map_cons,List.map_take,List.map_drop]) ⟨by rw [List.length_append,List.length_cons,List.length_take,List.length_drop];omega,fun x hx=>?_⟩
    rcases List.mem_append.mp hx with h | h
    · exact hT.2 x (List.mem_of_mem_take h)
    · rcases List.mem_cons.mp h with rfl | h
      · exact hT.2 _ hlm
      · exact hT.2 x (List.mem_of_mem_drop h)
  · conv=>whnf
    refine⟨0,min 7 l.length,⟨Nat.zero_le _,by rw [txt_len];omega,by rw [txt_len];exact szl (by omega)⟩,.inl ⟨rfl,rfl⟩,.inr ⟨7,rfl,by rw [txt_len]⟩,?_⟩
    rw [txt_cps,take_min]
    refine⟨_,i,e1,ixi,?_⟩
    exact fin _ rfl (by have:=lu 7;omega) (cu _)
  · conv=>whnf
    refine⟨a,ns,11,3,rfl,hS1,h63,by decide,by decide,by decide,fun z z0 z1=>?_⟩
    obtain⟨n,hn,hm1,hm2⟩:=mul3 z z0 z1
    refine⟨hm1,?_⟩
    rw [show (Txt.mul (PySem.Str.ofString "_") (1 + z)) = txt (List.replicate n 95) from hm2]
    refine⟨el (by rw [List.length_replicate];omega),?_⟩
    rw [txt_add]
    refine⟨_,i,e1,ixi,?_⟩
    exact fin _ rfl (by rw [List.length_append,List.length_replicate];omega) (ca lc fun c h=>by rw [List.eq_of_mem_replicate h];decide)
  · conv=>whnf
    refine⟨a,ns,11,9,rfl,hS1,h63,by decide,by decide,by decide,fun z z0 z1=>?_⟩
    obtain⟨z,rfl⟩:=Int.eq_ofNat_of_zero_le z0
    refine⟨0,min z l.length,⟨Nat.zero_le _,by rw [txt_len];omega,by rw [txt_len];exact szl (by omega)⟩,.inl ⟨rfl,rfl⟩,.inr ⟨z,rfl,by rw [txt_len]⟩,?_⟩
    rw [txt_cps,take_min]
    refine⟨_,i,e1,ixi,?_⟩
    exact fin _ rfl (by have:=lu z;omega) (cu _)
  · conv =>whnf
    refine⟨_,.inl (SqL.of e1),?_⟩
    rw [lt]
    have em:((T.length:Nat):Int).toNat = T.length:=Int.toNat_natCast _
    refine⟨⟨by omega,by omega⟩,comp_range (fun j ys H'=>∃T',ys = tvs T'∧T'.length = j∧(∀l∈T',l.length≤100∧∀c∈l,c < 200)∧H' = H1) ?_ ⟨[],rfl,rfl,(fun _ h=>by cases h),rfl⟩ ?_ ?_⟩
    · rintro j ys H'' hj ⟨T',rfl,hbl,_⟩
      rw [em] at hj
      refine szl1 ?_
      rw [List.length_map]
      omega
    · rintro j ys H'' hj ⟨T',rfl,hbl,hT',rfl⟩
      rw [em] at hj
      obtain⟨lj,hlj⟩:∃l,T[j]? = some l:=⟨_,List.getElem?_eq_getElem hj⟩
      have hm:=List.mem_of_getElem? hlj
      obtain⟨m8,m47⟩:=hl lj hm
      have ej:(0:Int) + ((j:Nat):Int) = ((j:Nat):Int):=by omega
      rw [ej]
      refine⟨⟨by decide,big64 (by omega) (by omega)⟩,999960 + 40 * j,congrArg (fun z=>[V.int z]) (show 999960 + 40 * ((j:Nat):Int) = _ by omega),_,_,SqL.of e1,at_map hlj,?_⟩
      refine⟨min 6 lj.length,lj.length,⟨by omega,by rw [txt_len];exact Nat.le_refl _,by rw [txt_len];exact szl (by omega)⟩,.inr ⟨6,rfl,by rw [txt_len]⟩,.inl ⟨rfl,by rw [txt_len]⟩,?_⟩
      rw [txt_cps,drop_min]
      have ljd:(lj.drop 6).length≤47:=by rw [List.length_drop];omega
      refine⟨el (by rw [fg_len];omega),?_⟩
      rw [txt_add]
      refine⟨T' ++ [fg 6 (999960 + 40 * j) ++ lj.drop 6],by rw [tvs,tvs,List.map_append];rfl,by rw [List.length_append,hbl];rfl,fun x hx=>?_,rfl⟩
      rcases List.mem_append.mp hx with h | h
      · exact hT' x h
      · rw [List.mem_singleton.mp h]
        exact⟨by rw [List.length_append,fg_len];omega,ca fg_lt fun c h=>(hT.2 lj hm).2 c (List.mem_of_mem_drop h)⟩
    rintro ys H'' ⟨T',rfl,hbl,hT',e_H⟩ p6 hp6
    rw [e_H] at hp6 ⊢
    rw [em] at hbl
    exact q p6 T' _ (g1.trans (same_new hp6 _)) upd_same ⟨by omega,hT'⟩
theorem sc_law:FnScope ["_law_script","_law_some","_law_spoiled_here"] ["_law_script"] (defScope s_law):=⟨rfl,rfl,rfl,by decide +kernel,rfl,by decide +kernel,by decide +kernel⟩
set_option maxHeartbeats 4000000 in
theorem ok_law {a_law:Addr} {d_law:FuncData} {a__law_good:Addr} {d__law_good:FuncData} {a__law_spoiled:Addr} {d__law_spoiled:FuncData} {a__law_is_told:Addr} {d__law_is_told:FuncData} {a__law_due:Addr} {d__law_due:FuncData} {a_NoStrip:Addr} (F_law:Fun K "law" "law" s_law a_law d_law) (m_NoStrip:mg "NoStrip" = some (.ref a_NoStrip)) (G__law_good:FnOk P w K mg base CX0 2 a__law_good d__law_good ["_law_script"] (spGoodT K)) (b__law_good:Binds K d__law_good ["_law_script"] []) (k__law_good:PySem.W.keepIn K (.ref a__law_good) = true) (m__law_good:mg "_law_good" = some (.ref a__law_good)) (G__law_spoiled:FnOk P w K mg base CX0 2 a__law_spoiled d__law_spoiled ["_law_script","_law_some"] (spSpoilT K)) (b__law_spoiled:Binds K d__law_spoiled ["_law_script","_law_some"] []) (k__law_spoiled:PySem.W.keepIn K (.ref a__law_spoiled) = true) (m__law_spoiled:mg "_law_spoiled" = some (.ref a__law_spoiled)) (G__law_is_told:FnOk P w K mg base CX0 4 a__law_is_told d__law_is_told ["_law_some","_law_due_here"] (spTold K)) (b__law_is_told:Binds K d__law_is_told ["_law_some","_law_due_here"] []) (k__law_is_told:PySem.W.keepIn K (.ref a__law_is_told) = true) (m__law_is_told:mg "_law_is_told" = some (.ref a__law_is_told)) (G__law_due:FnOk P w K mg base CX0 1 a__law_due d__law_due ["_law_some"] (spDueT K)) (b__law_due:Binds K d__law_due ["_law_some"] []) (k__law_due:PySem.W.keepIn K (.ref a__law_due) = true) (m__law_due:mg "_law_due" = some (.ref a__law_due)) :
    FnOk P w K mg base CX0 5 a_law d_law ["_law_script"] (spLaw K):=by
  refine F_law.ok sc_law (fun vs H Q E h=>?_) (fun cdv A outer s H vs Q E hr h=>?_)
  · obtain⟨a,ns,rfl,_⟩:=h
    rfl
  obtain⟨a,ns,rfl,hS,h63,q⟩:=h
  have nd:=sc_law.nd
  refine⟨_,(pss_cons (ps_set (i:=1) nd rfl (Or.inl rfl) (pe_call G__law_good (hr.mono (by decide)) rfl m__law_good k__law_good b__law_good .nil pass0 (pa_cons (dv 0) pa_nil))) (pss_cons (ps_set (i:=2) nd rfl (Or.inl rfl) (pe_call G__law_spoiled (hr.mono (by decide)) rfl m__law_spoiled k__law_spoiled b__law_spoiled .nil pass0 (pa_cons (dv 0) (pa_cons (dv 1) pa_nil)))) (pss_cons (ps_if (pt_not (md_val (pe_call G__law_is_told (hr.mono (by decide)) rfl m__law_is_told k__law_is_told b__law_is_told .nil pass0 (pa_cons (dv 2) (pa_cons (pe_call G__law_due (hr.mono (by decide)) rfl m__law_due k__law_due b__law_due .nil pass0 (pa_cons (dv 2) pa_nil)) pa_nil))))) (pss_one (ps_ret pe_bl)) pss_nil) (pss_one (ps_ret (md_and (pe_call G__law_is_told (hr.mono (by decide)) rfl m__law_is_told k__law_is_told b__law_is_told .nil pass0 (pa_cons (dv 1) (pa_cons (pe_call G__law_due (hr.mono (by decide)) rfl m__law_due k__law_due b__law_due .nil pass0 (pa_cons (dv 1) pa_nil)) pa_nil))) (pe_one (pe_cmpR z_notN (pe_call G__law_due (hr.mono (by decide)) rfl m__law_due k__law_due b__law_due .nil pass0 (pa_cons (dv 1) pa_nil)) pe_non (nomark _))))))))),?_⟩
  refine⟨a,ns,rfl,hS,h63,fun p T H1 hp g1 e1 ok hT hne h49 hl=>?_⟩
  refine⟨a,p,ns,T,rfl,g1.seq hS,h63,e1,ok,hT,hne,h49,hl,fun p2 T2 H2 g2 e2 hT2=>?_⟩
  refine⟨p2,T2,rfl,SqL.of e2,hT2.1,(fun l h=>(hT2.2 l h).1),fun ok2 t3 q3 H3 g3 et3 eq3=>?_,fun bad2 H3 g3=>?_⟩
  · refine⟨p2,T2,_,rfl,g3 _ _ e2,hT2,.inl ⟨ok2,t3,q3,rfl,et3,eq3⟩,?_⟩
    · intro H4 g4
      have g24:=g3.trans g4
      refine⟨p,T,rfl,SqL.of (g24 _ _ (g2 _ _ e1)),hT.1,(fun l h=>(hT.2 l h).1),fun _ t5 q5 H5 g5 et5 eq5=>?_,fun no=>absurd ok no⟩
      refine⟨p,T,_,rfl,g5 _ _ (g24 _ _ (g2 _ _ e1)),hT,.inl ⟨ok,t5,q5,rfl,et5,eq5⟩,fun H6 g6=>?_⟩
      conv=>whnf
      have g26:=g24.trans (g5.trans g6)
      refine⟨p,T,rfl,SqL.of (g26 _ _ (g2 _ _ e1)),hT.1,(fun l h=>(hT.2 l h).1),fun _ t7 q7 H7 g7 et7 eq7=>?_,fun no=>absurd ok no⟩
      exact q _
  · refine⟨p2,T2,_,rfl,g3 _ _ e2,hT2,.inr ⟨bad2,rfl⟩,?_⟩
    · intro H4 g4
      have g24:=g3.trans g4
      refine⟨p,T,rfl,SqL.of (g24 _ _ (g2 _ _ e1)),hT.1,(fun l h=>(hT.2 l h).1),fun _ t5 q5 H5 g5 et5 eq5=>?_,fun no=>absurd ok no⟩
      refine⟨p,T,_,rfl,g5 _ _ (g24 _ _ (g2 _ _ e1)),hT,.inl ⟨ok,t5,q5,rfl,et5,eq5⟩,fun H6 g6=>?_⟩
      conv=>whnf
      have g26:=g24.trans (g5.trans g6)
      refine⟨p,T,rfl,SqL.of (g26 _ _ (g2 _ _ e1)),hT.1,(fun l h=>(hT.2 l h).1),fun _ t7 q7 H7 g7 et7 eq7=>?_,fun no=>absurd ok no⟩
      exact q _
end
set_option maxHeartbeats 0 in
theorem all_mk {l:PySem.W.OpenLaw} {w:World} {K:PySem.W.Frag} {h:Heap} {mg:Str→Option Value} {fa:Addr} (X:K.In h) (G:h.Ns mainGlobals mg) (hfa:mg "law" = some (.ref fa))
    {f0:Addr} {od0 an0:Option Addr} {sl0:Array (Option Value)} {oc0 kV0 dc0 pm0 cd0 ct0:Value}
    {f1:Addr} {od1 an1:Option Addr} {sl1:Array (Option Value)} {oc1 kV1 dc1 pm1 cd1 ct1:Value}
    {f2:Addr} {od2 an2:Option Addr} {sl2:Array (Option Value)} {oc2 kV2 dc2 pm2 cd2 ct2:Value}
    {f3:Addr} {od3 an3:Option Addr} {sl3:Array (Option Value)} {oc3 kV3 dc3 pm3 cd3 ct3:Value}
    {f4:Addr} {od4 an4:Option Addr} {sl4:Array (Option Value)} {oc4 kV4 dc4 pm4 cd4 ct4:Value}
    {f5:Addr} {od5 an5:Option Addr} {sl5:Array (Option Value)} {oc5 kV5 dc5 pm5 cd5 ct5:Value}
    {f6:Addr} {od6 an6:Option Addr} {sl6:Array (Option Value)} {oc6 kV6 dc6 pm6 cd6 ct6:Value}
    {f7:Addr} {od7 an7:Option Addr} {sl7:Array (Option Value)} {oc7 kV7 dc7 pm7 cd7 ct7:Value}
    {f8:Addr} {od8 an8:Option Addr} {sl8:Array (Option Value)} {oc8 kV8 dc8 pm8 cd8 ct8:Value}
    {f9:Addr} {od9 an9:Option Addr} {sl9:Array (Option Value)} {oc9 kV9 dc9 pm9 cd9 ct9:Value}
    {tk0:Tok}
    {a_NoStrip:Addr}
    {tk5:Tok}
    {tk6:Tok}
    {a_RailError:Addr}
    {a_NoPost:Addr}
    {a_NoName:Addr}
    {a_NoKey:Addr}
    {a_NoFrame:Addr}
    {a_NoBits:Addr}
    {a_NoWire:Addr}
    {a_NoThing:Addr}
    {a_NoRow:Addr}
    {a_NoRail:Addr}
    (a0:PySem.W.nsIn K mainGlobals "turn_of" = some (some (.ref f0)))
    (l0:K.lookup f0 = some ⟨oc0,od0,.func (PySem.W.fnOf "turn_of" "turn_of" (defArgs s_turn_of) (defBody s_turn_of) (defScope s_turn_of) .none kV0 dc0 pm0 an0 cd0 ct0),sl0⟩) (c0:PySem.W.codeIn K cd0 "turn_of" = true) (k0:PySem.W.keepIn K (.ref f0) = true)
    (a1:PySem.W.nsIn K mainGlobals "signs_of" = some (some (.ref f1)))
    (l1:K.lookup f1 = some ⟨oc1,od1,.func (PySem.W.fnOf "signs_of" "signs_of" (defArgs s_signs_of) (defBody s_signs_of) (defScope s_signs_of) .none kV1 dc1 pm1 an1 cd1 ct1),sl1⟩) (c1:PySem.W.codeIn K cd1 "signs_of" = true) (k1:PySem.W.keepIn K (.ref f1) = true)
    (a2:PySem.W.nsIn K mainGlobals "read_strips" = some (some (.ref f2)))
    (l2:K.lookup f2 = some ⟨oc2,od2,.func (PySem.W.fnOf "read_strips" "read_strips" (defArgs s_read_strips) (defBody s_read_strips) (defScope s_read_strips) .none kV2 dc2 pm2 an2 cd2 ct2),sl2⟩) (c2:PySem.W.codeIn K cd2 "read_strips" = true) (k2:PySem.W.keepIn K (.ref f2) = true)
    (a3:PySem.W.nsIn K mainGlobals "_law_draw" = some (some (.ref f3)))
    (l3:K.lookup f3 = some ⟨oc3,od3,.func (PySem.W.fnOf "_law_draw" "_law_draw" (defArgs s__law_draw) (defBody s__law_draw) (defScope s__law_draw) .none kV3 dc3 pm3 an3 cd3 ct3),sl3⟩) (c3:PySem.W.codeIn K cd3 "_law_draw" = true) (k3:PySem.W.keepIn K (.ref f3) = true)
    (a4:PySem.W.nsIn K mainGlobals "_law_figures" = some (some (.ref f4)))
    (l4:K.lookup f4 = some ⟨oc4,od4,.func (PySem.W.fnOf "_law_figures" "_law_figures" (defArgs s__law_figures) (defBody s__law_figures) (defScope s__law_figures) .none kV4 dc4 pm4 an4 cd4 ct4),sl4⟩) (c4:PySem.W.codeIn K cd4 "_law_figures" = true) (k4:PySem.W.keepIn K (.ref f4) = true)
    (a5:PySem.W.nsIn K mainGlobals "_law_due" = some (some (.ref f5)))
    (l5:K.lookup f5 = some ⟨oc5,od5,.func (PySem.W.fnOf "_law_due" "_law_due" (defArgs s__law_due) (defBody s__law_due) (defScope s__law_due) .none kV5 dc5 pm5 an5 cd5 ct5),sl5⟩) (c5:PySem.W.codeIn K cd5 "_law_due" = true) (k5:PySem.W.keepIn K (.ref f5) = true)
    (a6:PySem.W.nsIn K mainGlobals "_law_is_told" = some (some (.ref f6)))
    (l6:K.lookup f6 = some ⟨oc6,od6,.func (PySem.W.fnOf "_law_is_told" "_law_is_told" (defArgs s__law_is_told) (defBody s__law_is_told) (defScope s__law_is_told) .none kV6 dc6 pm6 an6 cd6 ct6),sl6⟩) (c6:PySem.W.codeIn K cd6 "_law_is_told" = true) (k6:PySem.W.keepIn K (.ref f6) = true)
    (a7:PySem.W.nsIn K mainGlobals "_law_good" = some (some (.ref f7)))
    (l7:K.lookup f7 = some ⟨oc7,od7,.func (PySem.W.fnOf "_law_good" "_law_good" (defArgs s__law_good) (defBody s__law_good) (defScope s__law_good) .none kV7 dc7 pm7 an7 cd7 ct7),sl7⟩) (c7:PySem.W.codeIn K cd7 "_law_good" = true) (k7:PySem.W.keepIn K (.ref f7) = true)
    (a8:PySem.W.nsIn K mainGlobals "_law_spoiled" = some (some (.ref f8)))
    (l8:K.lookup f8 = some ⟨oc8,od8,.func (PySem.W.fnOf "_law_spoiled" "_law_spoiled" (defArgs s__law_spoiled) (defBody s__law_spoiled) (defScope s__law_spoiled) .none kV8 dc8 pm8 an8 cd8 ct8),sl8⟩) (c8:PySem.W.codeIn K cd8 "_law_spoiled" = true) (k8:PySem.W.keepIn K (.ref f8) = true)
    (a9:PySem.W.nsIn K mainGlobals "law" = some (some (.ref f9)))
    (l9:K.lookup f9 = some ⟨oc9,od9,.func (PySem.W.fnOf "law" "law" (defArgs s_law) (defBody s_law) (defScope s_law) .none kV9 dc9 pm9 an9 cd9 ct9),sl9⟩) (c9:PySem.W.codeIn K cd9 "law" = true) (k9:PySem.W.keepIn K (.ref f9) = true)
    (z0:PySem.W.nsIn K mainGlobals "FIGURES" = some (some (.int 6 tk0)))
    (z1:PySem.W.nsIn K mainGlobals "all" = some none)
    (z2:PySem.W.nsIn K mainGlobals "len" = some none)
    (z3:PySem.W.nsIn K mainGlobals "NoStrip" = some (some (.ref a_NoStrip)))
    (z4:PySem.W.nsIn K mainGlobals "int" = some none)
    (z5:PySem.W.nsIn K mainGlobals "STRIP_BITS" = some (some (.int 40 tk5)))
    (z6:PySem.W.nsIn K mainGlobals "SIGNS" = some (some (.str "_-" tk6)))
    (z7:PySem.W.nsIn K mainGlobals "enumerate" = some none)
    (z8:PySem.W.nsIn K mainGlobals "range" = some none)
    (z9:PySem.W.nsIn K mainGlobals "list" = some none)
    (z10:PySem.W.nsIn K mainGlobals "RailError" = some (some (.ref a_RailError)))
    (z11:PySem.W.nsIn K mainGlobals "isinstance" = some none)
    (z12:PySem.W.nsIn K mainGlobals "tuple" = some none)
    (z13:PySem.W.nsIn K mainGlobals "bool" = some none)
    (z14:PySem.W.nsIn K mainGlobals "ValueError" = some none)
    (z15:PySem.W.nsIn K mainGlobals "NoPost" = some (some (.ref a_NoPost)))
    (z16:PySem.W.nsIn K mainGlobals "NoName" = some (some (.ref a_NoName)))
    (z17:PySem.W.nsIn K mainGlobals "NoKey" = some (some (.ref a_NoKey)))
    (z18:PySem.W.nsIn K mainGlobals "NoFrame" = some (some (.ref a_NoFrame)))
    (z19:PySem.W.nsIn K mainGlobals "NoBits" = some (some (.ref a_NoBits)))
    (z20:PySem.W.nsIn K mainGlobals "NoWire" = some (some (.ref a_NoWire)))
    (z21:PySem.W.nsIn K mainGlobals "NoThing" = some (some (.ref a_NoThing)))
    (z22:PySem.W.nsIn K mainGlobals "NoRow" = some (some (.ref a_NoRow)))
    (z23:PySem.W.nsIn K mainGlobals "NoRail" = some (some (.ref a_NoRail)))
    (z24:PySem.W.nsIn K mainGlobals "min" = some none)
    (z25:PySem.W.nsIn K mainGlobals "max" = some none)
    (z26:PySem.W.excIn K a_NoStrip [.type "ValueError",.type "Exception",.type "BaseException",.type "object"] "ValueError.__new__" = true)
    (z27:PySem.W.exmOne K (.ref a_NoStrip) (.ref a_RailError) = some true)
    (z28:PySem.W.kitOne K (.ref a_NoStrip) (.type "ValueError") = some true)
    (z29:PySem.W.kitAny K (.ref a_NoStrip) [.ref a_NoBits,.ref a_NoFrame,.ref a_NoKey,.ref a_NoName,.ref a_NoPost] = some false)
    (z30:PySem.W.kitAny K (.ref a_NoStrip) [.ref a_NoRail,.ref a_NoRow,.ref a_NoThing,.ref a_NoWire] = some false)
    (z31:PySem.W.isClsIn K a_NoStrip = true)
    (z32:PySem.W.findIn K (.ref a_NoStrip) "__getattribute__" = some (some (.builtin "BaseException.__getattribute__")))
    (z33:PySem.W.findIn K (.ref a_NoStrip) "__getattr__" = some none)
    (z34:PySem.W.findIn K (.ref a_NoStrip) "__class__" = some (some (.builtin "object.__class__")))
    (z35:PySem.W.specialIn K (.builtin "object.__class__") "__get__" = some (some (.builtin "getset_descriptor.__get__")))
    (z36:PySem.W.takesIn K (.builtin "object.__class__") = some true)
    (z37:PySem.W.mroIn K a_NoStrip (.type "object") = some true)
    (z38:PySem.W.mroIn K a_NoStrip (.type "BaseException") = some true)
    :∃fd:FuncData,(∀(s:Shared) (v:Value),BindsTo s fd ⟨[v], []⟩ [("_law_script",v)])∧∀base:Heap,K.In base→base.Ns mainGlobals mg→FnOk l.prog w K mg base CX0 5 fa fd ["_law_script"] (spLaw K):=by
  have e:=hfa.symm.trans (PySem.W.mg_of X G a9)
  cases e
  have F_turn_of:=fun_mk (st:=s_turn_of) l0 c0 k0
  have b_turn_of:=F_turn_of.binds (ps:=["strip"]) fun _ _ _ _ _ _ us hl=>match us,hl with | [_],_=>rfl
  have m_turn_of:=PySem.W.mg_of X G a0
  have F_signs_of:=fun_mk (st:=s_signs_of) l1 c1 k1
  have b_signs_of:=F_signs_of.binds (ps:=["strip"]) fun _ _ _ _ _ _ us hl=>match us,hl with | [_],_=>rfl
  have m_signs_of:=PySem.W.mg_of X G a1
  have F_read_strips:=fun_mk (st:=s_read_strips) l2 c2 k2
  have b_read_strips:=F_read_strips.binds (ps:=["some"]) fun _ _ _ _ _ _ us hl=>match us,hl with | [_],_=>rfl
  have m_read_strips:=PySem.W.mg_of X G a2
  have F__law_draw:=fun_mk (st:=s__law_draw) l3 c3 k3
  have b__law_draw:=F__law_draw.binds (ps:=["_law_script","_law_k","_law_many"]) fun _ _ _ _ _ _ us hl=>match us,hl with | [_,_,_],_=>rfl
  have m__law_draw:=PySem.W.mg_of X G a3
  have F__law_figures:=fun_mk (st:=s__law_figures) l4 c4 k4
  have b__law_figures:=F__law_figures.binds (ps:=["_law_turn"]) fun _ _ _ _ _ _ us hl=>match us,hl with | [_],_=>rfl
  have m__law_figures:=PySem.W.mg_of X G a4
  have F__law_due:=fun_mk (st:=s__law_due) l5 c5 k5
  have b__law_due:=F__law_due.binds (ps:=["_law_some"]) fun _ _ _ _ _ _ us hl=>match us,hl with | [_],_=>rfl
  have m__law_due:=PySem.W.mg_of X G a5
  have F__law_is_told:=fun_mk (st:=s__law_is_told) l6 c6 k6
  have b__law_is_told:=F__law_is_told.binds (ps:=["_law_some","_law_due_here"]) fun _ _ _ _ _ _ us hl=>match us,hl with | [_,_],_=>rfl
  have m__law_is_told:=PySem.W.mg_of X G a6
  have F__law_good:=fun_mk (st:=s__law_good) l7 c7 k7
  have b__law_good:=F__law_good.binds (ps:=["_law_script"]) fun _ _ _ _ _ _ us hl=>match us,hl with | [_],_=>rfl
  have m__law_good:=PySem.W.mg_of X G a7
  have F__law_spoiled:=fun_mk (st:=s__law_spoiled) l8 c8 k8
  have b__law_spoiled:=F__law_spoiled.binds (ps:=["_law_script","_law_some"]) fun _ _ _ _ _ _ us hl=>match us,hl with | [_,_],_=>rfl
  have m__law_spoiled:=PySem.W.mg_of X G a8
  have F_law:=fun_mk (st:=s_law) l9 c9 k9
  have b_law:=F_law.binds (ps:=["_law_script"]) fun _ _ _ _ _ _ us hl=>match us,hl with | [_],_=>rfl
  have m_law:=PySem.W.mg_of X G a9
  have m_FIGURES:=PySem.W.mg_of X G z0
  have m_all:=PySem.W.mg_none_of X G z1
  have m_len:=PySem.W.mg_none_of X G z2
  have m_NoStrip:=PySem.W.mg_of X G z3
  have m_int:=PySem.W.mg_none_of X G z4
  have m_STRIP_BITS:=PySem.W.mg_of X G z5
  have m_SIGNS:=PySem.W.mg_of X G z6
  have m_enumerate:=PySem.W.mg_none_of X G z7
  have m_range:=PySem.W.mg_none_of X G z8
  have m_list:=PySem.W.mg_none_of X G z9
  have m_RailError:=PySem.W.mg_of X G z10
  have m_isinstance:=PySem.W.mg_none_of X G z11
  have m_tuple:=PySem.W.mg_none_of X G z12
  have m_bool:=PySem.W.mg_none_of X G z13
  have m_ValueError:=PySem.W.mg_none_of X G z14
  have m_NoPost:=PySem.W.mg_of X G z15
  have m_NoName:=PySem.W.mg_of X G z16
  have m_NoKey:=PySem.W.mg_of X G z17
  have m_NoFrame:=PySem.W.mg_of X G z18
  have m_NoBits:=PySem.W.mg_of X G z19
  have m_NoWire:=PySem.W.mg_of X G z20
  have m_NoThing:=PySem.W.mg_of X G z21
  have m_NoRow:=PySem.W.mg_of X G z22
  have m_NoRail:=PySem.W.mg_of X G z23
  have m_min:=PySem.W.mg_none_of X G z24
  have m_max:=PySem.W.mg_none_of X G z25
  refine⟨PySem.W.fnOf "law" "law" (defArgs s_law) (defBody s_law) (defScope s_law) .none kV9 dc9 pm9 an9 cd9 ct9,fun s v=> .of_eq rfl,fun base _ _=>?_⟩
  have G_turn_of:=ok_turn_of (P:=l.prog) (w:=w) (mg:=mg) (base:=base) F_turn_of m_FIGURES m_all m_len m_NoStrip z26 m_int
  have G_signs_of:=ok_signs_of (P:=l.prog) (w:=w) (mg:=mg) (base:=base) F_signs_of m_FIGURES m_NoStrip z26 m_len m_STRIP_BITS m_all m_SIGNS
  have G_read_strips:=ok_read_strips (P:=l.prog) (w:=w) (mg:=mg) (base:=base) F_read_strips m_len m_enumerate m_STRIP_BITS m_NoStrip z26 m_SIGNS G_turn_of b_turn_of F_turn_of.kp m_turn_of G_signs_of b_signs_of F_signs_of.kp m_signs_of
  have G__law_draw:=ok__law_draw (P:=l.prog) (w:=w) (mg:=mg) (base:=base) F__law_draw m_len
  have G__law_figures:=ok__law_figures (P:=l.prog) (w:=w) (mg:=mg) (base:=base) F__law_figures m_range
  have G__law_due:=ok__law_due (P:=l.prog) (w:=w) (mg:=mg) (base:=base) F__law_due m_range m_len m_int
  have G__law_is_told:=ok__law_is_told (P:=l.prog) (w:=w) (mg:=mg) (base:=base) F__law_is_told m_list m_RailError m_isinstance m_tuple m_len m_bool m_ValueError m_NoStrip m_NoPost m_NoName m_NoKey m_NoFrame m_NoBits m_NoWire m_NoThing m_NoRow m_NoRail z27 z28 z29 z30 z31 z32 z33 z34 z35 z36 z37 z38 G_read_strips b_read_strips F_read_strips.kp m_read_strips
  have G__law_good:=ok__law_good (P:=l.prog) (w:=w) (mg:=mg) (base:=base) F__law_good m_min m_range G__law_draw b__law_draw F__law_draw.kp m__law_draw G__law_figures b__law_figures F__law_figures.kp m__law_figures
  have G__law_spoiled:=ok__law_spoiled (P:=l.prog) (w:=w) (mg:=mg) (base:=base) F__law_spoiled m_list m_len m_int m_max m_range G__law_draw b__law_draw F__law_draw.kp m__law_draw G__law_figures b__law_figures F__law_figures.kp m__law_figures
  exact ok_law F_law m_NoStrip G__law_good b__law_good F__law_good.kp m__law_good G__law_spoiled b__law_spoiled F__law_spoiled.kp m__law_spoiled G__law_is_told b__law_is_told F__law_is_told.kp m__law_is_told G__law_due b__law_due F__law_due.kp m__law_due
theorem walk {l:PySem.W.OpenLaw} {q:Program} {loose:List Str} {XP:(Str→Option Value)→Heap→Prop} {YP:World→Heap→Prop} {d:DefRec} {K:Params→PySem.W.Frag} (hn:l.most = some 63) (hdf:d.params.defaults = [])
    (hY:∀(w:World) (h:Heap),YP w h→(K w.params).In h)
    (F :∀(w:World) (mg:Str→Option Value) (fa:Addr) (h:Heap),(K w.params).In h→h.Ns mainGlobals mg→mg d.name = some (.ref fa)→
      ∃fd:FuncData,(∀(s:Shared) (u:Value),BindsTo s fd ⟨[u], []⟩ [("_law_script",u)])∧∀base:Heap,(K w.params).In base→base.Ns mainGlobals mg→FnOk l.prog w (K w.params) mg base CX0 5 fa fd ["_law_script"] (spLaw (K w.params))) :
    PySem.W.WalkO q loose XP YP l.row.toRowW d [] (fun f vs=>PySem.call f vs):=
  L2.walk_of (n:=63) (k:=5) (x:="_law_script") (CX:=fun _=>CX0) (sp:=fun w=>spLaw (K w.params)) hn (by decide) hdf ⟨rfl,by decide,by decide⟩ hY F (fun _ _ a ns hl _ hS=>⟨a,ns,rfl,hS,hl,fun _=>rfl⟩) fun _ _ _ _ _ z=>z
end My
open PySem PySem.W PyProof.Rows
set_option maxRecDepth 100000 in
set_option maxHeartbeats 0 in
theorem PySem.Challenge.cw_bitrail_k81_strips_read_holds : PySem.Challenge.rw_bitrail_k81_strips_read.Holds := by
  w_on;o_law;k_head;(case hw=>w_witness2)
  k_fill
  refine My.walk (l:=PySem.Challenge.rw_bitrail_k81_strips_read) rfl rfl (fun w h Y=>PySem.W.kIn_of Y) ?F
  case F=>
    intro w mg fa h KX G hmg
    refine' My.all_mk KX G hmg ?a0 ?l0 ?c0 ?k0 ?a1 ?l1 ?c1 ?k1 ?a2 ?l2 ?c2 ?k2 ?a3 ?l3 ?c3 ?k3 ?a4 ?l4 ?c4 ?k4 ?a5 ?l5 ?c5 ?k5 ?a6 ?l6 ?c6 ?k6 ?a7 ?l7 ?c7 ?k7 ?a8 ?l8 ?c8 ?k8 ?a9 ?l9 ?c9 ?k9 ?z0 ?z1 ?z2 ?z3 ?z4 ?z5 ?z6 ?z7 ?z8 ?z9 ?z10 ?z11 ?z12 ?z13 ?z14 ?z15 ?z16 ?z17 ?z18 ?z19 ?z20 ?z21 ?z22 ?z23 ?z24 ?z25 ?z26 ?z27 ?z28 ?z29 ?z30 ?z31 ?z32 ?z33 ?z34 ?z35 ?z36 ?z37 ?z38
    (case a0=>k_is)
    (case l0=>k_is)
    (case c0=>k_is)
    (case k0=>k_is)
    (case a1=>k_is)
    (case l1=>k_is)
    (case c1=>k_is)
    (case k1=>k_is)
    (case a2=>k_is)
    (case l2=>k_is)
    (case c2=>k_is)
    (case k2=>k_is)
    (case a3=>k_is)
    (case l3=>k_is)
    (case c3=>k_is)
    (case k3=>k_is)
    (case a4=>k_is)
    (case l4=>k_is)
    (case c4=>k_is)
    (case k4=>k_is)
    (case a5=>k_is)
    (case l5=>k_is)
    (case c5=>k_is)
    (case k5=>k_is)
    (case a6=>k_is)
    (case l6=>k_is)
    (case c6=>k_is)
    (case k6=>k_is)
    (case a7=>k_is)
    (case l7=>k_is)
    (case c7=>k_is)
    (case k7=>k_is)
    (case a8=>k_is)
    (case l8=>k_is)
    (case c8=>k_is)
    (case k8=>k_is)
    (case a9=>k_is)
    (case l9=>k_is)
    (case c9=>k_is)
    (case k9=>k_is)
    (case z0=>k_is)
    (case z1=>k_is)
    (case z2=>k_is)
    (case z3=>k_is)
    (case z4=>k_is)
    (case z5=>k_is)
    (case z6=>k_is)
    (case z7=>k_is)
    (case z8=>k_is)
    (case z9=>k_is)
    (case z10=>k_is)
    (case z11=>k_is)
    (case z12=>k_is)
    (case z13=>k_is)
    (case z14=>k_is)
    (case z15=>k_is)
    (case z16=>k_is)
    (case z17=>k_is)
    (case z18=>k_is)
    (case z19=>k_is)
    (case z20=>k_is)
    (case z21=>k_is)
    (case z22=>k_is)
    (case z23=>k_is)
    (case z24=>k_is)
    (case z25=>k_is)
    (case z26=>k_exc)
    (case z27=>kts_exm)
    (case z28=>kit_is)
    (case z29=>kit_is)
    (case z30=>kit_is)
    (case z31=>k_is)
    (case z32=>k_is)
    (case z33=>k_is)
    (case z34=>k_is)
    (case z35=>k_is)
    (case z36=>k_is)
    (case z37=>k_is)
    (case z38=>k_is)
#print axioms PySem.Challenge.cw_bitrail_k81_strips_read_holds
