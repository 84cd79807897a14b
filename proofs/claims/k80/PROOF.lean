import PyProof.Rows.All
import Wide.All
import OpenK.AllK
import Wide.FinOn
import PyProof.EqAt
import PyProof.EqKinds
import PyProof.TupleCall
import Lean
import PySem.Challenge.RW_bitrail_k80_bits_as_strips
set_option Elab.async false
set_option Elab.async false
set_option linter.all false
set_option maxRecDepth 100000
namespace L2
open PySem PySem.Spec PyProof.Rows
abbrev Key:=Sum Int Str
def keyIs:Key→Value→Bool
  | .inl k,v=>Value.isInt k v
  | .inr x,v=>Value.isStrOf x v
def keyH (w:World):Key→Int
  | .inl k=>hashInt k
  | .inr x=>hashStr w x
theorem keyIs_shape:∀{k:Key} {v:Value},keyIs k v = true→(∃i t,k = Sum.inl i∧v = Value.int i t)∨(∃x t,k = Sum.inr x∧v = Value.str x t)
  | .inl i,v,h=>by
    obtain⟨t,e⟩:=Value.isInt_shape (k:=i) (v:=v) h
    exact .inl ⟨i,t,rfl,e⟩
  | .inr x,v,h=>by
    obtain⟨t,e⟩:=Value.isStrOf_shape (x:=x) (v:=v) h
    exact .inr ⟨x,t,rfl,e⟩
theorem key_ll (a b:Int):decide ((Sum.inl a:Key) = Sum.inl b) = (a == b):=by
  by_cases e:a = b
  · subst e;simp
  · have h:¬ (Sum.inl a:Key) = Sum.inl b:=fun q=>e (Sum.inl.inj q)
    rw [decide_eq_false h]
    exact(beq_eq_false_iff_ne.mpr e).symm
theorem key_rr (a b:Str):decide ((Sum.inr a:Key) = Sum.inr b) = decide (a = b):=by
  by_cases e:a = b
  · subst e;simp
  · have h:¬ (Sum.inr a:Key) = Sum.inr b:=fun q=>e (Sum.inr.inj q)
    rw [decide_eq_false h,decide_eq_false e]
theorem key_lr (a:Int) (b:Str):decide ((Sum.inl a:Key) = Sum.inr b) = false:=decide_eq_false (fun q=>nomatch q)
theorem key_rl (a:Str) (b:Int):decide ((Sum.inr a:Key) = Sum.inl b) = false:=decide_eq_false (fun q=>nomatch q)
def mixKind (prog:Program) (w:World):PySem.KeyKind prog w Key where
  is:=keyIs
  hash:=keyH w
  inj :=fun v a b ha hb=>by
    rcases keyIs_shape ha with ⟨i,t,rfl,rfl⟩ | ⟨x,t,rfl,rfl⟩
    · rcases keyIs_shape hb with ⟨j,u,rfl,e⟩ | ⟨y,u,rfl,e⟩
      · injection e with e1 _;rw [e1]
      · exact nomatch e
    · rcases keyIs_shape hb with ⟨j,u,rfl,e⟩ | ⟨y,u,rfl,e⟩
      · exact nomatch e
      · injection e with e1 _;rw [e1]
  byValue:=fun k v h=>by
    rcases keyIs_shape h with ⟨i,t,rfl,rfl⟩ | ⟨x,t,rfl,rfl⟩ <;> rfl
  pyHash:=fun hv h=>by
    rcases keyIs_shape hv with ⟨i,t,rfl,rfl⟩ | ⟨x,t,rfl,rfl⟩
    · exact wpAny_pyHash_int h
    · exact wpAny_pyHash_str h
  eqBool:=fun hu hv h=>by
    rcases keyIs_shape hu with ⟨i,t,rfl,rfl⟩ | ⟨x,t,rfl,rfl⟩
    · rcases keyIs_shape hv with ⟨j,u,rfl,rfl⟩ | ⟨y,u,rfl,rfl⟩
      · rw [key_ll] at h;exact wpAny_eqBool_int h
      · rw [key_lr] at h;exact SeqAt.EqAt.int_str i t y u _ _ _ _ h
    · rcases keyIs_shape hv with ⟨j,u,rfl,rfl⟩ | ⟨y,u,rfl,rfl⟩
      · rw [key_rl] at h;exact SeqAt.EqAt.str_int x t j u _ _ _ _ h
      · rw [key_rr] at h;exact wpAny_eqBool_str h
  «strs»:=fun k x t v h=>by
    rcases keyIs_shape h with ⟨i,u,rfl,e⟩ | ⟨y,u,rfl,e⟩
    · exact nomatch e
    · injection e with e1 _
      subst e1
      cases v <;> rfl
end L2
namespace L2
open PySem PySem.Spec PyProof.Rows
inductive V where
  | non | bl (b:Bool) | int (i:Int) | str (x:Str) | byt (b:Array UInt8) | flt (b:UInt64) | ref (a:Addr) | ty (n:String)
  deriving DecidableEq
def RelV:V→Value→Prop
  | .non,u=>u = Value.none
  | .bl b,u=>u = Value.bool b
  | .int i,u=>∃t,u = Value.int i t
  | .str x,u=>∃t,u = Value.str x t
  | .byt b,u=>∃t,u = Value.bytes b t
  | .flt b,u=>∃t,u = Value.float b t
  | .ref a,u=>u = Value.ref a
  | .ty n,u=>u = Value.type n
abbrev Vals:List V→List Value→Prop:=Paired RelV
theorem Vals.length {xs:List V} {us:List Value} (r:Vals xs us):xs.length = us.length:=Paired.length r
theorem Vals.get:∀{xs:List V} {us:List Value} {i:Nat} {x:V},Vals xs us→xs[i]? = some x→∃u,us[i]? = some u∧RelV x u
  | _,_,_,_,.nil,e=>by simp at e
  | _,_,0,_,.cons r _,e=>by simp at e;subst e;exact⟨_,rfl,r⟩
  | _,_,i + 1,x,.cons _ t,e=>by
    obtain⟨u,h1,h2⟩:=Vals.get (i:=i) (x:=x) t (by simpa using e)
    exact⟨u,by simpa using h1,h2⟩
theorem Vals.append:∀{xs ys:List V} {us ws:List Value},Vals xs us→Vals ys ws→Vals (xs ++ ys) (us ++ ws)
  | _,_,_,_,.nil,s=>s
  | _,_,_,_,.cons r t,s=> .cons r (Vals.append t s)
theorem Vals.take:∀{xs:List V} {us:List Value} (n:Nat),Vals xs us→Vals (xs.take n) (us.take n)
  | _,_,0,_=> .nil
  | _,_,_ + 1,.nil=> .nil
  | _,_,n + 1,.cons r t=> .cons r (Vals.take n t)
theorem Vals.drop:∀{xs:List V} {us:List Value} (n:Nat),Vals xs us→Vals (xs.drop n) (us.drop n)
  | _,_,0,r=>r
  | _,_,_ + 1,.nil=> .nil
  | _,_,n + 1,.cons _ t=>Vals.drop n t
def RelO:Option V→Option Value→Prop
  | some v,some u=>RelV v u
  | none,none=>True
  | _,_=>False
def KV {κ:Type}:List (κ×V)→List (κ×Value)→Prop:=Paired fun (p:κ×V) (q:κ×Value)=>p.1 = q.1∧RelV p.2 q.2
def kV:Key→V
  | .inl i=> .int i
  | .inr x=> .str x
inductive HO where
    | lst (xs:List V)
    | tup (xs:List V)
    | dK (kvs:List (Key×V)) | dT (kvs:List (List Key×V))
    | set (S:Int→Bool) (n:Nat)
    | ins (C dx:Addr) (fs:List (Str×V))
    | own (x:Addr)
    | xd (fs:List (Str×V))
    | met (f x:Addr)
    | rng (lo hi:Int)
    | frz (o:Obj) (u:HO)
    | tbl (ps:Array Value)
    | ext (φ:Heap→Prop)
abbrev Hp:=Addr→Option HO
def upd (H:Hp) (a:Addr) (o:HO):Hp:=fun b=>if b = a then some o else H b
theorem upd_same {H:Hp} {a:Addr} {o:HO}:upd H a o a = some o:=by unfold upd;rw [if_pos rfl]
theorem upd_ne {H:Hp} {a b:Addr} {o:HO} (h:b≠a):upd H a o b = H b:=by unfold upd;rw [if_neg h]
theorem ne_of_none {H:Hp} {a b:Addr} {o:HO} (h:H a = some o) (h':H b = none):a≠b:=by
  intro e;subst e;rw [h] at h';cases h'
section
variable (P:Program) (w:World)
def ObjOk (H:Hp) (h:Heap) (a:Addr):HO→Prop
  | .lst xs=>xs.length≤sizeLine∧∃(its:List Value) (n:Nat),Vals xs its∧h.get? a = some { cls:= .type "list",data:= .seq its.toArray n }
  | .tup xs=>xs.length≤sizeLine∧∃its:List Value,Vals xs its∧IsTup h a its.toArray
  | .dK kvs=>kvs.length≤sizeLine∧(a == sysModules) = false∧∃vs,KV kvs vs∧h.DictOf (mixKind P w) a vs
  | .dT kvs=>kvs.length≤sizeLine∧(a == sysModules) = false∧∃xs:List (List Key×Addr×Value),
      Paired (fun (p:List Key×V) (q:List Key×Addr×Value)=>p.1 = q.1∧H q.2.1 = some (.tup (p.1.map kV))∧RelV p.2 q.2.2) kvs xs∧
      ∃o es ep,h.get? a = some o∧o.ExactDict∧o.data = .dict es ep∧es.toList = xs.map (entryOfKey (tupleKind (mixKind P w)))∧(xs.map (·.1)).Nodup
  | .set S n=>h.SetOf (intKind P w) a S n
  | .ins C dx fs=>H dx = some (.own a)∧fs.length≤1000∧dx≠a∧h.get? a = some (PySem.W.instObj C dx)∧
      ∃mA,h.Ns1 dx mA∧(∀f,RelO (fs.lookup f) (mA f))∧PySem.Within mA (fs.map (·.1))
  | .own _=>∃o,h.get? a = some o
  | .xd fs=>∃mA,h.Ns1 a mA∧∀f,RelO (fs.lookup f) (mA f)
  | .rng lo hi=>∃t u v,h.get? a = some { cls:= .type "range",data:= .fields #[.int lo t,.int hi u,.int 1 v] }
  | .frz o u=>h.get? a = some o∧ObjOk H h a u
  | .tbl ps=>h.get? a = some { cls:= .none,data:= .fields ps }
  | .met f x=>h.get? a = some (PySem.W.methodObj (.ref f) (.ref x))
  | .ext φ=>φ h∧(∃o,h.get? a = some o)∧∀h1 h2:Heap,φ h1→(∀o,h1.get? a = some o→h2.get? a = some o)→φ h2
def HOk (H:Hp) (h:Heap):Prop:=∀a o,H a = some o→ObjOk P w H h a o
end
section
variable {P:Program} {w:World} {H H':Hp} {h h':Heap} {a:Addr} {o:HO}
theorem ObjOk.lt (x:ObjOk P w H h a o):a < h.objs.size:=by
  cases o with
  | lst xs=>obtain⟨_,_,_,_,e⟩:=x;exact Heap.lt_size e
  | tup xs=>obtain⟨_,_,_,p⟩:=x;exact p.lt
  | dK kvs=>obtain⟨_,_,_,_,o,_,_,e,_⟩:=x;exact Heap.lt_size e
  | dT kvs=>obtain⟨_,_,_,_,o,_,_,e,_⟩:=x;exact Heap.lt_size e
  | set S n=>obtain⟨o,_,_,_,e,_⟩:=x;exact Heap.lt_size e
  | ins C dx fs=>obtain⟨_,_,_,e,_⟩:=x;exact Heap.lt_size e
  | own y=>obtain⟨_,e⟩:=x;exact Heap.lt_size e
  | xd fs=>obtain⟨_,⟨_,_,_,e,_⟩,_⟩:=x;exact Heap.lt_size e
  | rng lo hi=>obtain⟨_,_,_,e⟩:=x;exact Heap.lt_size e
  | frz ob u=>obtain⟨e,_⟩:=x;exact Heap.lt_size e
  | tbl ps=>exact Heap.lt_size (show h.get? a = some _ from x)
  | met f y=>exact Heap.lt_size (show h.get? a = some _ from x)
  | ext φ=>obtain⟨_,⟨_,e⟩,_⟩:=x;exact Heap.lt_size e
theorem Paired.mapP {α β:Type} {F G:α→β→Prop}:∀{l₁:List α} {l₂:List β},Paired F l₁ l₂→(∀a b,F a b→G a b)→Paired G l₁ l₂
  | _,_,.nil,_=> .nil
  | _,_,.cons r t,f=> .cons (f _ _ r) (Paired.mapP t f)
theorem ObjOk.stay (x:ObjOk P w H h a o) (k:∀b u,(b = a∨H b = some (.own a))→h.get? b = some u→h'.get? b = some u)
    (ho:∀b,H b = some (.own a)→H' b = some (.own a)) (ht:∀b xs,H b = some (.tup xs)→H' b = some (.tup xs)):ObjOk P w H' h' a o:=by
  induction o with
  | lst xs=>obtain⟨z,its,n,r,e⟩:=x;exact⟨z,its,n,r,k _ _ (.inl rfl) e⟩
  | tup xs=>obtain⟨z,its,r,ob,e,c⟩:=x;exact⟨z,its,r,ob,k _ _ (.inl rfl) e,c⟩
  | dK kvs=>obtain⟨z,y,vs,r,ob,es,ep,e,c⟩:=x;exact⟨z,y,vs,r,ob,es,ep,k _ _ (.inl rfl) e,c⟩
  | dT kvs=>
    obtain⟨z,y,xs,r,ob,es,ep,e,c⟩:=x
    exact⟨z,y,xs,Paired.mapP r fun p q z=>⟨z.1,ht _ _ z.2.1,z.2.2⟩,ob,es,ep,k _ _ (.inl rfl) e,c⟩
  | set S n=>obtain⟨ob,es,ep,t,e,c⟩:=x;exact⟨ob,es,ep,t,k _ _ (.inl rfl) e,c⟩
  | ins C dx fs=>
    obtain⟨d,z,ne,e,mA,⟨od,es,ep,e2,c⟩,r⟩:=x
    exact⟨ho _ d,z,ne,k _ _ (.inl rfl) e,mA,⟨od,es,ep,k _ _ (.inr d) e2,c⟩,r⟩
  | own y=>obtain⟨ob,e⟩:=x;exact⟨ob,k _ _ (.inl rfl) e⟩
  | xd fs=>obtain⟨mA,⟨od,es,ep,e,c⟩,r⟩:=x;exact⟨mA,⟨od,es,ep,k _ _ (.inl rfl) e,c⟩,r⟩
  | rng lo hi=>obtain⟨t,u,v,e⟩:=x;exact⟨t,u,v,k _ _ (.inl rfl) e⟩
  | frz ob u ih=>obtain⟨e,q⟩:=x;exact⟨k _ _ (.inl rfl) e,ih q⟩
  | tbl ps=>
    have e:h.get? a = some { cls:= .none,data:= .fields ps }:=x
    show h'.get? a = some { cls:= .none,data:= .fields ps }
    exact k a _ (.inl rfl) e
  | met f y=>
    have e:h.get? a = some (PySem.W.methodObj (.ref f) (.ref y)):=x
    show h'.get? a = some (PySem.W.methodObj (.ref f) (.ref y))
    exact k a _ (.inl rfl) e
  | ext φ=>obtain⟨p,⟨o,e⟩,st⟩:=x;exact⟨st _ _ p fun o q=>k _ _ (.inl rfl) q,⟨o,k _ _ (.inl rfl) e⟩,st⟩
theorem HOk.lt (x:HOk P w H h) (e:H a = some o):a < h.objs.size:=(x a o e).lt
theorem HOk.fresh (x:HOk P w H h) (e:h.objs.size≤a):H a = none:=by
  cases q:H a with
  | none=>rfl
  | some u=>exact absurd (Nat.lt_of_lt_of_le (x.lt q) e) (Nat.lt_irrefl _)
theorem HOk.kept (x:HOk P w H h) (k:∀b u,h.get? b = some u→h'.get? b = some u):HOk P w H h':=fun a o e=>
  (x a o e).stay (fun b u _ q=>k b u q) (fun _ q=>q) fun _ _ q=>q
theorem HOk.laid (x:HOk P w H h) (k:∀b u,h.get? b = some u→h'.get? b = some u) (hp:h.objs.size≤a) (new:ObjOk P w (upd H a o) h' a o):HOk P w (upd H a o) h':=fun b u e=>by
  have hn:=x.fresh hp
  by_cases hb:b = a
  · subst hb;rw [upd_same] at e;cases e;exact new
  · rw [upd_ne hb] at e
    exact(x b u e).stay (fun c v _ q=>k c v q) (fun c q=>by rw [upd_ne (ne_of_none q hn)];exact q) fun c xs q=>by rw [upd_ne (ne_of_none q hn)];exact q
end
def Rd (H:Hp) (a:Addr) (u:HO):Prop:=H a = some u∨∃o,H a = some (.frz o u)
theorem Rd.ok {P:Program} {w:World} {H:Hp} {h:Heap} {a:Addr} {u:HO} (r:Rd H a u) (x:HOk P w H h):ObjOk P w H h a u:=by
  rcases r with r | ⟨o,r⟩
  · exact x a u r
  · obtain⟨_,q⟩:=x a _ r
    exact q
def Mut:Option HO→Prop
  | some (.lst _)=>True
  | some (.dK _)=>True
  | some (.dT _)=>True
  | some (.set _ _)=>True
  | some (.ins _ _ _)=>True
  | some (.ext _)=>True
  | _=>False
section
variable {P:Program} {w:World} {H:Hp} {h h':Heap} {x e:Addr} {o':HO}
theorem HOk.write (ok:HOk P w H h) (mu:Mut (H x)) (he:e = x∨H e = some (.own x)) (k:∀b u,b≠e→h.get? b = some u→h'.get? b = some u) (heo:∃u,h'.get? e = some u)
    (new:ObjOk P w (upd H x o') h' x o'):HOk P w (upd H x o') h':=fun b u q=>by
  have nown:∀c y,H c = some (.own y)→c≠x:=fun c y r z=>by subst z;rw [r] at mu;exact mu
  have ntup:∀c xs,H c = some (.tup xs)→c≠x:=fun c xs r z=>by subst z;rw [r] at mu;exact mu
  by_cases hb:b = x
  · subst hb;rw [upd_same] at q;cases q;exact new
  · rw [upd_ne hb] at q
    by_cases hbe:b = e
    · have q':H b = some (.own x):=by
        rcases he with z | z
        · exact absurd (hbe.trans z) hb
        · rw [hbe];exact z
      rw [q] at q';cases q'
      obtain⟨v,hv⟩:=heo
      exact⟨v,by rw [hbe];exact hv⟩
    · refine(ok b u q).stay (fun c v hc r=>k c v ?_ r) (fun c r=>by rw [upd_ne (nown c b r)];exact r) fun c xs r=>by rw [upd_ne (ntup c xs r)];exact r
      rcases hc with rfl | hc
      · exact hbe
      · rintro rfl
        rcases he with z | z
        · exact nown c b hc z
        · rw [hc] at z;cases z;exact hb rfl
end
structure Un (fs ex:List Addr) (H H':Hp) (h h':Heap):Prop where
  keep:∀b o,h.get? b = some o→H b = none→b∉fs→b∉ex→h'.get? b = some o
  slot:∀b o,h.get? b = some o→H b = none→b∈fs→b∉ex→∃sl,h'.get? b = some { o with slots:=sl }
  free:∀b o,h.get? b = some o→H b = none→b∉ex→H' b = none
  there:∀b o,h.get? b = some o→b∉ex→∃o',h'.get? b = some o'
  tups:∀b xs,H b = some (.tup xs)→H' b = some (.tup xs)
  frzs:∀b o u,H b = some (.frz o u)→H' b = some (.frz o u)
  tbls:∀b ps,H b = some (.tbl ps)→∃more,H' b = some (.tbl (ps ++ more))
section
variable {fs fs' ex ex':List Addr} {H H1 H2:Hp} {h h1 h2 h':Heap} {a x e:Addr} {o:HO}
theorem Un.any (u:Un fs ex H H1 h h1) {b:Addr} {ob:Obj} (q:h.get? b = some ob) (n:H b = none) (hx:b∉ex):∃sl,h1.get? b = some { ob with slots:=sl }:=by
  by_cases hb:b∈fs
  · exact u.slot b ob q n hb hx
  · exact⟨ob.slots,u.keep b ob q n hb hx⟩
theorem Un.kept (k:∀b u,h.get? b = some u→h'.get? b = some u):Un fs ex H H h h':=
  ⟨fun b ob q _ _ _=>k b ob q,fun b ob q _ _ _=>⟨ob.slots,k b ob q⟩,fun _ _ _ n _=>n,fun b ob q _=>⟨ob,k b ob q⟩,fun _ _ q=>q,fun _ _ _ q=>q,fun _ ps q=>⟨#[],by rw [q];simp⟩⟩
theorem Un.refl:Un fs ex H H h h:=Un.kept fun _ _ q=>q
theorem Un.laid (k:∀b u,h.get? b = some u→h'.get? b = some u) (hp:h.objs.size≤a) (hn:H a = none):Un fs ex H (upd H a o) h h' where
  keep:=fun b u q _ _ _=>k b u q
  slot:=fun b u q _ _ _=>⟨u.slots,k b u q⟩
  free:=fun b u q n _=>by rw [upd_ne (Nat.ne_of_lt (Nat.lt_of_lt_of_le (Heap.lt_size q) hp))];exact n
  there:=fun b u q _=>⟨u,k b u q⟩
  tups:=fun b xs q=>by rw [upd_ne (ne_of_none q hn)];exact q
  frzs:=fun b u xs q=>by rw [upd_ne (ne_of_none q hn)];exact q
  tbls:=fun b ps q=>⟨#[],by rw [upd_ne (ne_of_none q hn),q];simp⟩
theorem Un.write (mu:Mut (H x)) (he:e = x∨H e = some (.own x)) (k:∀b u,b≠e→h.get? b = some u→h'.get? b = some u) (heo:∃u,h'.get? e = some u):Un fs ex H (upd H x o) h h':=by
  have hx:∀b,H b = none→b≠x:=fun b n z=>by subst z;rw [n] at mu;exact mu
  have hb:∀b,H b = none→b≠e:=fun b n z=>by
    subst z
    rcases he with r | r
    · exact hx b n r
    · rw [n] at r;cases r
  have hm:∀b u,H b = some u→¬ Mut (some u)→b≠x:=fun b u q nm z=>by subst z;rw [q] at mu;exact nm mu
  refine⟨fun b u q n _ _=>k b u (hb b n) q,fun b u q n _ _=>⟨u.slots,k b u (hb b n) q⟩,fun b u q n _=>by rw [upd_ne (hx b n)];exact n,fun b u q _=>?_,
    fun b xs q=>by rw [upd_ne (hm b _ q fun z=>z)];exact q,fun b u xs q=>by rw [upd_ne (hm b _ q fun z=>z)];exact q,fun b ps q=>⟨#[],by rw [upd_ne (hm b _ q fun z=>z),q];simp⟩⟩
  by_cases hbe:b = e
  · subst hbe;exact heo
  · exact⟨u,k b u hbe q⟩
end
def trk (h:Heap) (H:Hp):List Addr:=(List.range h.objs.size).filter fun a=>(H a).isSome
def hidT (h:Heap) (H:Hp):Heap:=PySem.W.hideAll h (trk h H)
theorem hidT_size (h:Heap) (H:Hp):(hidT h H).objs.size = h.objs.size:=PySem.W.hideAll_size _ _
theorem hidT_get {h:Heap} {H:Hp} {b:Addr} {o:Obj} (e:h.get? b = some o) (n:H b = none):(hidT h H).get? b = some o:=
  PySem.W.hideAll_get _ e fun hm=>by
    have q:(H b).isSome = true:=(List.mem_filter.mp hm).2
    rw [n] at q;simp at q
theorem of_hidT {h:Heap} {H:Hp} {b:Addr} {o:Obj} (e:(hidT h H).get? b = some o):h.get? b = some o∧H b = none:=by
  have e':h.get? b = some o:=PySem.W.of_hideAll (trk h H) e
  refine⟨e',?_⟩
  cases q:H b with
  | none=>rfl
  | some x=>
    have hm:b∈trk h H:=List.mem_filter.mpr ⟨List.mem_range.mpr (Heap.lt_size e'),by simp [q]⟩
    have z:(hidT h H).get? b = none:=PySem.W.hideAll_none (trk h H) hm
    rw [z] at e;cases e
def allNews (g h:Heap) (L:Addr):List (Addr×Obj):=(List.range h.objs.size).filterMap fun a=>if a = L∨(g.get? a).isSome = true then none else (h.get? a).map fun o=>(a,o)
def rest (g h:Heap) (L d:Addr):List (Addr×Obj):=(allNews g h L).filter fun p=>decide (p.1≠d)
end L2
namespace L2
open PySem PySem.Spec PyProof.Rows
structure Mod (K:PySem.W.Frag) (mg:Str→Option Value) (base:Heap):Prop where
  kin:K.In base
  glob:base.Ns mainGlobals mg
  blt:∃mb,base.Ns builtinsNs mb∧∀x:Str,x≠"__name__"→mb x = bootBuiltins x
  nolimit:base.NoLimit
structure Cx where
  prog:Program
  w:World
  K:PySem.W.Frag
  mg:Str→Option Value
  base:Heap
  A:Around
  N:List Str
  s₀:Shared
  H₀:Hp
  env:Env
  outer:List Env
  stack:List Env
  ex:List Addr
  fn:Str→Bool
  calm:Bool
  pn:List (Addr×Obj)
  xe:Value→Shared→Prop
def frs (l:List Env):List Addr:=l.filterMap (·.frame)
abbrev Cx.fs (X:Cx):List Addr:=frs X.outer
def Vis (sc:Scope) (x:Str):Prop:=sc.names.lookup x = some .local∨sc.names.lookup x = some .cell∨sc.names.lookup x = some .free
def Loc (sc:Scope) (x:Str):Prop:=sc.names.lookup x = some .local∨sc.names.lookup x = some .cell
def Look (env:Env) (h:Heap) (m:Str→Option Value) (x:Str) (u:Value):Prop:=
  (env.kindOf x = some .local∧m x = some u)∨((env.kindOf x = some .cell∨env.kindOf x = some .free)∧∃c,env.cells.lookup x = some c∧h.IsCell c (some u))
structure Cx.Ok (X:Cx):Prop where
  mod:Mod X.K X.mg X.base
  kind:X.env.scope.kind = .function
  glob:X.env.globals = mainGlobals
  blt:X.env.builtins = builtinsNs
  above:X.s₀.heap.objs.size≤X.env.locals
  inj:∀x y c,X.env.cells.lookup x = some c→X.env.cells.lookup y = some c→x = y
  has:∀x,(X.env.kindOf x = some .cell∨X.env.kindOf x = some .free)→∃c,X.env.cells.lookup x = some c
  cab:∀x c,X.fn x = true→X.env.cells.lookup x = some c→X.s₀.heap.objs.size≤c
  hd:X.calm = true→X.A.handled = none
  frames:X.A.frames = some X.stack
  stk:X.stack = X.outer∨(X.stack = X.env :: X.outer∧X.env.frame = some X.env.locals)
  exf:∀b∈X.ex,b≠X.env.locals∧∀x c,X.env.cells.lookup x = some c→c≠b
  bs:∀b o,X.base.get? b = some o→X.s₀.heap.get? b = some o∧X.H₀ b = none
  bsz:X.base.objs.size≤X.s₀.heap.objs.size
  noex:∀b o,X.base.get? b = some o→b∉X.ex
  exfs:∀b∈X.ex,b∉X.fs
  funs:X.s₀.heap.FunFrames X.base X.outer
  frf:∀b∈X.fs,X.H₀ b = none
structure Inv (X:Cx) (pins:List (Addr×Obj)) (σ:List (Option V)) (H:Hp) (s:Shared):Prop where
  ok:X.Ok
  os:s.os = X.s₀.os
  bare:AllBare s.gens
  base:Un X.fs X.ex X.H₀ H X.s₀.heap s.heap
  loc:∃m,s.heap.Ns X.env.locals m∧∀(i:Nat) (x:Str) (v:V),X.N[i]? = some x→σ[i]? = some (some v)→Vis X.env.scope x→∃u,RelV v u∧Look X.env s.heap m x u
  cell:∀x c,X.env.cells.lookup x = some c→∃v,s.heap.IsCell c v
  free:H X.env.locals = none
  freeC:∀x c,X.env.cells.lookup x = some c→H c = none
  pin:∀p∈X.pn ++ pins,s.heap.get? p.1 = some p.2∧H p.1 = none∧p.1≠X.env.locals∧p.1∉X.fs∧∀v,p.2.data≠ .cell v
  hok:HOk X.prog X.w H s.heap
  len:σ.length = X.N.length
section
variable {X:Cx} {pins:List (Addr×Obj)} {σ:List (Option V)} {H H':Hp} {s:Shared} {h':Heap}
theorem Cx.Ok.nofr (ok:X.Ok) {b:Addr} {o:Obj} (e:X.base.get? b = some o):b∉X.fs:=fun hb=>by
  have:=(ok.funs.mem hb).1
  rw [e] at this;cases this
theorem Inv.bs (I:Inv X pins σ H s):∀b o,X.base.get? b = some o→s.heap.get? b = some o∧H b = none:=fun b o e=>
  ⟨I.base.keep b o (I.ok.bs b o e).1 (I.ok.bs b o e).2 (I.ok.nofr e) (I.ok.noex b o e),I.base.free b o (I.ok.bs b o e).1 (I.ok.bs b o e).2 (I.ok.noex b o e)⟩
theorem Inv.bk (I:Inv X pins σ H s):∀b o,X.base.get? b = some o→s.heap.get? b = some o:=fun b o e=>(I.bs b o e).1
theorem Inv.mod (I:Inv X pins σ H s):Mod X.K X.mg X.base:=I.ok.mod
theorem Inv.kIn (I:Inv X pins σ H s):X.K.In s.heap:=I.ok.mod.kin.keeps I.bk
theorem Inv.fr (I:Inv X pins σ H s):∃m,Fr X.base X.env.locals s.heap m:=
  let ⟨m,hn,_⟩:=I.loc
  ⟨m,hn,I.bk,Nat.le_trans I.ok.bsz I.ok.above⟩
theorem Inv.lt (I:Inv X pins σ H s):X.env.locals < s.heap.objs.size:=let ⟨_,hn,_⟩:=I.loc;hn.lt
theorem Inv.sz (I:Inv X pins σ H s):X.s₀.heap.objs.size≤s.heap.objs.size:=Nat.le_trans I.ok.above (Nat.le_of_lt I.lt)
theorem Inv.nofs (I:Inv X pins σ H s) {a:Addr} (h:s.heap.objs.size≤a):a∉X.fs:=fun hb=>by
  obtain⟨_,o,ho,_⟩:=I.ok.funs.mem hb
  exact absurd (Nat.lt_of_lt_of_le (Heap.lt_size ho) (Nat.le_trans I.sz h)) (Nat.lt_irrefl _)
theorem Inv.cne (I:Inv X pins σ H s):∀x c,X.env.cells.lookup x = some c→c≠X.env.locals:=fun x c e z=>by
  obtain⟨v,o,ho,hd⟩:=I.cell x c e
  obtain⟨m,⟨o',es,ep,ho',hd',_⟩,_⟩:=I.loc
  rw [z,ho'] at ho;cases ho;rw [hd'] at hd;cases hd
theorem Inv.funs (I:Inv X pins σ H s):s.heap.FunFrames X.base X.outer:=by
  have all:∀(l:List Env),(∀b∈frs l,b∈X.fs)→X.s₀.heap.FunFrames X.base l→s.heap.FunFrames X.base l:=by
    intro l
    induction l with
    | nil=>intro _ _;trivial
    | cons env r ih=>
      intro hs hl
      obtain⟨hk,⟨L,o,hf,hn,ho,hd⟩,hr⟩:=hl
      have hL:L∈X.fs:=hs L (by unfold frs;rw [List.filterMap_cons,hf];exact List.mem_cons_self)
      obtain⟨sl,e⟩:=I.base.slot L o ho (I.ok.frf L hL) hL fun z=>I.ok.exfs L z hL
      exact⟨hk,⟨L,_,hf,hn,e,hd⟩,ih (fun b hb=>hs b (by unfold frs;rw [List.filterMap_cons,hf];exact List.mem_cons_of_mem _ hb)) hr⟩
  exact all X.outer (fun _ hb=>hb) I.ok.funs
theorem Inv.stack (I:Inv X pins σ H s):s.heap.FunFrames X.base X.stack:=by
  rcases I.ok.stk with e | ⟨e,hf⟩
  · rw [e];exact I.funs
  · rw [e]
    obtain⟨m,hn,_⟩:=I.loc
    refine .cons (by rw [I.ok.kind];decide) hf hn ?_ I.funs
    exact Heap.get?_none_of_le (Nat.le_trans I.ok.bsz I.ok.above)
theorem Inv.stkSub (I:Inv X pins σ H s):∀b∈frs X.stack,b∈X.env.locals :: X.fs:=fun b hb=>by
  rcases I.ok.stk with e | ⟨e,hf⟩
  · rw [e] at hb;exact List.mem_cons_of_mem _ hb
  · rw [e] at hb
    unfold frs at hb
    rw [List.filterMap_cons,hf] at hb
    exact hb
theorem Inv.stkFree (I:Inv X pins σ H s):∀b∈frs X.stack,H b = none:=fun b hb=>by
  rcases List.mem_cons.mp (I.stkSub b hb) with e | hb
  · rw [e];exact I.free
  · obtain⟨_,o,ho,_⟩:=I.ok.funs.mem hb
    exact I.base.free b o ho (I.ok.frf b hb) fun z=>I.ok.exfs b z hb
theorem Inv.step {g':Array GenState} {t':Nat} {d':Drawn} {ch:List Addr} (I:Inv X pins σ H s)
    (hch:∀b∈ch,(b∈X.ex∨X.s₀.heap.objs.size≤b)∧b≠X.env.locals∧(∀x c,X.env.cells.lookup x = some c→c≠b)∧∀p∈X.pn ++ pins,p.1≠b)
    (keep:∀b o,b≠X.env.locals→b∉X.fs→b∉ch→s.heap.get? b = some o→H b = none→h'.get? b = some o)
    (slot:∀b o,b≠X.env.locals→b∈X.fs→b∉ch→s.heap.get? b = some o→H b = none→∃sl,h'.get? b = some { o with slots:=sl }) (free:∀b o,b∉ch→s.heap.get? b = some o→H b = none→H' b = none)
    (there:∀b o,b∉ch→s.heap.get? b = some o→∃o',h'.get? b = some o')
    (tups:∀b xs,H b = some (.tup xs)→H' b = some (.tup xs)) (frzs:∀b o u,H b = some (.frz o u)→H' b = some (.frz o u)) (tbls:∀b ps,H b = some (.tbl ps)→∃more,H' b = some (.tbl (ps ++ more)))
    (ns:∀m,s.heap.Ns X.env.locals m→h'.Ns X.env.locals m) (hok:HOk X.prog X.w H' h') (hg:AllBare g') :
    Inv X pins σ H' { s with heap:=h',gens:=g',drawn:=d',toks:=t' }:=by
  have neL:∀b o,X.s₀.heap.get? b = some o→b≠X.env.locals:=fun b o e=>Nat.ne_of_lt (Nat.lt_of_lt_of_le (Heap.lt_size e) I.ok.above)
  have neC:∀b o,X.s₀.heap.get? b = some o→b∉X.ex→b∉ch:=fun b o e hx hb=>by
    rcases (hch b hb).1 with z | z
    · exact hx z
    · exact absurd (Nat.lt_of_lt_of_le (Heap.lt_size e) z) (Nat.lt_irrefl _)
  have cellK:∀x c,X.env.cells.lookup x = some c→∀v,s.heap.IsCell c v→h'.IsCell c v:=fun x c e v ⟨o,ho,hd⟩=>by
    have nch:c∉ch:=fun z=>(hch c z).2.2.1 x c e rfl
    by_cases hc:c∈X.fs
    · obtain⟨sl,q⟩:=slot c o (I.cne x c e) hc nch ho (I.freeC x c e)
      exact⟨_,q,hd⟩
    · exact⟨o,keep c o (I.cne x c e) hc nch ho (I.freeC x c e),hd⟩
  refine⟨I.ok,I.os,hg,⟨fun b o e n hb hx=>?_,fun b o e n hb hx=>?_,fun b o e n hx=>?_,fun b o e hx=>?_,fun b xs e=>tups b xs (I.base.tups b xs e),fun b o xs e=>frzs b o xs (I.base.frzs b o xs e),fun b ps e=>?_⟩,?_,fun x c e=>?_,?_,fun x c e=>?_,fun p hp=>?_,hok,I.len⟩
  · exact keep b o (neL b o e) hb (neC b o e hx) (I.base.keep b o e n hb hx) (I.base.free b o e n hx)
  · obtain⟨sl,e1⟩:=I.base.slot b o e n hb hx
    obtain⟨sl',e2⟩:=slot b _ (neL b o e) hb (neC b o e hx) e1 (I.base.free b o e n hx)
    exact⟨sl',e2⟩
  · obtain⟨o',e1⟩:=I.base.there b o e hx
    exact free b o' (neC b o e hx) e1 (I.base.free b o e n hx)
  · obtain⟨o',e1⟩:=I.base.there b o e hx
    exact there b o' (neC b o e hx) e1
  · obtain⟨m1,e1⟩:=I.base.tbls b ps e
    obtain⟨m2,e2⟩:=tbls b _ e1
    exact⟨m1 ++ m2,by rw [e2,Array.append_assoc]⟩
  · obtain⟨m,hn,hl⟩:=I.loc
    refine⟨m,ns m hn,fun i x v e1 e2 e3=>?_⟩
    obtain⟨u,r,l⟩:=hl i x v e1 e2 e3
    refine⟨u,r,?_⟩
    rcases l with l | ⟨k,c,e,z⟩
    · exact .inl l
    · exact .inr ⟨k,c,e,cellK x c e _ z⟩
  · obtain⟨v,z⟩:=I.cell x c e
    exact⟨v,cellK x c e v z⟩
  · obtain⟨m,⟨o,_,_,ho,_⟩,_⟩:=I.loc
    exact free _ o (fun z=>(hch _ z).2.1 rfl) ho I.free
  · obtain⟨v,o,ho,hd⟩:=I.cell x c e
    exact free c o (fun z=>(hch c z).2.2.1 x c e rfl) ho (I.freeC x c e)
  · obtain⟨e,n,ne,nf,d⟩:=I.pin p hp
    have nch:p.1∉ch:=fun z=>(hch p.1 z).2.2.2 p hp rfl
    exact⟨keep p.1 p.2 ne nf nch e n,free p.1 p.2 nch e n,ne,nf,d⟩
theorem Inv.un {t':Nat} (I:Inv X pins σ H s) (u:Un X.fs [] H H' s.heap h') (hok:HOk X.prog X.w H' h'):Inv X pins σ H' { s with heap:=h',toks:=t' }:=by
  obtain⟨m,⟨o,es,ep,ho,r⟩,_⟩:=id I.loc
  obtain⟨sl,hL⟩:=u.any ho I.free (by simp)
  exact I.step (g':=s.gens) (d':=s.drawn) (ch:=[]) (fun _ z=>nomatch z) (fun b o _ hb _ e n=>u.keep b o e n hb (by simp)) (fun b o _ hb _ e n=>u.slot b o e n hb (by simp)) (fun b o _ e n=>u.free b o e n (by simp)) (fun b o _ e=>u.there b o e (by simp)) u.tups u.frzs u.tbls (fun m' hm=>by
    obtain⟨o',es',ep',ho',r'⟩:=hm
    rw [ho] at ho';cases ho'
    exact⟨_,es',ep',hL,r'⟩) hok I.bare
theorem Inv.call {g':Array GenState} {t':Nat} {d':Drawn} {ch:List Addr} (I:Inv X pins σ H s) (u:Un (frs X.stack) ch H H' s.heap h') (hok:HOk X.prog X.w H' h') (hg:AllBare g')
    (hch:∀b∈ch,(b∈X.ex∨X.s₀.heap.objs.size≤b)∧b≠X.env.locals∧(∀x c,X.env.cells.lookup x = some c→c≠b)∧∀p∈X.pn ++ pins,p.1≠b) :
    Inv X pins σ H' { s with heap:=h',gens:=g',drawn:=d',toks:=t' }:=by
  obtain⟨m,⟨o,es,ep,ho,r⟩,_⟩:=id I.loc
  obtain⟨sl,hL⟩:=u.any ho I.free fun z=>(hch _ z).2.1 rfl
  exact I.step (ch:=ch) hch (fun b o hL hb hc e n=>u.keep b o e n (fun z=>(List.mem_cons.mp (I.stkSub b z)).elim hL hb) hc) (fun b o _ _ hc e n=>u.any e n hc) (fun b o hc e n=>u.free b o e n hc) (fun b o hc e=>u.there b o e hc) u.tups u.frzs u.tbls (fun m' hm=>by
    obtain⟨o',es',ep',ho',r'⟩:=hm
    rw [ho] at ho';cases ho'
    exact⟨_,es',ep',hL,r'⟩) hok hg
theorem Inv.turned {t':Nat} {it:Addr} (I:Inv X pins σ H s) (k:∀b o,b≠it→s.heap.get? b = some o→h'.get? b = some o) (hn:H it = none) (hL:it≠X.env.locals)
    (h1:it∈X.ex∨X.s₀.heap.objs.size≤it) (h2:∀x c,X.env.cells.lookup x = some c→c≠it) (h3:∀p∈X.pn ++ pins,p.1≠it):Inv X pins σ H { s with heap:=h',toks:=t' }:=by
  have nit:∀b u,H b = some u→b≠it:=fun b u e z=>by rw [z,hn] at e;cases e
  refine I.step (g':=s.gens) (d':=s.drawn) (ch:=[it]) (fun b hb=>?_) (fun b o _ _ hc e _=>k b o (fun z=>hc (by simp [z])) e) (fun b o _ _ hc e _=>⟨o.slots,k b o (fun z=>hc (by simp [z])) e⟩) (fun _ _ _ _ n=>n)
    (fun b o hc e=>⟨o,k b o (fun z=>hc (by simp [z])) e⟩) (fun _ _ e=>e) (fun _ _ _ e=>e) (fun b ps e=>⟨#[],by rw [e];simp⟩) (fun m hm=>?_) (fun b u e=>?_) I.bare
  · have e:b = it:=by simpa using hb
    subst e
    exact⟨h1,hL,h2,h3⟩
  · obtain⟨o,es,ep,ho,r⟩:=hm
    exact⟨o,es,ep,k _ o (Ne.symm hL) ho,r⟩
  · refine(I.hok b u e).stay (fun c v hc q=>k c v ?_ q) (fun _ q=>q) fun _ _ q=>q
    rcases hc with z | z
    · rw [z];exact nit b u e
    · exact nit c _ z
theorem Inv.tok (I:Inv X pins σ H s) (t:Nat):Inv X pins σ H { s with toks:=t }:=I.un (h':=s.heap) (t':=t) Un.refl I.hok
theorem Inv.kept {t':Nat} (I:Inv X pins σ H s) (k:∀b u,s.heap.get? b = some u→h'.get? b = some u):Inv X pins σ H { s with heap:=h',toks:=t' }:=I.un (Un.kept k) (I.hok.kept k)
theorem Inv.laid {a:Addr} {o:HO} {t':Nat} (I:Inv X pins σ H s) (k:∀b u,s.heap.get? b = some u→h'.get? b = some u) (hp:s.heap.objs.size≤a) (new:ObjOk X.prog X.w (upd H a o) h' a o) :
    Inv X pins σ (upd H a o) { s with heap:=h',toks:=t' }:=I.un (Un.laid k hp (I.hok.fresh hp)) (I.hok.laid k hp new)
theorem Inv.write {x e:Addr} {o:HO} {t':Nat} (I:Inv X pins σ H s) (mu:Mut (H x)) (he:e = x∨H e = some (.own x)) (k:∀b u,b≠e→s.heap.get? b = some u→h'.get? b = some u) (heo:∃u,h'.get? e = some u)
    (new:ObjOk X.prog X.w (upd H x o) h' x o):Inv X pins σ (upd H x o) { s with heap:=h',toks:=t' }:=I.un (Un.write mu he k heo) (I.hok.write mu he k heo new)
theorem Inv.weak {σ':List (Option V)} (I:Inv X pins σ H s) (hl:σ'.length = σ.length) (w:∀(i:Nat) v,σ'[i]? = some (some v)→σ[i]? = some (some v)):Inv X pins σ' H s:=
  ⟨I.ok,I.os,I.bare,I.base,let ⟨m,hn,hl'⟩:=I.loc;⟨m,hn,fun i x v e1 e2 e3=>hl' i x v e1 (w i v e2) e3⟩,I.cell,I.free,I.freeC,I.pin,I.hok,hl.trans I.len⟩
theorem Inv.pins_of {pins':List (Addr×Obj)} (I:Inv X pins σ H s) (h:∀p∈pins',s.heap.get? p.1 = some p.2∧H p.1 = none∧p.1≠X.env.locals∧p.1∉X.fs∧∀v,p.2.data≠ .cell v):Inv X pins' σ H s:=
  ⟨I.ok,I.os,I.bare,I.base,I.loc,I.cell,I.free,I.freeC,fun p hp=>(List.mem_append.mp hp).elim (fun z=>I.pin p (List.mem_append_left _ z)) (h p),I.hok,I.len⟩
theorem nodup_ix {N:List Str} (hN:N.Nodup) {i j:Nat} {x:Str} (a:N[i]? = some x) (b:N[j]? = some x):i = j:=by
  obtain⟨h1,e1⟩:=List.getElem?_eq_some_iff.mp a
  obtain⟨h2,e2⟩:=List.getElem?_eq_some_iff.mp b
  exact(List.getElem_inj hN).mp (e1.trans e2.symm)
theorem store_ok2 {M:Model} {A:Around} {E:Value→Shared→Prop} {i:Nat} {x:Str} {v:V} {u:Value} {Q:Unit→Shared→Prop} (I:Inv X pins σ H s) (hN:X.N.Nodup) (hi:X.N[i]? = some x) (hx:Loc X.env.scope x) (r:RelV v u)
    (h:∀s',Inv X pins (σ.set i (some v)) H s'→(∃a,Heap.SameBut a s.heap s'.heap∧(a = X.env.locals∨X.env.cells.lookup x = some a))→Q () s') (hf:X.fn x = true∨X.env.scope.names.lookup x = some .local:=by first | exact .inl rfl | exact .inr rfl | assumption):wpAny M A (storeName X.env x u) Q E s:=by
  obtain⟨m,hn,hl⟩:=id I.loc
  have hcls:(X.env.scope.kind == .class || (X.env.scope.kind == .module && X.env.locals != X.env.globals)) = false:=by rw [I.ok.kind];rfl
  have hiσ:i < σ.length:=by rw [I.len];exact(List.getElem?_eq_some_iff.mp hi).1
  have cne:=I.cne
  have tracked:∀{a:Addr} {h':Heap},(∃o,s.heap.get? a = some o∧H a = none)→Heap.SameBut a s.heap h'→HOk X.prog X.w H h':=fun {a h'} ha hs b ob e=>by
    obtain⟨_,_,hfree⟩:=ha
    refine(I.hok b ob e).stay (fun c w' hc q=>(hs.2 c ?_).trans q) (fun _ q=>q) fun _ _ q=>q
    rintro rfl
    rcases hc with rfl | hc
    · rw [hfree] at e;cases e
    · rw [hfree] at hc;cases hc
  rcases hx with hk | hk
  · refine wpAny_storeName_local hk hn (fun h' hn' hs=>?_) hcls
    obtain⟨oL,_,_,hoL,_⟩:=id hn
    refine h _ ⟨I.ok,I.os,I.bare,⟨fun b o e n hb hx=>?_,fun b o e n hb hx=>?_,I.base.free,fun b o e hx=>?_,I.base.tups,I.base.frzs,I.base.tbls⟩,⟨_,hn',fun j y v' e1 e2 e3=>?_⟩,fun y c e=>?_,I.free,I.freeC,fun p hp=>?_,tracked ⟨oL,hoL,I.free⟩ hs,by simpa using I.len⟩ ⟨_,hs,.inl rfl⟩
    · exact(hs.2 b (Nat.ne_of_lt (Nat.lt_of_lt_of_le (Heap.lt_size e) I.ok.above))).trans (I.base.keep b o e n hb hx)
    · obtain⟨sl,e1⟩:=I.base.slot b o e n hb hx
      exact⟨sl,(hs.2 b (Nat.ne_of_lt (Nat.lt_of_lt_of_le (Heap.lt_size e) I.ok.above))).trans e1⟩
    · obtain⟨o',e1⟩:=I.base.there b o e hx
      exact⟨o',(hs.2 b (Nat.ne_of_lt (Nat.lt_of_lt_of_le (Heap.lt_size e) I.ok.above))).trans e1⟩
    · by_cases hj:j = i
      · subst hj
        rw [hi] at e1;cases e1
        rw [List.getElem?_set_self hiσ] at e2
        cases e2
        exact⟨u,r,.inl ⟨hk,by simp⟩⟩
      · rw [List.getElem?_set_ne (Ne.symm hj)] at e2
        obtain⟨u',r',q⟩:=hl j y v' e1 e2 e3
        refine⟨u',r',?_⟩
        rcases q with ⟨k,e⟩ | ⟨k,c,e,z⟩
        · refine .inl ⟨k,?_⟩
          have:y≠x:=fun e=>hj (nodup_ix hN e1 (e▸hi))
          simp [this,e]
        · exact .inr ⟨k,c,e,z.sameBut hs (cne y c e)⟩
    · obtain⟨w',z⟩:=I.cell y c e
      exact⟨w',z.sameBut hs (cne y c e)⟩
    · obtain⟨e,n,ne,nf,d⟩:=I.pin p hp
      exact⟨(hs.2 p.1 ne).trans e,n,ne,nf,d⟩
  · have hfn:X.fn x = true:=by
      rcases hf with z | z
      · exact z
      · rw [z] at hk;cases hk
    obtain⟨c,hc⟩:=I.ok.has x (.inl hk)
    obtain⟨w',z⟩:=I.cell x c hc
    refine wpAny_storeName_cell I.ok.kind hk hc z (fun h' hc' hs=>?_)
    obtain⟨oc,hoc,hocd⟩:=id z
    refine h { s with heap:=h' } ⟨I.ok,I.os,I.bare,⟨fun b o e n hb hx=>?_,fun b o e n hb hx=>?_,I.base.free,fun b o e hx=>?_,I.base.tups,I.base.frzs,I.base.tbls⟩,⟨m,hn.sameBut hs (Ne.symm (cne x c hc)),fun j y v' e1 e2 e3=>?_⟩,fun y c' e=>?_,I.free,I.freeC,fun p hp=>?_,tracked ⟨oc,hoc,I.freeC x c hc⟩ hs,by simpa using I.len⟩ ⟨c,hs,.inr hc⟩
    · exact(hs.2 b (Nat.ne_of_lt (Nat.lt_of_lt_of_le (Heap.lt_size e) (I.ok.cab x c hfn hc)))).trans (I.base.keep b o e n hb hx)
    · obtain⟨sl,e1⟩:=I.base.slot b o e n hb hx
      exact⟨sl,(hs.2 b (Nat.ne_of_lt (Nat.lt_of_lt_of_le (Heap.lt_size e) (I.ok.cab x c hfn hc)))).trans e1⟩
    · obtain⟨o',e1⟩:=I.base.there b o e hx
      exact⟨o',(hs.2 b (Nat.ne_of_lt (Nat.lt_of_lt_of_le (Heap.lt_size e) (I.ok.cab x c hfn hc)))).trans e1⟩
    · by_cases hj:j = i
      · subst hj
        rw [hi] at e1;cases e1
        rw [List.getElem?_set_self hiσ] at e2
        cases e2
        exact⟨u,r,.inr ⟨.inl hk,c,hc,hc'⟩⟩
      · rw [List.getElem?_set_ne (Ne.symm hj)] at e2
        obtain⟨u',r',q⟩:=hl j y v' e1 e2 e3
        refine⟨u',r',?_⟩
        rcases q with q | ⟨k,c',e,z'⟩
        · exact .inl q
        · refine .inr ⟨k,c',e,z'.sameBut hs ?_⟩
          rintro rfl
          exact hj (nodup_ix hN e1 (I.ok.inj _ _ _ e hc▸hi))
    · by_cases hcc:c' = c
      · subst hcc;exact⟨_,hc'⟩
      · obtain⟨w2,z2⟩:=I.cell y c' e
        exact⟨w2,z2.sameBut hs hcc⟩
    · obtain⟨e,n,ne,nf,d⟩:=I.pin p hp
      refine⟨(hs.2 p.1 ?_).trans e,n,ne,nf,d⟩
      intro q
      rw [q,hoc] at e
      have q':oc = p.2:=Option.some.inj e
      exact d w' (by rw [←q'];exact hocd)
theorem store_ok {M:Model} {A:Around} {E:Value→Shared→Prop} {i:Nat} {x:Str} {v:V} {u:Value} {Q:Unit→Shared→Prop} (I:Inv X pins σ H s) (hN:X.N.Nodup) (hi:X.N[i]? = some x) (hx:Loc X.env.scope x) (r:RelV v u)
    (h:∀s',Inv X pins (σ.set i (some v)) H s'→Q () s') (hf:X.fn x = true∨X.env.scope.names.lookup x = some .local:=by first | exact .inl rfl | exact .inr rfl | assumption):wpAny M A (storeName X.env x u) Q E s:=
  store_ok2 I hN hi hx r (fun s' I' _=>h s' I') hf
theorem Inv.call' {s':Shared} {ch:List Addr} (I:Inv X pins σ H s) (ho:s'.os = s.os) (u:Un (frs X.stack) ch H H' s.heap s'.heap) (hok:HOk X.prog X.w H' s'.heap) (hg:AllBare s'.gens)
    (hch:∀b∈ch,(b∈X.ex∨X.s₀.heap.objs.size≤b)∧b≠X.env.locals∧(∀x c,X.env.cells.lookup x = some c→c≠b)∧∀p∈X.pn ++ pins,p.1≠b):Inv X pins σ H' s':=by
  obtain⟨h',g',d',t',o'⟩:=s'
  have e:o' = s.os:=ho
  subst e
  exact I.call (g':=g') (t':=t') (d':=d') u hok hg hch
end
abbrev XK:=Value→Option Addr→Hp→Prop
abbrev St:=List (Option V)
abbrev VK:=V→Hp→Prop
abbrev TE:=St→Hp→VK→Prop
abbrev TT:=St→Hp→(Bool→Hp→Prop)→Prop
abbrev TA:=St→Hp→(List V→Hp→Prop)→Prop
structure Ends where
  nx:St→Hp→Prop
  rt:VK
  bk:St→Hp→Prop:=fun _ _=>False
  ct:St→Hp→Prop:=fun _ _=>False
abbrev TS:=Ends→St→Hp→Prop
def EP (X:Cx) (pins:List (Addr×Obj)) (σ:St) (Q:VK) (u:Value) (s':Shared):Prop:=∃v H',Inv X pins σ H' s'∧RelV v u∧Q v H'
def TP (X:Cx) (pins:List (Addr×Obj)) (σ:St) (Q:Bool→Hp→Prop) (b:Bool) (s':Shared):Prop:=∃H',Inv X pins σ H' s'∧Q b H'
def AP (X:Cx) (pins:List (Addr×Obj)) (σ:St) (Q:List V→Hp→Prop) (us:List Value) (s':Shared):Prop:=∃vs H',Inv X pins σ H' s'∧Vals vs us∧Q vs H'
def SP (X:Cx) (pins:List (Addr×Obj)) (D:Ends) (f:Flow) (s':Shared):Prop:=
  match f with
  | .next=>∃σ' H',Inv X pins σ' H' s'∧D.nx σ' H'
  | .brk=>∃σ' H',Inv X pins σ' H' s'∧D.bk σ' H'
  | .cont=>∃σ' H',Inv X pins σ' H' s'∧D.ct σ' H'
  | .ret u=>∃v σ' H',Inv X pins σ' H' s'∧RelV v u∧D.rt v H'
def PE (X:Cx) (e:Expr) (t:TE):Prop:=
  ∀(pins:List (Addr×Obj)) (s:Shared) (σ:St) (H:Hp) (Q:VK),Inv X pins σ H s→t σ H Q→wpAny (model X.prog X.w) X.A (eval e X.env) (EP X pins σ Q) X.xe s
def PT (X:Cx) (e:Expr) (t:TT):Prop:=
  ∀(pins:List (Addr×Obj)) (s:Shared) (σ:St) (H:Hp) (Q:Bool→Hp→Prop),Inv X pins σ H s→t σ H Q→wpAny (model X.prog X.w) X.A (isTrue e X.env (eval e X.env)) (TP X pins σ Q) X.xe s
def PW (X:Cx) (e:Expr) (t:TT):Prop:=
  ∀(whole:Sem Value) (pins:List (Addr×Obj)) (s:Shared) (σ:St) (H:Hp) (Q:Bool→Hp→Prop),Inv X pins σ H s→t σ H Q→wpAny (model X.prog X.w) X.A (isTrue e X.env whole) (TP X pins σ Q) X.xe s
theorem PW.pt {X:Cx} {e:Expr} {t:TT} (h:PW X e t):PT X e t:=h _
def PA (X:Cx) (es:List Expr) (t:TA):Prop:=
  ∀(pos:Pos) (pins:List (Addr×Obj)) (s:Shared) (σ:St) (H:Hp) (Q:List V→Hp→Prop),Inv X pins σ H s→t σ H Q→wpAny (model X.prog X.w) X.A (spliced (backTo pos (starEach es X.env))) (AP X pins σ Q) X.xe s
def PS (X:Cx) (st:Stmt) (t:TS):Prop:=
  ∀(pins:List (Addr×Obj)) (s:Shared) (σ:St) (H:Hp) (D:Ends),Inv X pins σ H s→t D σ H→wpAny (model X.prog X.w) X.A (exec st X.env) (SP X pins D) X.xe s
def PSs (X:Cx) (st:List Stmt) (t:TS):Prop:=
  ∀(pins:List (Addr×Obj)) (s:Shared) (σ:St) (H:Hp) (D:Ends),Inv X pins σ H s→t D σ H→wpAny (model X.prog X.w) X.A (execs st X.env) (SP X pins D) X.xe s
theorem thn {α:Type} {t:Sem α} {Q Q':α→Shared→Prop} {M:Model} {A:Around} {E:Value→Shared→Prop} {s:Shared} (h:wpAny M A t Q E s) (hQ:∀a s,Q a s→Q' a s):wpAny M A t Q' E s:=wpAny_mono h hQ fun _ _ x=>x
end L2
namespace L2
open PySem PySem.Spec PyProof.Rows
section
variable {X:Cx}
theorem bin {a b:Expr} {ta tb:TE} (ha:PE X a ta) (hb:PE X b tb) {pins:List (Addr×Obj)} {s:Shared} {σ:St} {H:Hp} {R:V→V→Hp→Prop} (I:Inv X pins σ H s) (h:ta σ H fun x H1=>tb σ H1 fun y H2=>R x y H2)
    {α:Type} {Q:α→Shared→Prop} {f:Value→Value→Sem α}
    (hf:∀v u s2 x y H2,Inv X pins σ H2 s2→RelV x v→RelV y u→R x y H2→wpAny (model X.prog X.w) X.A (f v u) Q X.xe s2) :
    wpAny (model X.prog X.w) X.A (eval a X.env) (fun v s₁=>wpAny (model X.prog X.w) X.A (eval b X.env) (fun u s₂=>wpAny (model X.prog X.w) X.A (f v u) Q X.xe s₂) X.xe s₁) X.xe s:=by
  refine thn (ha pins s σ H _ I h) fun v s1 ⟨x,H1,I1,r1,q1⟩=>?_
  refine thn (hb pins s1 σ H1 _ I1 q1) fun u s2 ⟨y,H2,I2,r2,q2⟩=>?_
  exact hf v u s2 x y H2 I2 r1 r2 q2
def tVar (i:Nat):TE:=fun σ H Q=>∃v,σ[i]? = some (some v)∧Q v H
def tC (v:V):TE:=fun _ H Q=>Q v H
theorem pe_var {i:Nat} {x:Str} {pos:Pos} (hN:X.N[i]? = some x) (hv:Vis X.env.scope x) (hd:(x == ("__debug__":Str)) = false:=by decide) (hcd:(x == ("__classdict__":Str)) = false:=by decide):PE X (.Name x pos) (tVar i):=by
  intro pins s σ H Q I h
  obtain⟨v,e,h⟩:=h
  obtain⟨m,hn,hl⟩:=I.loc
  obtain⟨u,r,l⟩:=hl i x v hN e hv
  have fin:EP X pins σ Q u s:=⟨v,H,I,r,h⟩
  rcases l with ⟨hk,hm⟩ | ⟨hk,c,hc,hcell⟩
  · exact wpAny_Name (wpAny_loadName_local I.ok.kind hk hn hm fin) hd
  · rcases hk with hk | hk
    · exact wpAny_Name (wpAny_loadName_cell I.ok.kind hk hc hcell fin) hd
    · exact wpAny_Name (wpAny_loadName_free I.ok.kind hk hc hcell fin hcd) hd
theorem pe_int {i j pos}:PE X (.Constant (.int i) j pos) (tC (.int i)):=fun _ _ _ H _ I h=>wpAny_Constant_int ⟨.int i,H,I.tok _,⟨_,rfl⟩,h⟩
theorem pe_bl {b j pos}:PE X (.Constant (.bool b) j pos) (tC (.bl b)):=fun _ _ _ H _ I h=>Constant_bool ⟨.bl b,H,I,rfl,h⟩
theorem pe_str {x j pos}:PE X (.Constant (.str x) j pos) (tC (.str x)):=fun _ _ _ H _ I h=>Calls.Constant_str ⟨.str x,H,I.tok _,⟨_,rfl⟩,h⟩
def Gl (X:Cx) (x:Str):Prop:=X.env.kindOf x = some .globalImplicit
theorem ld_glob {E:Value→Shared→Prop} {pins:List (Addr×Obj)} {s:Shared} {σ:St} {H:Hp} {x:Str} {u:Value} {pos:Pos} {Q:Value→Shared→Prop} (I:Inv X pins σ H s) (hg:Gl X x) (hm:X.mg x = some u) (h:Q u s)
    (hd:(x == ("__debug__":Str)) = false:=by decide):wpAny (model X.prog X.w) X.A (eval (.Name x pos) X.env) Q E s:=
  Calls.Name_function_global I.ok.kind hg (Calls.loadGlobal_global (by rw [I.ok.glob];exact I.mod.glob.keeps I.bk) hm h) hd
theorem ld_blt {E:Value→Shared→Prop} {pins:List (Addr×Obj)} {s:Shared} {σ:St} {H:Hp} {x:Str} {u:Value} {pos:Pos} {Q:Value→Shared→Prop} (I:Inv X pins σ H s) (hg:Gl X x) (hm:X.mg x = none) (hv:bootBuiltins x = some u) (h:Q u s)
    (hn:x≠"__name__":=by decide) (hd:(x == ("__debug__":Str)) = false:=by decide):wpAny (model X.prog X.w) X.A (eval (.Name x pos) X.env) Q E s:=by
  obtain⟨mb,h1,h2⟩:=I.mod.blt
  exact Calls.Name_function_global I.ok.kind hg (Calls.loadGlobal_builtin (by rw [I.ok.glob];exact I.mod.glob.keeps I.bk) hm (by rw [I.ok.blt];exact h1.keeps I.bk) ((h2 x hn).trans hv) h) hd
theorem pe_glob {x:Str} {v:V} {u:Value} {pos:Pos} (hg:Gl X x) (hm:X.mg x = some u) (r:RelV v u) (hd:(x == ("__debug__":Str)) = false:=by decide):PE X (.Name x pos) (tC v):=
  fun _ _ _ H _ I h=>ld_glob I hg hm ⟨v,H,I,r,h⟩ hd
theorem pe_bltn {x:Str} {v:V} {u:Value} {pos:Pos} (hg:Gl X x) (hm:X.mg x = none) (hv:bootBuiltins x = some u) (r:RelV v u) (hn:x≠"__name__":=by decide) (hd:(x == ("__debug__":Str)) = false:=by decide):PE X (.Name x pos) (tC v):=
  fun _ _ _ H _ I h=>ld_blt I hg hm hv ⟨v,H,I,r,h⟩ hn hd
def t2I (ta tb:TE) (k:Int→Int→Hp→Prop):St→Hp→Prop:=fun σ H=>ta σ H fun x H1=>tb σ H1 fun y H2=>∃i j,x = .int i∧y = .int j∧k i j H2
def tAdd (ta tb:TE):TE:=fun σ H Q=>t2I ta tb (fun i j H2=>Q (.int (i + j)) H2) σ H
def tSub (ta tb:TE):TE:=fun σ H Q=>t2I ta tb (fun i j H2=>Q (.int (i - j)) H2) σ H
def tMul (ta tb:TE):TE:=fun σ H Q=>t2I ta tb (fun i j H2=>(-(2 ^ 64) < i∧i < 2 ^ 64)∧Q (.int (i * j)) H2) σ H
variable {a b:Expr} {ta tb:TE} {pos:Pos}
def PC (X:Cx) (op:CmpOp) (a b:Expr) (t:TE):Prop:=
  ∀ (pins:List (Addr×Obj)) (s:Shared) (σ:St) (H:Hp) (Q:VK),Inv X pins σ H s→t σ H Q→
    wpAny (model X.prog X.w) X.A (eval a X.env) (fun v s₁=>wpAny (model X.prog X.w) X.A (eval b X.env) (fun u s₂=>wpAny (model X.prog X.w) X.A (compareOp op v u) (EP X pins σ Q) X.xe s₂) X.xe s₁) X.xe s
def tCmp (p:Int→Int→Bool) (ta tb:TE):TE:=fun σ H Q=>t2I ta tb (fun i j H2=>Q (.bl (p i j)) H2) σ H
abbrev tLt:TE→TE→TE:=tCmp fun i j=>decide (i < j)
abbrev tLe:TE→TE→TE:=tCmp fun i j=>decide (i≤j)
abbrev tGt:TE→TE→TE:=tCmp fun i j=>decide (j < i)
abbrev tGe:TE→TE→TE:=tCmp fun i j=>decide (j≤i)
abbrev tEqI:TE→TE→TE:=tCmp fun i j=>decide (i = j)
abbrev tNeI:TE→TE→TE:=tCmp fun i j=>!decide (i = j)
def tIsN (ta:TE):TE:=fun σ H Q=>ta σ H fun x H1=>Q (.bl (decide (x = .non))) H1
def tNotN (ta:TE):TE:=fun σ H Q=>ta σ H fun x H1=>Q (.bl (!decide (x = .non))) H1
def tB (t:TE):TT:=fun σ H Q=>t σ H fun x H1=>∃c,x = .bl c∧Q c H1
theorem pt_cmp {op:CmpOp} {t:TE} (h:PC X op a b t) (h1:behindInMarks op b = false:=by first | exact nobehind _ (by decide) (by decide) | rfl):PT X (.Compare a [op] [b] pos) (tB t):=by
  intro pins s σ H Q I hw
  refine wpAny_isTrue_Compare1 (thn (h pins s σ H _ I hw) fun v s1 h1=>thn h1 fun u s2 h2=>thn h2 fun c s3 ⟨x,H1,I1,r1,q1⟩=>?_) h1
  obtain⟨d,rfl,q⟩:=q1
  cases r1
  exact wpAny_truthy_bool ⟨H1,I1,q⟩
theorem pt_val {e:Expr} {t:TE} (h:PE X e t) (he:∀whole,isTrue e X.env whole = (do let v←whole;standAt e.pos;holding [v] (truthy v)):=by intro _;rfl):PT X e (tB t):=by
  intro pins s σ H Q I hw
  refine isTrue_plain (thn (h pins s σ H _ I hw) fun v s1 ⟨x,H1,I1,r1,q1⟩=>?_) (he _)
  obtain⟨d,rfl,q⟩:=q1
  cases r1
  exact wpAny_truthy_bool ⟨H1,I1,q⟩
variable {tA tB':TT} {rest:List Expr}
def tAnd (t u:TT):TT:=fun σ H Q=>t σ H fun c H1=>if c = true then u σ H1 Q else Q false H1
def tOr (t u:TT):TT:=fun σ H Q=>t σ H fun c H1=>if c = true then Q true H1 else u σ H1 Q
def tNot (t:TT):TT:=fun σ H Q=>t σ H fun c H1=>Q (!c) H1
theorem pw_and1 (ha:PT X a tA):PW X (.BoolOp .And [a] pos) tA:=by
  intro wh pins s σ H Q I h
  refine isTrue_and (thn (ha pins s σ H Q I h) fun c s1 e=>?_)
  cases c with
  | true=>exact isTrue_and_nil e
  | false=>exact e
theorem pw_or1 (ha:PT X a tA):PW X (.BoolOp .Or [a] pos) tA:=by
  intro wh pins s σ H Q I h
  refine isTrue_or (thn (ha pins s σ H Q I h) fun c s1 e=>?_)
  cases c with
  | false=>exact isTrue_or_nil e
  | true=>exact e
theorem pw_and (ha:PT X a tA) (hb:PW X (.BoolOp .And (b :: rest) pos) tB'):PW X (.BoolOp .And (a :: b :: rest) pos) (tAnd tA tB'):=by
  intro wh pins s σ H Q I h
  refine isTrue_and (thn (ha pins s σ H _ I h) fun c s1 ⟨H1,I1,q1⟩=>?_)
  cases c with
  | true=>exact hb wh pins s1 σ H1 Q I1 q1
  | false=>exact⟨H1,I1,q1⟩
theorem pw_or (ha:PT X a tA) (hb:PW X (.BoolOp .Or (b :: rest) pos) tB'):PW X (.BoolOp .Or (a :: b :: rest) pos) (tOr tA tB'):=by
  intro wh pins s σ H Q I h
  refine isTrue_or (thn (ha pins s σ H _ I h) fun c s1 ⟨H1,I1,q1⟩=>?_)
  cases c with
  | true=>exact⟨H1,I1,q1⟩
  | false=>exact hb wh pins s1 σ H1 Q I1 q1
theorem pt_not (ha:PT X a tA):PT X (.UnaryOp .Not a pos) (tNot tA):=by
  intro pins s σ H Q I h
  exact isTrue_not (ha pins s σ H (fun c H1=>Q (!c) H1) I h)
def tAndV (ta tb:TE):TE:=fun σ H Q=>ta σ H fun x H1=>∃c,x = .bl c∧if c = true then tb σ H1 Q else Q (.bl false) H1
def tOrV (ta tb:TE):TE:=fun σ H Q=>ta σ H fun x H1=>∃c,x = .bl c∧if c = true then Q (.bl true) H1 else tb σ H1 Q
def tNotV (ta:TE):TE:=fun σ H Q=>ta σ H fun x H1=>∃c,x = .bl c∧Q (.bl (!c)) H1
def tIf (t:TT) (ta tb:TE):TE:=fun σ H Q=>t σ H fun c H1=>if c = true then ta σ H1 Q else tb σ H1 Q
theorem pe_ifExp {c:Expr} (hc:PT X c tA) (ha:PE X a ta) (hb:PE X b tb):PE X (.IfExp c a b pos) (tIf tA ta tb):=by
  intro pins s σ H Q I h
  refine wpAny_IfExp (thn (hc pins s σ H _ I h) fun d s1 ⟨H1,I1,q1⟩=>?_)
  cases d with
  | true=>exact ha pins s1 σ H1 Q I1 q1
  | false=>exact hb pins s1 σ H1 Q I1 q1
end
end L2
namespace L2
open PySem PySem.Spec PyProof.Rows
def SqL (K:PySem.W.Frag) (H:Hp) (a:Addr) (xs:List V):Prop:=
  Rd H a (.lst xs)∨
    ∃(o:Obj) (its:Array Value) (n:Nat),K.lookup a = some o∧o.cls = .type "list"∧o.dict = none∧o.data = .seq its n∧its.size≤sizeLine∧Vals xs its.toList
def SqT (K:PySem.W.Frag) (H:Hp) (a:Addr) (xs:List V):Prop:=
  Rd H a (.tup xs)∨
    ∃(o:Obj) (its:Array Value) (n:Nat),K.lookup a = some o∧o.cls = .type "tuple"∧o.data = .seq its n∧its.size≤sizeLine∧Vals xs its.toList
def absV:Value→Option V
  | .none=>some .non
  | .bool b=>some (.bl b)
  | .int i _=>some (.int i)
  | .str x _=>some (.str x)
  | .bytes b _=>some (.byt b)
  | .float b _=>some (.flt b)
  | .ref a=>some (.ref a)
  | .type n=>some (.ty n)
  | _=>none
theorem RelV.abs {x:V} {u:Value} (r:RelV x u):absV u = some x:=by
  cases x with
  | non=>cases r;rfl
  | bl _=>cases r;rfl
  | int _=>obtain⟨t,rfl⟩:=r;rfl
  | str _=>obtain⟨t,rfl⟩:=r;rfl
  | byt _=>obtain⟨t,rfl⟩:=r;rfl
  | flt _=>obtain⟨t,rfl⟩:=r;rfl
  | ref _=>cases r;rfl
  | ty _=>cases r;rfl
theorem RelV.inj {x y:V} {u:Value} (r:RelV x u) (q:RelV y u):x = y:=Option.some.inj (r.abs.symm.trans q.abs)
theorem Vals.inj:∀{xs ys:List V} {us:List Value},Vals xs us→Vals ys us→xs = ys
  | _,_,_,.nil,.nil=>rfl
  | _,_,_,.cons r t,.cons r' t'=>by rw [r.inj r',Vals.inj t t']
section
variable {X:Cx} {pins:List (Addr×Obj)} {σ:St} {H:Hp} {s:Shared} {a:Addr} {xs ys:List V}
theorem SqL.of {K:PySem.W.Frag} (h:H a = some (.lst xs)):SqL K H a xs:= .inl (.inl h)
theorem SqT.of {K:PySem.W.Frag} (h:H a = some (.tup xs)):SqT K H a xs:= .inl (.inl h)
theorem Inv.list (I:Inv X pins σ H s) (h:SqL X.K H a xs):∃its:List Value,Vals xs its∧PlainL s.heap a its.toArray∧xs.length≤sizeLine:=by
  rcases h with h | ⟨o,its,n,hk,hc,hd,hs,hz,r⟩
  · obtain⟨z,its,n,r,e⟩:=h.ok I.hok
    exact⟨its,r,⟨_,n,e,rfl,rfl,rfl⟩,z⟩
  · refine⟨its.toList,r,⟨o,n,I.kIn a o hk,hc,hd,by simpa using hs⟩,?_⟩
    have e:=r.length
    simp only [Array.length_toList] at e
    omega
theorem Inv.tuple (I:Inv X pins σ H s) (h:SqT X.K H a xs):∃its:List Value,Vals xs its∧IsTup s.heap a its.toArray∧xs.length≤sizeLine:=by
  rcases h with h | ⟨o,its,n,hk,hc,hs,hz,r⟩
  · obtain⟨z,its,r,p⟩:=h.ok I.hok
    exact⟨its,r,p,z⟩
  · refine⟨its.toList,r,⟨o,I.kIn a o hk,hc,n,by simpa using hs⟩,?_⟩
    have e:=r.length
    simp only [Array.length_toList] at e
    omega
theorem Inv.list_inj (I:Inv X pins σ H s) (h:SqL X.K H a xs) (h':SqL X.K H a ys):xs = ys:=by
  obtain⟨its,r,⟨o,n,e,_,_,d⟩,_⟩:=I.list h
  obtain⟨its',r',⟨o',n',e',_,_,d'⟩,_⟩:=I.list h'
  rw [e] at e';cases e'
  rw [d] at d'
  injection d' with d1 _
  have:its = its':=by simpa using congrArg Array.toList d1
  subst this
  exact r.inj r'
end
abbrev Cx.wish (X:Cx) (E:Value→Shared→Prop):Cx:={ X with xe:=E }
abbrev Cx.nox (X:Cx):Cx:=X.wish fun _ _=>False
theorem Cx.Ok.wish {X:Cx} (ok:X.Ok) (E:Value→Shared→Prop):(X.wish E).Ok:=
  ⟨ok.mod,ok.kind,ok.glob,ok.blt,ok.above,ok.inj,ok.has,ok.cab,ok.hd,ok.frames,ok.stk,ok.exf,ok.bs,ok.bsz,ok.noex,ok.exfs,ok.funs,ok.frf⟩
theorem Cx.Ok.unwish {X:Cx} {E:Value→Shared→Prop} (ok:(X.wish E).Ok):X.Ok:=
  ⟨ok.mod,ok.kind,ok.glob,ok.blt,ok.above,ok.inj,ok.has,ok.cab,ok.hd,ok.frames,ok.stk,ok.exf,ok.bs,ok.bsz,ok.noex,ok.exfs,ok.funs,ok.frf⟩
section
variable {X:Cx} {pins:List (Addr×Obj)} {σ:St} {H:Hp} {s:Shared} {E:Value→Shared→Prop}
theorem Inv.wish (I:Inv X pins σ H s) (E:Value→Shared→Prop):Inv (X.wish E) pins σ H s:=⟨I.ok.wish E,I.os,I.bare,I.base,I.loc,I.cell,I.free,I.freeC,I.pin,I.hok,I.len⟩
theorem Inv.unwish (I:Inv (X.wish E) pins σ H s):Inv X pins σ H s:=⟨I.ok.unwish,I.os,I.bare,I.base,I.loc,I.cell,I.free,I.freeC,I.pin,I.hok,I.len⟩
theorem SP.unwish {D:Ends} {f:Flow} {s':Shared} (h:SP (X.wish E) pins D f s'):SP X pins D f s':=by
  cases f with
  | next=>obtain⟨σ',H',I,q⟩:=h;exact⟨σ',H',I.unwish,q⟩
  | brk=>obtain⟨σ',H',I,q⟩:=h;exact⟨σ',H',I.unwish,q⟩
  | cont=>obtain⟨σ',H',I,q⟩:=h;exact⟨σ',H',I.unwish,q⟩
  | ret u=>obtain⟨v,σ',H',I,r,q⟩:=h;exact⟨v,σ',H',I.unwish,r,q⟩
theorem PSs.nox {st:List Stmt} {t:TS} (h:PSs X.nox st t):PSs X st t:=fun pins s σ H D I hw=>
  wpAny_mono (h pins s σ H D (I.wish _) hw) (fun _ _ q=>q.unwish) fun _ _ z=>False.elim z
end
section
variable {X:Cx} {st:Stmt} {rest:List Stmt} {t u:TS} {e:Expr} {te:TE} {pos:Pos}
def tNext:TS:=fun D σ H=>D.nx σ H
def tSeq (t u:TS):TS:=fun D σ H=>t { D with nx:=u D } σ H
theorem pss_nil:PSs X [] tNext:=fun _ _ σ H _ I h=>wpAny_execs_nil ⟨σ,H,I,h⟩
theorem pss_cons (h1:PS X st t) (h2:PSs X rest u):PSs X (st :: rest) (tSeq t u):=by
  intro pins s σ H D I h
  refine wpAny_execs_cons (thn (h1 pins s σ H { D with nx:=u D } I h) fun f s1 q=>?_)
  cases f with
  | next=>
    obtain⟨σ',H',I',q⟩:=q
    exact h2 pins s1 σ' H' D I' q
  | ret v=>exact q
  | brk=>exact q
  | cont=>exact q
theorem pss_one (h1:PS X st t):PSs X [st] t:=by
  intro pins s σ H D I h
  refine wpAny_execs_cons (thn (h1 pins s σ H D I h) fun f s1 q=>?_)
  cases f with
  | next=>exact wpAny_execs_nil q
  | ret v=>exact q
  | brk=>exact q
  | cont=>exact q
def tBreak:TS:=fun D σ H=>D.bk σ H
def tCont:TS:=fun D σ H=>D.ct σ H
theorem Inv.quiet {pins:List (Addr×Obj)} {σ:St} {H:Hp} {s:Shared} (I:Inv X pins σ H s):interactive X.env = false:=by simp [interactive,I.ok.kind]
def tDrop (te:TE):TS:=fun D σ H=>te σ H fun _ H1=>D.nx σ H1
theorem ps_expr (he:PE X e te) (hs:swapsWith e none pos.line X.env = pure false:=by rfl):PS X (.Expr e pos) (tDrop te):=by
  intro pins s σ H D I h
  exact wpAny_Expr_any (thn (he pins s σ H _ I h) fun v s1 ⟨x,H1,I1,r1,q1⟩=>⟨σ,H1,I1,q1⟩) I.quiet hs
def tRet (te:TE):TS:=fun D σ H=>te σ H D.rt
theorem ps_ret (he:PE X e te):PS X (.Return (some e) pos) (tRet te):=by
  intro pins s σ H D I h
  exact wpAny_Return_some (thn (he pins s σ H _ I h) fun v s1 ⟨x,H1,I1,r1,q1⟩=>⟨x,σ,H1,I1,r1,q1⟩)
def tRetN:TS:=fun D _ H=>D.rt .non H
def tIfS (c:TT) (t u:TS):TS:=fun D σ H=>c σ H fun b H1=>if b = true then t D σ H1 else u D σ H1
theorem ps_if {c:Expr} {a b:List Stmt} {tc:TT} (hc:PT X c tc) (ha:PSs X a t) (hb:PSs X b u):PS X (.If c a b pos) (tIfS tc t u):=by
  intro pins s σ H D I h
  refine wpAny_If (thn (hc pins s σ H _ I h) fun d s1 ⟨H1,I1,q1⟩=>?_)
  cases d with
  | true=>exact ha pins s1 σ H1 D I1 q1
  | false=>exact hb pins s1 σ H1 D I1 q1
def tNever:TS:=fun _ _ _=>False
end
abbrev TG:=V→St→Hp→(St→Hp→Prop)→Prop
abbrev TGs:=List V→St→Hp→(St→Hp→Prop)→Prop
def PG (X:Cx) (target:Expr) (t:TG):Prop:=
  ∀ (pins:List (Addr×Obj)) (s:Shared) (σ:St) (H:Hp) (v:V) (u:Value) (Q:St→Hp→Prop),Inv X pins σ H s→RelV v u→t v σ H Q→
    wpAny (model X.prog X.w) X.A (assign target X.env u) (fun _ s'=>∃σ' H',Inv X pins σ' H' s'∧Q σ' H') X.xe s
def PGs (X:Cx) (ts:List Expr) (t:TGs):Prop:=
  ∀ (pins:List (Addr×Obj)) (s:Shared) (σ:St) (H:Hp) (vs:List V) (us:List Value) (Q:St→Hp→Prop),Inv X pins σ H s→Vals vs us→t vs σ H Q→
    wpAny (model X.prog X.w) X.A (assignInOrder ((assignEach ts X.env).map (·.2)) us) (fun _ s'=>∃σ' H',Inv X pins σ' H' s'∧Q σ' H') X.xe s
abbrev TSet:=V→V→V→Hp→(Hp→Prop)→Prop
def PSet (X:Cx) (t:TSet):Prop:=
  ∀ (pins:List (Addr×Obj)) (s:Shared) (σ:St) (H:Hp) (o i v:V) (ov iv u:Value) (Q:Hp→Prop),Inv X pins σ H s→RelV o ov→RelV i iv→RelV v u→t o i v H Q→
    wpAny (model X.prog X.w) X.A (setItem ov iv u) (fun _ s'=>∃H',Inv X pins σ H' s'∧Q H') X.xe s
abbrev TIp:=V→V→Hp→VK→Prop
def PIp (X:Cx) (op:Operator) (t:TIp):Prop:=
  ∀ (pins:List (Addr×Obj)) (s:Shared) (σ:St) (H:Hp) (x y:V) (v u:Value) (Q:VK),Inv X pins σ H s→RelV x v→RelV y u→t x y H Q→
    wpAny (model X.prog X.w) X.A (inplaceOp op v u) (EP X pins σ Q) X.xe s
section
variable {X:Cx} {pos:Pos}
def gName (i:Nat):TG:=fun v σ H Q=>Q (σ.set i (some v)) H
theorem pg_name {i:Nat} {x:Str} (hN:X.N.Nodup) (hi:X.N[i]? = some x) (hx:Loc X.env.scope x) (hf:X.fn x = true∨X.env.scope.names.lookup x = some .local:=by first | exact .inl rfl | exact .inr rfl | assumption):PG X (.Name x pos) (gName i):=by
  intro pins s σ H v u Q I r h
  exact wpAny_assign_Name (store_ok I hN hi hx r (fun s' I'=>⟨_,H,I',h⟩) hf)
def gNil:TGs:=fun vs σ H Q=>vs = []∧Q σ H
def gCons (t:TG) (u:TGs):TGs:=fun vs σ H Q=>∃v r,vs = v :: r∧t v σ H fun σ' H'=>u r σ' H' Q
theorem pgs_nil:PGs X [] gNil:=by
  intro pins s σ H vs us Q I r h
  obtain⟨e,h⟩:=h
  subst e
  cases r
  exact assignInOrder_nil ⟨σ,H,I,h⟩
theorem pgs_cons {e:Expr} {es:List Expr} {t:TG} {u:TGs} (h1:PG X e t) (h2:PGs X es u)
    (hs:(assignEach (e :: es) X.env).map (·.2) = assign e X.env :: (assignEach es X.env).map (·.2):=by rfl):PGs X (e :: es) (gCons t u):=by
  intro pins s σ H vs us Q I r h
  obtain⟨v,vr,e1,h⟩:=h
  subst e1
  cases r with
  | cons r rr=>
    rw [hs]
    refine assignInOrder_cons (thn (h1 pins s σ H _ _ _ I r h) fun _ s1 ⟨σ1,H1,I1,q1⟩=>?_)
    exact h2 pins s1 σ1 H1 _ _ Q I1 rr q1
def gTup (K:PySem.W.Frag) (n:Nat) (t:TGs):TG:=fun v σ H Q=>∃a xs,v = .ref a∧SqT K H a xs∧xs.length = n∧t xs σ H Q
theorem pg_tup {es:List Expr} {k:Nat} {t:TGs} {n:Nat} (hc:X.calm = true) (h:PGs X es t)
    (hn:(assignEach es X.env).length = n:=by rfl) (hst:(assignEach es X.env).findIdx? (·.1) = none:=by rfl):PG X (.Tuple es k pos) (gTup X.K n t):=by
  intro pins s σ H v u Q I r hw
  obtain⟨a,xs,e1,hq,hl,hw⟩:=hw
  subst e1
  cases r
  obtain⟨its,rv,ht,hz⟩:=I.tuple hq
  refine assign_Tuple_tuple (I.ok.hd hc) ht (by simp [hn,←hl,rv.length]) hst fun h' hx=>?_
  have I1:Inv X pins σ H { s with heap:=h' }:=I.kept (t':=s.toks) fun b o e=>hx b o (Nat.ne_of_lt (Heap.lt_size e)) e
  exact h pins _ σ H xs _ Q I1 (by simpa using rv) hw
def gSub (to ti:TE) (t:TSet):TG:=fun v σ H Q=>to σ H fun o H1=>ti σ H1 fun i H2=>t o i v H2 fun H3=>Q σ H3
def tAsg (te:TE) (g:TG):TS:=fun D σ H=>te σ H fun x H1=>g x σ H1 D.nx
theorem ps_set {i:Nat} {x:Str} {e:Expr} {te:TE} {pos':Pos} (hN:X.N.Nodup) (hi:X.N[i]? = some x) (hx:Loc X.env.scope x) (he:PE X e te) (hs:swapsWith e (some (.Name x pos')) pos.line X.env = pure false:=by rfl) (hf:X.fn x = true∨X.env.scope.names.lookup x = some .local:=by first | exact .inl rfl | exact .inr rfl | assumption) :
    PS X (.Assign [.Name x pos'] e pos) (tAsg te (gName i)):=by
  intro pins s σ H D I h
  refine wpAny_Assign_Name (thn (he pins s σ H _ I h) fun v s1 ⟨y,H1,I1,r1,q1⟩=>?_) hs
  exact store_ok I1 hN hi hx r1 (fun s2 I2=>⟨_,H1,I2,q1⟩) hf
def tPar (i j:Nat) (ta:TA):TS:=fun D σ H=>ta σ H fun vs H1=>∃v w,vs = [v,w]∧D.nx ((σ.set i (some v)).set j (some w)) H1
def tAug (i:Nat) (te:TE) (ti:TIp):TS:=fun D σ H=>∃x,σ[i]? = some (some x)∧te σ H fun y H1=>ti x y H1 fun z H2=>D.nx (σ.set i (some z)) H2
def tAugS (to ti te:TE) (tget:V→V→Hp→VK→Prop) (tip:TIp) (tset:TSet):TS:=fun D σ H=>to σ H fun o H1=>ti σ H1 fun i H2=>tget o i H2 fun x H3=>te σ H3 fun y H4=>tip x y H4 fun z H5=>tset o i z H5 fun H6=>D.nx σ H6
def PGet (X:Cx) (t:V→V→Hp→VK→Prop):Prop:=
  ∀ (pins:List (Addr×Obj)) (s:Shared) (σ:St) (H:Hp) (o i:V) (ov iv:Value) (Q:VK),Inv X pins σ H s→RelV o ov→RelV i iv→t o i H Q→
    wpAny (model X.prog X.w) X.A (getItem ov iv) (EP X pins σ Q) X.xe s
def ipI (f:Int→Int→Int):TIp:=fun x y H Q=>∃i j,x = .int i∧y = .int j∧Q (.int (f i j)) H
end
section
variable {X:Cx} {pos:Pos}
def tWhile (c:TT) (tb:TS):TS:=fun D σ H=>∃W:Nat→St→Hp→Prop,(∃m,W m σ H)∧∀m σ H,W m σ H→
  c σ H fun b H1=>if b = true then ∃N:St→Hp→Prop,(∀σ' H',N σ' H'→∃m',m' < m∧W m' σ' H')∧tb { D with nx:=N,ct:=N,bk:=D.nx } σ H1 else D.nx σ H1
end
structure It where
  go:Nat→Hp→Prop
  yld:Nat→Hp→V→Hp→Prop
  stop:Nat→Hp→Prop
def FpOk (X:Cx) (pins:List (Addr×Obj)) (H:Hp) (b:Addr):Prop:=
  H b = none∧b≠X.env.locals∧b∉X.fs∧(b∈X.ex∨X.s₀.heap.objs.size≤b)∧(∀x c,X.env.cells.lookup x = some c→c≠b)∧∀p∈X.pn ++ pins,p.1≠b
theorem Inv.fpOk {X:Cx} {pins:List (Addr×Obj)} {σ:St} {H H':Hp} {s:Shared} {b:Addr} (I:Inv X pins σ H s) (hb:s.heap.objs.size≤b) (hn:H' b = none):FpOk X pins H' b:=by
  refine⟨hn,Nat.ne_of_gt (Nat.lt_of_lt_of_le I.lt hb),I.nofs hb,.inr (Nat.le_trans I.sz hb),fun x c e z=>?_,fun p hp z=>?_⟩
  · obtain⟨v,q⟩:=I.cell x c e
    exact absurd (Nat.lt_of_lt_of_le q.lt (by rw [z];exact hb)) (Nat.lt_irrefl _)
  · exact absurd (Nat.lt_of_lt_of_le (Heap.lt_size (I.pin p hp).1) (by rw [z];exact hb)) (Nat.lt_irrefl _)
structure Turn (P:Program) (w:World) (K:PySem.W.Frag) (tg:Expr) (J:It) (fp:List Addr) (it:Addr) (tn:Nat→Heap→Prop):Prop where
  mem:it∈fp
  obj:∀i h,tn i h→∀b∈fp,∃o,h.get? b = some o∧∀v,o.data≠ .cell v
  keep:∀i h h',tn i h→(∀b∈fp,∀o,h.get? b = some o→h'.get? b = some o)→tn i h'
  item :∀(X:Cx),X.prog = P→X.w = w→X.K = K→X.calm = true→∀(i:Nat) (pins:List (Addr×Obj)) (s:Shared) (σ:St) (H:Hp) (E:Value→Shared→Prop),Inv X pins σ H s→(∀b∈fp,FpOk X pins H b)→tn i s.heap→J.go i H→
    wpAny (model P w) X.A (pyNext (.ref it)) (fun r s1=>∃u,r = some u∧
      wpAny (model P w) X.A (letOwnedTupleGo tg (.ref it) u) (fun _ s2=>∃x H',Inv X pins σ H' s2∧RelV x u∧J.yld i H x H'∧tn (i + 1) s2.heap∧∀b∈fp,H' b = none) E s1) E s
  done:∀(X:Cx),X.prog = P→X.w = w→X.K = K→X.calm = true→∀(i:Nat) (pins:List (Addr×Obj)) (s:Shared) (σ:St) (H:Hp) (E:Value→Shared→Prop),Inv X pins σ H s→(∀b∈fp,FpOk X pins H b)→tn i s.heap→J.stop i H→
    wpAny (model P w) X.A (pyNext (.ref it)) (fun r s1=>r = none∧Inv X pins σ H s1) E s
  self:∀(A:Around) (i:Nat) (s:Shared) (Q:Value→Shared→Prop) (E:Value→Shared→Prop),tn i s.heap→Q (.ref it) s→wpAny (model P w) A (pyIter (.ref it)) Q E s
abbrev TI:=St→Hp→(It→Hp→Prop)→Prop
def PIE (X:Cx) (pins:List (Addr×Obj)) (σ:St) (tg:Expr) (R:It→Hp→Prop) (itv:Value) (s2:Shared):Prop:=
  ∃(it:Addr) (fp:List Addr) (tn:Nat→Heap→Prop) (J:It) (H':Hp),itv = .ref it∧Inv X pins σ H' s2∧Turn X.prog X.w X.K tg J fp it tn∧tn 0 s2.heap∧(∀b∈fp,FpOk X pins H' b)∧R J H'
def PI (X:Cx) (tg iter:Expr) (wi:TI):Prop:=
  ∀ (pins:List (Addr×Obj)) (s:Shared) (σ:St) (H:Hp) (R:It→Hp→Prop),Inv X pins σ H s→wi σ H R→
    wpAny (model X.prog X.w) X.A (eval iter X.env) (fun v s1=>wpAny (model X.prog X.w) X.A (pyIter v) (PIE X pins σ tg R) X.xe s1) X.xe s
theorem go_of {M:Model} {A:Around} {E:Value→Shared→Prop} {s:Shared} {tg:Expr} {it:Addr} {u:Value} {o:Obj} {n:String} {vs:Array Value} {Q:Unit→Shared→Prop} (ho:s.heap.get? it = some o) (hc:o.cls = .type n) (hd:o.data = .fields vs)
    (hn:["enumerate","zip","dict_itemiterator","dict_reverseitemiterator","odict_iterator","itertools.zip_longest","itertools.pairwise"].contains n = false) (hQ:Q () s):wpAny M A (letOwnedTupleGo tg (.ref it) u) Q E s:=by
  unfold letOwnedTupleGo
  cases tg <;> first
    | exact wpAny_pure hQ
    | (cases u <;> first
        | exact wpAny_pure hQ
        | (refine wpAny_bind (wpAny_load ho ?_)
           rw [hc,hd]
           show wpAny M A (if (["enumerate","zip","dict_itemiterator","dict_reverseitemiterator","odict_iterator","itertools.zip_longest","itertools.pairwise"].contains n && vs[0]? == some (rawInt _)) = true then _ else _) Q E s
           rw [if_neg (by intro h;rw [hn,Bool.false_and] at h;cases h)]
           exact wpAny_pure hQ))
def Itl (K:PySem.W.Frag) (a:Addr):It:=
  ⟨fun i H=>∃xs x,SqL K H a xs∧xs[i]? = some x,fun i H x H'=>H' = H∧∀xs,SqL K H a xs→xs[i]? = some x,fun i H=>∃xs,SqL K H a xs∧xs.length≤i⟩
def Itt (K:PySem.W.Frag) (a:Addr):It:=
  ⟨fun i H=>∃xs x,SqT K H a xs∧xs[i]? = some x,fun i H x H'=>H' = H∧∀xs,SqT K H a xs→xs[i]? = some x,fun i H=>∃xs,SqT K H a xs∧xs.length≤i⟩
def Itr (lo:Int) (n:Nat):It:=⟨fun i _=>i < n,fun i H x H'=>H' = H∧x = .int (lo + i),fun i _=>n≤i⟩
theorem turn_list {P:Program} {w:World} {K:PySem.W.Frag} {tg:Expr} (a it:Addr):Turn P w K tg (Itl K a) [it] it (fun i h=>h.IsListIter it a i) where
  mem:=by simp
  obj:=fun i h st b hb=>by
    have e:b = it:=by simpa using hb
    subst e
    obtain⟨o,e,c,d⟩:=st
    exact⟨o,e,fun v z=>by rw [d] at z;cases z⟩
  keep:=fun i h h' st k=>st.at fun o e=>k it (by simp) o e
  item:=by
    intro X hP hw hK hc i pins s σ H E I hf st hg
    subst hP hw hK
    obtain⟨xs,x,hq,hx⟩:=hg
    obtain⟨its,rv,p,hz⟩:=I.list hq
    obtain⟨u,hu,ru⟩:=rv.get hx
    obtain⟨f0,f1,f2,f3,f4,f5⟩:=hf it (by simp)
    refine wpAny_pyNext_list_item st p.isList (x:=u) (by simpa using hu) fun h' st' sb=>?_
    have I1:Inv X pins σ H { s with heap:=h' }:=I.turned (t':=s.toks) (fun b o hb e=>(sb.2 b hb).trans e) f0 f1 f3 f4 f5
    obtain⟨o,e,c,d⟩:=id st'
    exact⟨u,rfl,go_of (s:={ s with heap:=h' }) e c d (by decide) ⟨x,H,I1,ru,⟨rfl,fun ys hy=>by rw [I.list_inj hy hq];exact hx⟩,st',fun b hb=>(hf b hb).1⟩⟩
  done:=by
    intro X hP hw hK hc i pins s σ H E I hf st hg
    subst hP hw hK
    obtain⟨xs,hq,hx⟩:=hg
    obtain⟨its,rv,p,hz⟩:=I.list hq
    obtain⟨f0,f1,f2,f3,f4,f5⟩:=hf it (by simp)
    have hl:=rv.length
    exact wpAny_pyNext_list_end (I.ok.hd hc) st p.isList (by simp;omega) fun h' eb=>⟨rfl,I.turned (t':=s.toks) (fun b o hb e=>eb b o hb e) f0 f1 f3 f4 f5⟩
  self:=fun _ _ _ _ _ st h=>wpAny_pyIter_listiter st h
theorem turn_range {P:Program} {w:World} {K:PySem.W.Frag} {tg:Expr} (it:Addr) (lo:Int) (n:Nat):Turn P w K tg (Itr lo n) [it] it (fun i h=>IsRangeIter h it (lo + (i:Nat) * 1) ((n:Int) - (i:Nat)) 1) where
  mem:=by simp
  obj :=fun i h st b hb=>by
    have e:b = it:=by simpa using hb
    subst e
    exact⟨_,st,fun v z=>by
      have z':Data.fields _ = Data.cell v:=z
      cases z'⟩
  keep:=fun i h h' st k=>k it (by simp) _ st
  item:=by
    intro X hP hw hK hc i pins s σ H E I hf st hg
    subst hP hw hK
    obtain⟨f0,f1,f2,f3,f4,f5⟩:=hf it (by simp)
    have W:=Walks.range (prog:=X.prog) (w:=X.w) (I.ok.hd hc) it lo 1 n
    refine W.item i s _ _ hg st fun v h' tk hv st' kk=>?_
    obtain⟨t,rfl⟩:=hv
    have I1:Inv X pins σ H { s with heap:=h',toks:=tk }:=I.turned (fun b o hb e=>kk b o (by simpa using hb) e) f0 f1 f3 f4 f5
    refine⟨_,rfl,go_of (s:={ s with heap:=h',toks:=tk }) (n:="range_iterator") st' rfl rfl (by decide) ⟨.int (lo + i),H,I1,⟨t,?_⟩,⟨rfl,rfl⟩,st',fun b hb=>(hf b hb).1⟩⟩
    rw [Int.mul_one]
  done:=by
    intro X hP hw hK hc i pins s σ H E I hf st hg
    subst hP hw hK
    obtain⟨f0,f1,f2,f3,f4,f5⟩:=hf it (by simp)
    exact wpAny_pyNext_range_end (I.ok.hd hc) st (by have:n≤i:=hg;omega) fun h' eb=>⟨rfl,I.turned (t':=s.toks) (fun b o hb e=>eb b o hb e) f0 f1 f3 f4 f5⟩
  self:=fun _ _ _ _ _ st h=>wpAny_pyIter_rangeiter st h
end L2
namespace L2
open PySem PySem.Spec PyProof.Rows
section
variable {X:Cx} {tg:Expr}
def iList (K:PySem.W.Frag) (tl:TE):TI:=fun σ H R=>tl σ H fun x H1=>∃a,x = .ref a∧(∃xs,SqL K H1 a xs)∧R (Itl K a) H1
def iTup (K:PySem.W.Frag) (tl:TE):TI:=fun σ H R=>tl σ H fun x H1=>∃a,x = .ref a∧(∃xs,SqT K H1 a xs)∧R (Itt K a) H1
theorem pi_list {l:Expr} {tl:TE} (hl:PE X l tl):PI X tg l (iList X.K tl):=by
  intro pins s σ H R I h
  refine thn (hl pins s σ H _ I h) fun v s1 ⟨x,H1,I1,r1,q1⟩=>?_
  obtain⟨a,e,⟨xs,hq⟩,q⟩:=q1
  subst e
  cases r1
  obtain⟨its,rv,p,hz⟩:=I1.list hq
  refine wpAny_pyIter_list p.isList ?_
  refine⟨s1.heap.objs.size, [s1.heap.objs.size],_,_,H1,rfl,I1.kept (t':=s1.toks) fun b o e=>Heap.get?_push_of_some _ e,turn_list a _,⟨_,Heap.get?_push_size _ rfl,rfl,rfl⟩,fun b hb=>?_,q⟩
  have e:b = s1.heap.objs.size:=by simpa using hb
  subst e
  exact I1.fpOk (Nat.le_refl _) (I1.hok.fresh (Nat.le_refl _))
theorem range_it {pins:List (Addr×Obj)} {σ:St} {H:Hp} {s:Shared} {R:It→Hp→Prop} {E:Value→Shared→Prop} {lo hi:Int} {t u v:Tok} {tk:Nat} (I:Inv X pins σ H s) (h1: -(2 ^ 62)≤lo) (h2:lo < 2 ^ 62) (h3: -(2 ^ 62)≤hi) (h4:hi < 2 ^ 62)
    (q:R (Itr lo (hi - lo).toNat) H):wpAny (model X.prog X.w) X.A (pyIter (.ref s.heap.objs.size)) (PIE X pins σ tg R) E { s with heap:=s.heap.push { cls:= .type "range",data:= .fields #[.int lo t,.int hi u,.int 1 v] },toks:=tk }:=by
  refine wpAny_pyIter_range (IsRange.new ..) (small_one h1 h2 h3 h4) ?_
  have I1:Inv X pins σ H { s with heap:=s.heap.push { cls:= .type "range",data:= .fields #[.int lo t,.int hi u,.int 1 v] },toks:=tk }:=I.kept fun b o e=>Heap.get?_push_of_some _ e
  refine⟨(s.heap.push { cls:= .type "range",data:= .fields #[.int lo t,.int hi u,.int 1 v] }).objs.size, [(s.heap.push { cls:= .type "range",data:= .fields #[.int lo t,.int hi u,.int 1 v] }).objs.size],_,_,H,rfl,
    I1.kept (t':=tk) fun b o e=>Heap.get?_push_of_some _ e,turn_range _ lo (hi - lo).toNat,?_,fun b hb=>?_,q⟩
  · have e1:lo + ((0:Nat):Int) * 1 = lo:=by simp
    have e2:(((hi - lo).toNat:Nat):Int) - ((0:Nat):Int) = Builtin.Range.rangeSize lo hi 1:=by rw [rangeSize_one];split <;> omega
    show IsRangeIter _ _ (lo + ((0:Nat):Int) * 1) ((((hi - lo).toNat:Nat):Int) - ((0:Nat):Int)) 1
    rw [e1,e2]
    exact Heap.get?_push_size _ rfl
  · have e:b = (s.heap.push { cls:= .type "range",data:= .fields #[.int lo t,.int hi u,.int 1 v] }).objs.size:=by simpa using hb
    subst e
    exact I1.fpOk (Nat.le_refl _) (I1.hok.fresh (Nat.le_refl _))
def iRng1 (ta:TA):TI:=fun σ H R=>ta σ H fun vs H1=>∃j:Int,vs = [.int j]∧ -(2 ^ 62)≤j∧j < 2 ^ 62∧R (Itr 0 j.toNat) H1
def iRng2 (ta:TA):TI:=fun σ H R=>ta σ H fun vs H1=>∃i j:Int,vs = [.int i,.int j]∧(-(2 ^ 62)≤i∧i < 2 ^ 62∧ -(2 ^ 62)≤j∧j < 2 ^ 62)∧R (Itr i (j - i).toNat) H1
theorem pi_range1 {a:Expr} {ta:TA} {p pos:Pos} (hg:Gl X "range") (hm:X.mg "range" = none) (ha:PA X [a] ta) (hs:starEach [a] X.env = [(false,eval a X.env)]:=by rfl):PI X tg (.Call (.Name "range" p) [a] [] pos) (iRng1 ta):=by
  intro pins s σ H R I h
  refine Call_ (ld_blt I hg hm boot_range (PyProof.Rows.callWith_type1 (thn (ha pos pins s σ H _ I h) fun us s1 ⟨vs,H1,I1,r1,q1⟩=>?_) hs rfl))
  obtain⟨j,e,q1,q2,q⟩:=q1
  subst e
  cases r1 with
  | cons r rr=>
    cases rr
    obtain⟨t,rfl⟩:=r
    exact call_range_1 (range_it I1 (by omega) (by omega) q1 q2 (by simpa using q))
def tFor (wi:TI) (g:TG) (tb:TS):TS:=fun D σ H=>wi σ H fun J H1=>∃W:Nat→Nat→St→Hp→Prop,(∃m,W 0 m σ H1)∧∀i m σ H,W i m σ H→
  (J.stop i H∧D.nx σ H)∨(J.go i H∧∃N:St→Hp→Prop,(∀σ' H',N σ' H'→∃m',m' < m∧W (i + 1) m' σ' H')∧∀x H',J.yld i H x H'→g x σ H' fun σ2 H2=>tb { D with nx:=N,ct:=N,bk:=D.nx } σ2 H2)
def pinsAt (fp:List Addr) (h:Heap):List (Addr×Obj):=fp.filterMap fun b=>(h.get? b).map fun o=>(b,o)
theorem mem_pinsAt {fp:List Addr} {h:Heap} {b:Addr} {o:Obj} (hb:b∈fp) (e:h.get? b = some o):(b,o)∈pinsAt fp h:=List.mem_filterMap.mpr ⟨b,hb,by rw [e];rfl⟩
theorem of_pinsAt {fp:List Addr} {h:Heap} {p:Addr×Obj} (hp:p∈pinsAt fp h):p.1∈fp∧h.get? p.1 = some p.2:=by
  obtain⟨b,hb,e⟩:=List.mem_filterMap.mp hp
  cases q:h.get? b with
  | none=>rw [q] at e;cases e
  | some o=>
    rw [q] at e
    have e':(b,o) = p:=Option.some.inj e
    subst e'
    exact⟨hb,q⟩
theorem Inv.pinned {pins:List (Addr×Obj)} {σ:St} {H:Hp} {s:Shared} {fp:List Addr} (I:Inv X pins σ H s) (hf:∀b∈fp,FpOk X pins H b) (ho:∀b∈fp,∃o,s.heap.get? b = some o∧∀v,o.data≠ .cell v):Inv X (pins ++ pinsAt fp s.heap) σ H s:=
  I.pins_of fun p hp=>(List.mem_append.mp hp).elim (fun z=>I.pin p (List.mem_append_right _ z)) fun z=>by
    obtain⟨hb,e⟩:=of_pinsAt z
    obtain⟨f0,f1,f2,_⟩:=hf p.1 hb
    obtain⟨o,e',d⟩:=ho p.1 hb
    rw [e] at e';cases e'
    exact⟨e,f0,f1,f2,d⟩
theorem Inv.unpinned {pins pl:List (Addr×Obj)} {σ:St} {H:Hp} {s:Shared} (I:Inv X (pins ++ pl) σ H s):Inv X pins σ H s:=I.pins_of fun p hp=>I.pin p (List.mem_append_right _ (List.mem_append_left _ hp))
theorem ps_for {iter:Expr} {body:List Stmt} {wi:TI} {g:TG} {tb:TS} {pos:Pos} (hp:PassesOwn (model X.prog X.w) X.A X.env X.xe) (hc:X.calm = true) (hi:PI X tg iter wi) (hg:PG X tg g) (hb:PSs X body tb)
    (hs:∀x,foldedSetIterable iter X.env x = pure x:=by intro _;rfl):PS X (.For tg iter body [] pos) (tFor wi g tb):=by
  intro pins s σ H D I h
  refine wpAny_For (thn (hi pins s σ H _ I h) fun v s1 h1=>thn h1 fun itv s2 h2=>?_) hs
  obtain⟨it,fp,tn,J,H2,e,I2,T,st2,f2,W,⟨m0,w0⟩,turn⟩:=h2
  subst e
  have stat:∀{H':Hp},(∀b∈fp,H' b = none)→∀b∈fp,FpOk X pins H' b:=fun hn b hb=>⟨hn b hb,(f2 b hb).2⟩
  refine codeAny_forLoop_any (fun n s'=>∃i σ' H',Inv X pins σ' H' s'∧tn i s'.heap∧(∀b∈fp,H' b = none)∧W i n σ' H') ?_ m0 ⟨0,σ,H2,I2,st2,fun b hb=>(f2 b hb).1,w0⟩
  rintro n s3 ⟨i,σ3,H3,I3,st3,fr3,w3⟩
  rcases turn i n σ3 H3 w3 with ⟨stop,qn⟩ | ⟨go,N,hN,step⟩
  · refine wpAny_passesOwn hp (thn (T.done X rfl rfl rfl hc i pins s3 σ3 H3 X.xe I3 (stat fr3) st3 stop) fun r s4 ⟨hr,I4⟩=>?_)
    subst hr
    exact wpAny_execs_nil ⟨σ3,H3,I4,qn⟩
  · refine wpAny_passesOwn hp (thn (T.item X rfl rfl rfl hc i pins s3 σ3 H3 X.xe I3 (stat fr3) st3 go) fun r s4 ⟨u,hr,h4⟩=>?_)
    subst hr
    refine wpAny_passesOwn hp (thn h4 fun _ s5 ⟨x,H5,I5,r5,y5,st5,fr5⟩=>?_)
    have I5':=I5.pinned (stat fr5) (T.obj _ _ st5)
    refine wpAny_passesOwn hp (thn (hg _ s5 σ3 H5 x u _ I5' r5 (step x H5 y5)) fun _ s6 ⟨σ6,H6,I6,q6⟩=>?_)
    refine wpAny_passesOwn hp (thn (hb _ s6 σ6 H6 _ I6 q6) fun f s7 q7=>?_)
    have again:∀{σ7:St} {H7:Hp},Inv X (pins ++ pinsAt fp s5.heap) σ7 H7 s7→N σ7 H7→∃m,m < n∧∃i σ' H',Inv X pins σ' H' s7∧tn i s7.heap∧(∀b∈fp,H' b = none)∧W i m σ' H':=fun {σ7 H7} I7 n7=>by
      obtain⟨m',hm,w7⟩:=hN σ7 H7 n7
      refine⟨m',hm,i + 1,σ7,H7,I7.unpinned,T.keep _ _ _ st5 fun b hb o e=>(I7.pin (b,o) (List.mem_append_right _ (List.mem_append_right _ (mem_pinsAt hb e)))).1,fun b hb=>?_,w7⟩
      obtain⟨o,e,d⟩:=T.obj _ _ st5 b hb
      exact(I7.pin (b,o) (List.mem_append_right _ (List.mem_append_right _ (mem_pinsAt hb e)))).2.1
    cases f with
    | next=>obtain⟨σ7,H7,I7,n7⟩:=q7;exact again I7 n7
    | cont=>obtain⟨σ7,H7,I7,n7⟩:=q7;exact again I7 n7
    | brk=>obtain⟨σ7,H7,I7,q7⟩:=q7;exact⟨σ7,H7,I7.unpinned,q7⟩
    | ret v=>obtain⟨x7,σ7,H7,I7,r7,q7⟩:=q7;exact⟨x7,σ7,H7,I7.unpinned,r7,q7⟩
end
theorem for_list {K:PySem.W.Frag} {a:Addr} {xs:List V} {g:TG} {tb:TS} {D:Ends} {σ:St} {H:Hp} (Pv:Nat→St→Hp→Prop) (h0:Pv 0 σ H) (hl:∀i σ H,i≤xs.length→Pv i σ H→SqL K H a xs)
    (hs:∀i x σ H,xs[i]? = some x→Pv i σ H→g x σ H fun σ2 H2=>tb { D with nx:=Pv (i + 1),ct:=Pv (i + 1),bk:=D.nx } σ2 H2) (hd:∀σ H,Pv xs.length σ H→D.nx σ H) :
    ∃ W:Nat→Nat→St→Hp→Prop,(∃m,W 0 m σ H)∧∀i m σ H,W i m σ H→
      ((Itl K a).stop i H∧D.nx σ H)∨((Itl K a).go i H∧∃N:St→Hp→Prop,(∀σ' H',N σ' H'→∃m',m' < m∧W (i + 1) m' σ' H')∧∀x H',(Itl K a).yld i H x H'→g x σ H' fun σ2 H2=>tb { D with nx:=N,ct:=N,bk:=D.nx } σ2 H2):=by
  refine⟨fun i m σ H=>m = xs.length - i∧i≤xs.length∧Pv i σ H,⟨xs.length,by simp,Nat.zero_le _,h0⟩,?_⟩
  rintro i m σ H ⟨rfl,hi,p⟩
  have q:=hl i σ H hi p
  by_cases hlt:i < xs.length
  · refine .inr ⟨⟨xs,xs[i],q,by simp [hlt]⟩,Pv (i + 1),fun σ' H' p'=>⟨xs.length - (i + 1),by omega,rfl,hlt,p'⟩,fun x H' y=>?_⟩
    obtain⟨e,y⟩:=y
    subst e
    exact hs i x σ _ (y xs q) p
  · have e:i = xs.length:=by omega
    subst e
    exact .inl ⟨⟨xs,q,Nat.le_refl _⟩,hd σ H p⟩
theorem for_range {lo:Int} {n:Nat} {g:TG} {tb:TS} {D:Ends} {σ:St} {H:Hp} (Pv:Nat→St→Hp→Prop) (h0:Pv 0 σ H)
    (hs:∀i σ H,i < n→Pv i σ H→g (.int (lo + i)) σ H fun σ2 H2=>tb { D with nx:=Pv (i + 1),ct:=Pv (i + 1),bk:=D.nx } σ2 H2) (hd:∀σ H,Pv n σ H→D.nx σ H) :
    ∃ W:Nat→Nat→St→Hp→Prop,(∃m,W 0 m σ H)∧∀i m σ H,W i m σ H→
      ((Itr lo n).stop i H∧D.nx σ H)∨((Itr lo n).go i H∧∃N:St→Hp→Prop,(∀σ' H',N σ' H'→∃m',m' < m∧W (i + 1) m' σ' H')∧∀x H',(Itr lo n).yld i H x H'→g x σ H' fun σ2 H2=>tb { D with nx:=N,ct:=N,bk:=D.nx } σ2 H2):=by
  refine⟨fun i m σ H=>m = n - i∧i≤n∧Pv i σ H,⟨n,by simp,Nat.zero_le _,h0⟩,?_⟩
  rintro i m σ H ⟨rfl,hi,p⟩
  by_cases hlt:i < n
  · refine .inr ⟨hlt,Pv (i + 1),fun σ' H' p'=>⟨n - (i + 1),by omega,rfl,hlt,p'⟩,fun x H' y=>?_⟩
    obtain⟨e,y⟩:=y
    subst e y
    exact hs i σ _ hlt p
  · have e:i = n:=by omega
    subst e
    exact .inl ⟨Nat.le_refl _,hd σ H p⟩
end L2
namespace L2
open PySem PySem.Spec PyProof.Rows
abbrev R2:=V→V→Hp→VK→Prop
def OpR (X:Cx) (f:Value→Value→Sem Value) (r:R2):Prop:=
  ∀ (pins:List (Addr×Obj)) (s:Shared) (σ:St) (H:Hp) (x y:V) (v u:Value) (Q:VK),Inv X pins σ H s→RelV x v→RelV y u→r x y H Q→
    wpAny (model X.prog X.w) X.A (f v u) (EP X pins σ Q) X.xe s
def UnR (X:Cx) (f:Value→Sem Value) (r:V→Hp→VK→Prop):Prop:=
  ∀ (pins:List (Addr×Obj)) (s:Shared) (σ:St) (H:Hp) (x:V) (v:Value) (Q:VK),Inv X pins σ H s→RelV x v→r x H Q→
    wpAny (model X.prog X.w) X.A (f v) (EP X pins σ Q) X.xe s
def CallR (X:Cx) (f:Value) (r:List V→Hp→VK→Prop):Prop:=
  ∀ (pins:List (Addr×Obj)) (s:Shared) (σ:St) (H:Hp) (xs:List V) (us:List Value) (Q:VK),Inv X pins σ H s→Vals xs us→r xs H Q→
    wpAny (model X.prog X.w) X.A (call f us) (EP X pins σ Q) X.xe s
def TruR (X:Cx) (r:V→Hp→(Bool→Hp→Prop)→Prop):Prop:=
  ∀ (pins:List (Addr×Obj)) (s:Shared) (σ:St) (H:Hp) (x:V) (v:Value) (Q:Bool→Hp→Prop),Inv X pins σ H s→RelV x v→r x H Q→
    wpAny (model X.prog X.w) X.A (truthy v) (TP X pins σ Q) X.xe s
def tOp (r:R2) (ta tb:TE):TE:=fun σ H Q=>ta σ H fun x H1=>tb σ H1 fun y H2=>r x y H2 Q
def tUn (r:V→Hp→VK→Prop) (ta:TE):TE:=fun σ H Q=>ta σ H fun x H1=>r x H1 Q
def rI (C:Int→Int→Prop) (g:Int→Int→V):R2:=fun x y H Q=>∃i j,x = .int i∧y = .int j∧C i j∧Q (g i j) H
def rI0 (g:Int→Int→V):R2:=fun x y H Q=>∃i j,x = .int i∧y = .int j∧Q (g i j) H
def rU (g:Int→V):V→Hp→VK→Prop:=fun x H Q=>∃i,x = .int i∧Q (g i) H
section
variable {X:Cx} {a b c:Expr} {ta tb tc:TE} {pos:Pos}
theorem binT (ha:PE X a ta) (hb:PE X b tb) {pins:List (Addr×Obj)} {s:Shared} {σ:St} {H:Hp} {R:V→V→Hp→Prop} (I:Inv X pins σ H s)
    (h:ta σ H fun x H1=>tb σ H1 fun y H2=>R x y H2) {Q:Value→Shared→Prop} {f:Value→Value→Sem Value}
    (hf:∀v u s2 x y H2,Inv X pins σ H2 s2→RelV x v→RelV y u→R x y H2→wpAny (model X.prog X.w) X.A (f v u) Q X.xe s2) :
    wpAny (model X.prog X.w) X.A (eval a X.env) (fun v s₁=>wpAny (model X.prog X.w) X.A (eval b X.env) (fun u s₂=>wpAny (model X.prog X.w) X.A (f v u) Q X.xe s₂) X.xe s₁) X.xe s:=by
  refine thn (ha pins s σ H _ I h) fun v s1 ⟨x,H1,I1,r1,q1⟩=>?_
  refine thn (hb pins s1 σ H1 _ I1 q1) fun u s2 ⟨y,H2,I2,r2,q2⟩=>?_
  exact hf v u s2 x y H2 I2 r1 r2 q2
theorem pe_op {op:Operator} {r:R2} (ho:OpR X (binaryOp op) r) (ha:PE X a ta) (hb:PE X b tb):PE X (.BinOp a op b pos) (tOp r ta tb):=by
  intro pins s σ H Q I h
  exact wpAny_BinOp (binT ha hb I h fun v u s2 x y H2 I2 rx ry q=>ho pins s2 σ H2 x y v u Q I2 rx ry q)
theorem opI {f:Value→Value→Sem Value} {C:Int→Int→Prop} {g:Int→Int→Int}
    (rule:∀(i j:Int) (t u:Tok) (s:Shared) (Q:Value→Shared→Prop) (E:Value→Shared→Prop),C i j→Q (.int (g i j) s.toks) { s with toks:=s.toks + 1 }→wpAny (model X.prog X.w) X.A (f (.int i t) (.int j u)) Q E s) :
    OpR X f (rI C fun i j=> .int (g i j)):=by
  intro pins s σ H x y v u Q I rx ry h
  obtain⟨i,j,rfl,rfl,hc,q⟩:=h
  obtain⟨t,rfl⟩:=rx
  obtain⟨t',rfl⟩:=ry
  exact rule i j t t' s _ _ hc ⟨.int (g i j),H,I.tok _,⟨_,rfl⟩,q⟩
theorem opI0 {f:Value→Value→Sem Value} {g:Int→Int→Int}
    (rule:∀(i j:Int) (t u:Tok) (s:Shared) (Q:Value→Shared→Prop) (E:Value→Shared→Prop),Q (.int (g i j) s.toks) { s with toks:=s.toks + 1 }→wpAny (model X.prog X.w) X.A (f (.int i t) (.int j u)) Q E s) :
    OpR X f (rI0 fun i j=> .int (g i j)):=by
  intro pins s σ H x y v u Q I rx ry h
  obtain⟨i,j,rfl,rfl,q⟩:=h
  obtain⟨t,rfl⟩:=rx
  obtain⟨t',rfl⟩:=ry
  exact rule i j t t' s _ _ ⟨.int (g i j),H,I.tok _,⟨_,rfl⟩,q⟩
theorem opB0 {f:Value→Value→Sem Value} {g:Int→Int→Bool}
    (rule:∀(i j:Int) (t u:Tok) (s:Shared) (Q:Value→Shared→Prop) (E:Value→Shared→Prop),Q (.bool (g i j)) s→wpAny (model X.prog X.w) X.A (f (.int i t) (.int j u)) Q E s) :
    OpR X f (rI0 fun i j=> .bl (g i j)):=by
  intro pins s σ H x y v u Q I rx ry h
  obtain⟨i,j,rfl,rfl,q⟩:=h
  obtain⟨t,rfl⟩:=rx
  obtain⟨t',rfl⟩:=ry
  exact rule i j t t' s _ _ ⟨.bl (g i j),H,I,rfl,q⟩
def CDiv (i j:Int):Prop:=0 < j∧j < 1073741824
def CDivN (i j:Int):Prop:=j≠0∧j.natAbs < 1073741824
def CPow (i j:Int):Prop:=0≤j∧j≤1000000∧i.natAbs < 2 ^ 64
def CMul (i j:Int):Prop:=(-(2 ^ 64) < i∧i < 2 ^ 64)∨(-(2 ^ 64) < j∧j < 2 ^ 64)
theorem op_add:OpR X (binaryOp .Add) (rI0 fun i j=> .int (i + j)):=opI0 fun _ _ _ _ _ _ _ q=>add_int q
theorem op_sub:OpR X (binaryOp .Sub) (rI0 fun i j=> .int (i - j)):=opI0 fun _ _ _ _ _ _ _ q=>sub_int q
theorem op_fdiv:OpR X (binaryOp .FloorDiv) (rI CDiv fun i j=> .int (i / j)):=opI fun i j _ _ _ _ _ hc q=>by
  have h1:(0:Int) < j:=hc.1
  have h2:j < 1073741824:=hc.2
  exact floordiv_int (by omega) (by rw [Int.fdiv_eq_ediv_of_nonneg i (by omega)];exact q) (.inl (PyProof.noPylong_small (by omega)))
theorem op_mod:OpR X (binaryOp .Mod) (rI (fun _ j=>0 < j) fun i j=> .int (i % j)):=opI fun i j _ _ _ _ _ hc q=>by
  have h1:(0:Int) < j:=hc
  exact mod_int' (by omega) (by rw [Int.fmod_eq_emod_of_nonneg i (by omega)];exact q)
end
def scal:V→V→Bool
  | .non,.non=>true | .non,.int _=>true | .int _,.non=>true | .non,.bl _=>true | .bl _,.non=>true | .non,.str _=>true | .str _,.non=>true
  | .int _,.int _=>true | .bl _,.bl _=>true | .str _,.str _=>true | .byt _,.byt _=>true
  | .int _,.str _=>true | .str _,.int _=>true | .bl _,.str _=>true | .str _,.bl _=>true
  | _,_=>false
def rEq:R2:=fun x y H Q=>scal x y = true∧Q (.bl (decide (x = y))) H
def rNe:R2:=fun x y H Q=>scal x y = true∧Q (.bl (!decide (x = y))) H
theorem dec_int {i j:Int}:decide (V.int i = V.int j) = (i == j):=by
  rw [Bool.eq_iff_iff]
  simp
theorem dec_bl {i j:Bool}:decide (V.bl i = V.bl j) = (i == j):=by
  rw [Bool.eq_iff_iff]
  simp
theorem dec_str {i j:Str}:decide (V.str i = V.str j) = (i == j):=by
  rw [Bool.eq_iff_iff]
  simp
theorem dec_byt {i j:Array UInt8}:decide (V.byt i = V.byt j) = (i.toList == j.toList):=by
  rw [Bool.eq_iff_iff]
  cases i
  cases j
  simp
section
variable {X:Cx} {a b c:Expr} {ta tb tc:TE} {pos:Pos}
theorem fin_bl {pins:List (Addr×Obj)} {σ:St} {H:Hp} {s:Shared} {Q:VK} {k k':Bool} (I:Inv X pins σ H s) (q:Q (.bl k) H) (e:k = k'):EP X pins σ Q (.bool k') s:=by
  subst e
  exact⟨.bl k,H,I,rfl,q⟩
theorem op_eq:OpR X (compareOp .Eq) rEq:=by
  intro pins s σ H x y v u Q I rx ry h
  obtain⟨hs,q⟩:=h
  cases x with
  | non=>
    cases rx
    cases y with
    | non=>cases ry;exact PySem.EqNone.eq_none_none (fin_bl I q (by simp))
    | bl j=>cases ry;exact PySem.EqNone.eq_none_bool (fin_bl I q (by simp))
    | int j=>obtain⟨t',rfl⟩:=ry;exact PySem.EqNone.eq_none_int (fin_bl I q (by simp))
    | str j=>obtain⟨t',rfl⟩:=ry;exact PySem.EqNone.eq_none_str (fin_bl I q (by simp))
    | _=>exact absurd (show false = true from hs) Bool.false_ne_true
  | bl i=>
    cases rx
    cases y with
    | non=>cases ry;exact PySem.EqNone.eq_bool_none (fin_bl I q (by simp))
    | bl j=>cases ry;exact eq_bool (fin_bl I q dec_bl)
    | str j=>obtain⟨t',rfl⟩:=ry;exact PySem.EqMixed.eq_bool_str (fin_bl I q (by simp))
    | _=>exact absurd (show false = true from hs) Bool.false_ne_true
  | int i=>
    obtain⟨t,rfl⟩:=rx
    cases y with
    | non=>cases ry;exact PySem.EqNone.eq_int_none (fin_bl I q (by simp))
    | int j=>obtain⟨t',rfl⟩:=ry;exact eq_int (fin_bl I q dec_int)
    | str j=>obtain⟨t',rfl⟩:=ry;exact PySem.EqMixed.eq_int_str (fin_bl I q (by simp))
    | _=>exact absurd (show false = true from hs) Bool.false_ne_true
  | str i=>
    obtain⟨t,rfl⟩:=rx
    cases y with
    | non=>cases ry;exact PySem.EqNone.eq_str_none (fin_bl I q (by simp))
    | bl j=>cases ry;exact PySem.EqMixed.eq_str_bool (fin_bl I q (by simp))
    | int j=>obtain⟨t',rfl⟩:=ry;exact PySem.EqMixed.eq_str_int (fin_bl I q (by simp))
    | str j=>obtain⟨t',rfl⟩:=ry;exact eq_str (fin_bl I q dec_str)
    | _=>exact absurd (show false = true from hs) Bool.false_ne_true
  | byt i=>
    obtain⟨t,rfl⟩:=rx
    cases y with
    | byt j=>obtain⟨t',rfl⟩:=ry;exact PySem.W.eq_bytes (fin_bl I q dec_byt)
    | _=>exact absurd (show false = true from hs) Bool.false_ne_true
  | _=>cases y <;> exact absurd (show false = true from hs) Bool.false_ne_true
theorem op_ne:OpR X (compareOp .NotEq) rNe:=by
  intro pins s σ H x y v u Q I rx ry h
  obtain⟨hs,q⟩:=h
  cases x with
  | non=>
    cases rx
    cases y with
    | non=>cases ry;exact PySem.EqNone.ne_none_none (fin_bl I q (by simp))
    | bl j=>cases ry;exact PySem.EqNone.ne_none_bool (fin_bl I q (by simp))
    | int j=>obtain⟨t',rfl⟩:=ry;exact PySem.EqNone.ne_none_int (fin_bl I q (by simp))
    | str j=>obtain⟨t',rfl⟩:=ry;exact PySem.EqNone.ne_none_str (fin_bl I q (by simp))
    | _=>exact absurd (show false = true from hs) Bool.false_ne_true
  | bl i=>
    cases rx
    cases y with
    | non=>cases ry;exact PySem.EqNone.ne_bool_none (fin_bl I q (by simp))
    | bl j=>cases ry;exact ne_bool (fin_bl I q (congrArg not dec_bl))
    | str j=>obtain⟨t',rfl⟩:=ry;exact PySem.EqMixed.ne_bool_str (fin_bl I q (by simp))
    | _=>exact absurd (show false = true from hs) Bool.false_ne_true
  | int i=>
    obtain⟨t,rfl⟩:=rx
    cases y with
    | non=>cases ry;exact PySem.EqNone.ne_int_none (fin_bl I q (by simp))
    | int j=>obtain⟨t',rfl⟩:=ry;exact ne_int (fin_bl I q (congrArg not dec_int))
    | str j=>obtain⟨t',rfl⟩:=ry;exact PySem.EqMixed.ne_int_str (fin_bl I q (by simp))
    | _=>exact absurd (show false = true from hs) Bool.false_ne_true
  | str i=>
    obtain⟨t,rfl⟩:=rx
    cases y with
    | non=>cases ry;exact PySem.EqNone.ne_str_none (fin_bl I q (by simp))
    | bl j=>cases ry;exact PySem.EqMixed.ne_str_bool (fin_bl I q (by simp))
    | int j=>obtain⟨t',rfl⟩:=ry;exact PySem.EqMixed.ne_str_int (fin_bl I q (by simp))
    | str j=>obtain⟨t',rfl⟩:=ry;exact ne_str (fin_bl I q (congrArg not dec_str))
    | _=>exact absurd (show false = true from hs) Bool.false_ne_true
  | byt i=>
    obtain⟨t,rfl⟩:=rx
    cases y with
    | byt j=>obtain⟨t',rfl⟩:=ry;exact PySem.W.ne_bytes (fin_bl I q (congrArg not dec_byt))
    | _=>exact absurd (show false = true from hs) Bool.false_ne_true
  | _=>cases y <;> exact absurd (show false = true from hs) Bool.false_ne_true
theorem op_lt:OpR X (compareOp .Lt) (rI0 fun i j=> .bl (decide (i < j))):=opB0 fun _ _ _ _ _ _ _ q=>lt_int q
theorem op_le:OpR X (compareOp .LtE) (rI0 fun i j=> .bl (decide (i≤j))):=opB0 fun _ _ _ _ _ _ _ q=>le_int q
theorem op_gt:OpR X (compareOp .Gt) (rI0 fun i j=> .bl (decide (j < i))):=opB0 fun _ _ _ _ _ _ _ q=>gt_int q
theorem op_in_str:OpR X (compareOp .In) (fun x y H Q=>∃i j,x = .str i∧y = .str j∧Q (.bl (!(Builtin.Str.occurrences j i 0 j.length 1).isEmpty)) H):=by
  intro pins s σ H x y v u Q I rx ry h
  obtain⟨i,j,rfl,rfl,q⟩:=h
  obtain⟨t,rfl⟩:=rx
  obtain⟨t',rfl⟩:=ry
  exact in_str (fin_bl I q rfl)
def isObj:HO→Bool
  | .lst _=>true
  | .ins _ _ _=>true
  | _=>false
theorem nomark (b:Expr) {op:CmpOp} (h:op≠ .In:=by decide) (h2:op≠ .NotIn:=by decide):behindInMarks op b = false:=by
  have e1:(op == CmpOp.In) = false:=by cases op <;> first | rfl | exact absurd rfl h
  have e2:(op == CmpOp.NotIn) = false:=by cases op <;> first | rfl | exact absurd rfl h2
  cases b <;> simp [behindInMarks,e1,e2]
theorem pe_cmpR {op:CmpOp} {r:R2} (ho:OpR X (compareOp op) r) (ha:PE X a ta) (hb:PE X b tb) (hm:behindInMarks op b = false):PE X (.Compare a [op] [b] pos) (tOp r ta tb):=by
  intro pins s σ H Q I h
  exact wpAny_Compare1 (binT ha hb I h fun v u s2 x y H2 I2 rx ry q=>ho pins s2 σ H2 x y v u Q I2 rx ry q) hm
def tTest (t:TE):TT:=fun σ H Q=>t σ H fun x H'=>∃k,x = .bl k∧Q k H'
theorem pt_cmpR {op:CmpOp} {r:R2} (ho:OpR X (compareOp op) r) (ha:PE X a ta) (hb:PE X b tb) (hm:behindInMarks op b = false):PT X (.Compare a [op] [b] pos) (tTest (tOp r ta tb)):=by
  intro pins s σ H Q I h
  refine wpAny_isTrue_Compare1 (thn (ha pins s σ H _ I h) fun v s1 ⟨x,H1,I1,r1,q1⟩=>thn (hb pins s1 σ H1 _ I1 q1) fun u s2 ⟨y,H2,I2,r2,q2⟩=>
    thn (ho pins s2 σ H2 x y v u _ I2 r1 r2 q2) fun c s3 ⟨z,H3,I3,r3,k,e,q3⟩=>?_) hm
  subst e
  cases r3
  exact wpAny_truthy_bool ⟨H3,I3,q3⟩
def tChain (r r':R2) (ta tb tc:TE):TE:=fun σ H Q=>ta σ H fun x H1=>tb σ H1 fun y H2=>r x y H2 fun z H3=>∃k,z = .bl k∧
  (if k = true then tc σ H3 fun w' H4=>r' y w' H4 Q else Q (.bl false) H3)
theorem pt_chain {op op':CmpOp} {r r':R2} (ho:OpR X (compareOp op) r) (ho':OpR X (compareOp op') r') (ha:PE X a ta) (hb:PE X b tb) (hc:PE X c tc)
    (hm:lastMarks [op,op'] [b,c] = false:=by with_unfolding_all rfl):PT X (.Compare a [op,op'] [b,c] pos) (tTest (tChain r r' ta tb tc)):=by
  intro pins s σ H Q I h
  refine isTrue_chain (thn (ha pins s σ H _ I h) fun v s1 ⟨x,H1,I1,r1,q1⟩=>test_link (thn (hb pins s1 σ H1 _ I1 q1) fun u s2 ⟨y,H2,I2,r2,q2⟩=>
    thn (ho pins s2 σ H2 x y v u _ I2 r1 r2 q2) fun d s3 ⟨z,H3,I3,r3,k,e,q3⟩=>?_)) hm
  subst e
  cases r3
  refine wpAny_truthy_bool ?_
  cases k with
  | false=>
    obtain⟨k',e',q'⟩:=q3
    cases e'
    exact ite_ff ⟨H3,I3,q'⟩
  | true=>
    refine ite_tt (test_last (thn (hc pins s3 σ H3 _ I3 q3) fun w' s4 ⟨z',H4,I4,r4,q4⟩=>thn (ho' pins s4 σ H4 y z' u w' _ I4 r2 r4 q4) fun d' s5 ⟨z2,H5,I5,r5,k2,e2,q5⟩=>?_))
    subst e2
    cases r5
    exact wpAny_truthy_bool ⟨H5,I5,q5⟩
def TruV (K:PySem.W.Frag) (x:V) (H:Hp) (k:Bool):Prop:=
  match x with
  | .non=>k = false
  | .bl b=>k = b
  | .int i=>k = (i != 0)
  | .str y=>y.length≤sizeLine∧k = ((y.length:Int) != 0)
  | .byt y=>y.size≤sizeLine∧k = ((y.size:Int) != 0)
  | .ref p=>(∃xs,SqL K H p xs∧k = !xs.isEmpty)∨(∃xs,SqT K H p xs∧k = !xs.isEmpty)∨∃kvs,H p = some (.dK kvs)∧k = !kvs.isEmpty
  | _=>False
theorem line63:(sizeLine:Nat) < 2 ^ 63:=by rw [sizeLine_eq];decide
theorem op_add_str:OpR X (binaryOp .Add) (fun x y H Q=>∃i j,x = .str i∧y = .str j∧i.length + j.length≤sizeLine∧Q (.str (i ++ j)) H):=by
  intro pins s σ H x y v u Q I rx ry h
  obtain⟨i,j,rfl,rfl,hz,q⟩:=h
  obtain⟨t,rfl⟩:=rx
  obtain⟨t',rfl⟩:=ry
  exact add_str (fun t' tk=>⟨.str (i ++ j),H,I.tok _,⟨_,rfl⟩,q⟩) hz
def PlainIxT (b:Expr):Prop:=∀o i,subscripted b false o i = operate [o,i] (getItem o i)
theorem vals1 {x:V} {us:List Value} (r:Vals [x] us):∃u,us = [u]∧RelV x u:=by
  cases r with
  | cons r1 r2=>cases r2;exact⟨_,rfl,r1⟩
theorem call_str_int:CallR X (.type "str") (fun xs H Q=>∃i,xs = [.int i]∧i.natAbs.log2 < 1920∧Q (.str (toString i)) H):=by
  intro pins s σ H xs us Q I r h
  obtain⟨i,rfl,hz,q⟩:=h
  obtain⟨u,rfl,t,rfl⟩:=vals1 r
  exact PySem.P.str_of_int hz ⟨.str _,H,I.tok _,⟨_,rfl⟩,q⟩
def LenV (K:PySem.W.Frag) (x:V) (H:Hp) (n:Nat):Prop:=
  match x with
  | .str y=>y.length≤sizeLine∧n = y.length
  | .byt y=>y.size≤sizeLine∧n = y.size
  | .ref p=>(∃xs,SqL K H p xs∧n = xs.length)∨∃xs,SqT K H p xs∧n = xs.length
  | _=>False
end
end L2
namespace L2
open PySem PySem.Spec PyProof.Rows
structure ObjM (h:Heap) (x dx C:Addr) (mA:Str→Option Value):Prop where
  obj:h.get? x = some (PySem.W.instObj C dx)
  ns:h.Ns1 dx mA
  ne:dx≠x
theorem lookIn_ns {h:Heap} {dx:Addr} {mA:Str→Option Value} (n:h.Ns1 dx mA):∃od,h.get? dx = some od∧∀name,PySem.W.lookIn name od = some (mA name):=by
  obtain⟨o,es,ep,ho,hd,hk,_,hm⟩:=n
  refine⟨o,ho,fun name=>?_⟩
  have e:=hm name
  unfold nsFind findBy at e
  rw [←Array.find?_toList] at e
  unfold PySem.W.lookIn
  rw [hd]
  dsimp only
  split
  · rename_i y q
    rw [q] at e
    exact congrArg some e
  · rename_i q
    rw [q] at e
    have a:es.toList.any (·.refKey) = false:=by
      rw [List.any_eq_false]
      intro y hy
      obtain⟨z,t,hkey⟩:=hk y (Array.mem_toList_iff.mp hy)
      simp [DictEntry.refKey,hkey]
    have a':¬ es.toList.any (·.refKey) = true:=by rw [a];exact Bool.false_ne_true
    rw [if_neg a']
    exact congrArg some e
theorem ObjM.look {h:Heap} {x dx C:Addr} {mA:Str→Option Value} (I:ObjM h x dx C mA):∃od,PySem.W.InstAt h x (PySem.W.instObj C dx) C (some od)∧∀name,PySem.W.lookIn name od = some (mA name):=
  let ⟨od,ho,hl⟩:=lookIn_ns I.ns
  ⟨od,⟨I.obj,rfl,rfl,ho⟩,hl⟩
section
variable {prog:Program} {w:World} {A:Around} {E:Value→Shared→Prop} {s:Shared} {K:PySem.W.Frag} {x dx C f:Addr} {mA:Str→Option Value} {name:Str} {v:Value}
end
def putF (f:Str) (v:V):List (Str×V)→List (Str×V)
  | []=>[(f,v)]
  | (g,x) :: r=>if g = f then (g,v) :: r else (g,x) :: putF f v r
section
variable {P:Program} {w:World} {H H':Hp} {h h':Heap} {a C dx:Addr} {fs fs':List (Str×V)}
theorem ins_get (hok:HOk P w H h) (e:H a = some (.ins C dx fs)):∃mA,ObjM h a dx C mA∧(∀f,RelO (fs.lookup f) (mA f))∧PySem.Within mA (fs.map (·.1))∧fs.length≤1000∧H dx = some (.own a):=by
  obtain⟨d,z,ne,ob,mA,n,r,q⟩:=(show ObjOk P w H h a (.ins C dx fs) from hok a _ e)
  exact⟨mA,⟨ob,n,ne⟩,r,q,z,d⟩
end
structure Cls (K:PySem.W.Frag) (C:Addr):Prop where
  pg:PySem.W.plainGet K C Str.empty = true
  hd:PySem.W.hasDictIn K C = true
  po:PySem.W.plainOver K C = true
  sa:PySem.W.findIn K (.ref C) "__setattr__" = some (some (.builtin "object.__setattr__"))
theorem Cls.get {K:PySem.W.Frag} {C:Addr} (c:Cls K C) (f:Str):PySem.W.plainGet K C f = true:=c.pg
def NoAttr (K:PySem.W.Frag) (C:Addr) (f:Str):Prop:=PySem.W.findIn K (.ref C) f = some none
structure Con (K:PySem.W.Frag) (C:Addr) (f:Str) (v:V) (u:Value):Prop where
  at_:PySem.W.findIn K (.ref C) f = some (some u)
  rel:RelV v u
  get:PySem.W.specialIn K u "__get__" = some none
  cp:PySem.W.copiedNames.contains f = false
structure Meth (K:PySem.W.Frag) (C:Addr) (m:Str) (f:Addr):Prop where
  at_:PySem.W.findIn K (.ref C) m = some (some (.ref f))
  fn:PySem.W.isFn K (.ref f) = true
  kp:PySem.W.keepIn K (.ref f) = true
section
variable {X:Cx} {pins:List (Addr×Obj)} {σ:St} {H:Hp} {s:Shared} {a C dx:Addr} {fs:List (Str×V)} {f:Str} {v:V} {A:Around} {E:Value→Shared→Prop}
end
def tFld (K:PySem.W.Frag) (ta:TE) (f:Str):TE:=fun σ H Q=>ta σ H fun x H1=>∃a C dx fs v,x = .ref a∧H1 a = some (.ins C dx fs)∧Cls K C∧NoAttr K C f∧fs.lookup f = some v∧Q v H1
def tCon (K:PySem.W.Frag) (ta:TE) (f:Str):TE:=fun σ H Q=>ta σ H fun x H1=>∃a C dx fs v u,x = .ref a∧H1 a = some (.ins C dx fs)∧Cls K C∧Con K C f v u∧fs.lookup f = none∧Q v H1
def sFld (K:PySem.W.Frag) (ta tv:TE) (f:Str):TS:=fun D σ H=>tv σ H fun y H1=>ta σ H1 fun x H2=>∃a C dx fs,x = .ref a∧H2 a = some (.ins C dx fs)∧Cls K C∧NoAttr K C f∧fs.length < 1000∧
  D.nx σ (upd H2 a (.ins C dx (putF f y fs)))
def InOp (X:Cx) (op:Operator) (rd:V→V→Hp→VK→Prop):Prop:=
  ∀(pins:List (Addr×Obj)) (s:Shared) (σ:St) (H:Hp) (x y:V) (u v:Value) (Q:VK),Inv X pins σ H s→RelV x u→RelV y v→rd x y H Q→wpAny (model X.prog X.w) X.A (inplaceOp op u v) (EP X pins σ Q) X.xe s
def sFldAug (K:PySem.W.Frag) (ta tv:TE) (rd:V→V→Hp→VK→Prop) (f:Str):TS:=fun D σ H=>ta σ H fun x H1=>∃a C dx fs v,x = .ref a∧H1 a = some (.ins C dx fs)∧Cls K C∧NoAttr K C f∧fs.lookup f = some v∧
  tv σ H1 fun y H2=>rd v y H2 fun z H3=>∃dx' fs',H3 a = some (.ins C dx' fs')∧fs'.length < 1000∧D.nx σ (upd H3 a (.ins C dx' (putF f z fs')))
section
variable {X:Cx} {o e value:Expr} {f:Str} {pos pos' tpos:Pos} {ta tv:TE}
def rAdd:V→V→Hp→VK→Prop:=fun x y H Q=>∃i j,x = .int i∧y = .int j∧Q (.int (i + j)) H
def rSub:V→V→Hp→VK→Prop:=fun x y H Q=>∃i j,x = .int i∧y = .int j∧Q (.int (i - j)) H
end
section
variable {X:Cx} {pins:List (Addr×Obj)} {σ:St} {H:Hp} {s:Shared} {A:Around} {E:Value→Shared→Prop} {Q:Value→Shared→Prop} {c:Value} {b:Bool}
inductive TyOf (K:PySem.W.Frag) (H:Hp):V→Value→Prop where
  | non:TyOf K H .non (.type "NoneType")
  | bl (x:Bool):TyOf K H (.bl x) (.type "bool")
  | int (i:Int):TyOf K H (.int i) (.type "int")
  | str (x:Str):TyOf K H (.str x) (.type "str")
  | flt (x:UInt64):TyOf K H (.flt x) (.type "float")
  | lst {a:Addr} {xs:List V} (e:H a = some (.lst xs)):TyOf K H (.ref a) (.type "list")
  | frz {a:Addr} {o:Obj} {xs:List V} (e:H a = some (.frz o (.lst xs))):TyOf K H (.ref a) (.type "list")
  | tup {a:Addr} {xs:List V} (e:H a = some (.tup xs)):TyOf K H (.ref a) (.type "tuple")
  | dK {a:Addr} {kvs:List (Key×V)} (e:H a = some (.dK kvs)):TyOf K H (.ref a) (.type "dict")
  | dT {a:Addr} {kvs:List (List Key×V)} (e:H a = some (.dT kvs)):TyOf K H (.ref a) (.type "dict")
  | ins {a C dx:Addr} {fs:List (Str×V)} (e:H a = some (.ins C dx fs)) (cl:Cls K C) (ha:PySem.W.findIn K (.ref C) "__class__" = some (some (.builtin "object.__class__")))
      (hn:PySem.W.specialIn K (.builtin "object.__class__") "__get__" = some (some (.builtin "getset_descriptor.__get__"))) (htk:PySem.W.takesIn K (.builtin "object.__class__") = some true)
      (hm:PySem.W.mroIn K C (.type "object") = some true):TyOf K H (.ref a) (.ref C)
theorem isinst_ok {x:V} {u t:Value} (I:Inv X pins σ H s) (rx:RelV x u) (ty:TyOf X.K H x t) (e:PySem.W.kitOne X.K t c = some b) (h:∀tk,Q (.bool b) { s with toks:=tk }) :
    wpAny (model X.prog X.w) A (call (.builtin "isinstance") [u,c]) Q E s:=by
  cases ty with
  | non=>cases (show u = Value.none from rx);exact PySem.W.kia_one PySem.W.kitx_none I.kIn True.intro e (fun z=>nomatch z) h
  | bl y=>cases (show u = Value.bool y from rx);exact PySem.W.kia_one PySem.W.kitx_bool I.kIn True.intro e (fun z=>nomatch z) h
  | int i=>obtain⟨t,q⟩:=(show ∃t,u = Value.int i t from rx);cases q;exact PySem.W.kia_one PySem.W.kitx_int I.kIn True.intro e (fun z=>nomatch z) h
  | str y=>obtain⟨t,q⟩:=(show ∃t,u = Value.str y t from rx);cases q;exact PySem.W.kia_one PySem.W.kitx_str I.kIn True.intro e (fun z=>nomatch z) h
  | flt y=>obtain⟨t,q⟩:=(show ∃t,u = Value.float y t from rx);cases q;exact PySem.W.kia_one PySem.W.kitx_float I.kIn True.intro e (fun z=>nomatch z) h
  | @lst a xs ea=>
    cases (show u = Value.ref a from rx)
    obtain⟨_,_,n,_,h1⟩:=(show ObjOk X.prog X.w H s.heap a (.lst xs) from I.hok a _ ea)
    exact PySem.W.kia_one PySem.W.kitx_list I.kIn ⟨_,h1,rfl⟩ e (fun z=>nomatch z) h
  | @frz a ob xs ea=>
    cases (show u = Value.ref a from rx)
    obtain⟨_,_,_,n,_,h1⟩:=(show ObjOk X.prog X.w H s.heap a (.frz ob (.lst xs)) from I.hok a _ ea)
    exact PySem.W.kia_one PySem.W.kitx_list I.kIn ⟨_,h1,rfl⟩ e (fun z=>nomatch z) h
  | @tup a xs ea=>
    cases (show u = Value.ref a from rx)
    obtain⟨_,_,_,p⟩:=(show ObjOk X.prog X.w H s.heap a (.tup xs) from I.hok a _ ea)
    obtain⟨o,h1,h2,_⟩:=p
    exact PySem.W.kia_one PySem.W.kitx_tuple I.kIn ⟨o,h1,h2⟩ e (fun z=>nomatch z) h
  | @dK a kvs ea=>
    cases (show u = Value.ref a from rx)
    obtain⟨_,_,vs,_,p⟩:=(show ObjOk X.prog X.w H s.heap a (.dK kvs) from I.hok a _ ea)
    obtain⟨o,es,ep,h1,h2,_⟩:=p
    exact PySem.W.kia_one PySem.W.kitx_dict I.kIn ⟨o,h1,h2.1⟩ e (fun z=>nomatch z) h
  | @dT a kvs ea=>
    cases (show u = Value.ref a from rx)
    obtain⟨_,_,xs,_,o,es,ep,h1,h2,_⟩:=(show ObjOk X.prog X.w H s.heap a (.dT kvs) from I.hok a _ ea)
    exact PySem.W.kia_one PySem.W.kitx_dict I.kIn ⟨o,h1,h2.1⟩ e (fun z=>nomatch z) h
  | @ins a C dx fs ea cl ha hn htk hm=>
    cases (show u = Value.ref a from rx)
    obtain⟨mA,O,_⟩:=ins_get I.hok ea
    obtain⟨od,J,_⟩:=O.look
    exact PySem.W.kia_one (PySem.W.kitx_own (cl.get _) cl.hd ha hn htk hm) I.kIn J e (fun z=>nomatch z) h
end
end L2
namespace L2
open PySem PySem.Spec PyProof.Rows
structure Room (k:Nat) (A:Around):Prop where
  hd:A.handled = none
  dp:A.depth + 3 * k + 5 < recursionLimit
  un:A.units + 16 * k + 200 < cLine
theorem Room.mono {j k:Nat} {A:Around} (r:Room k A) (h:j≤k):Room j A:=⟨r.hd,by have:=r.dp;omega,by have:=r.un;omega⟩
theorem Room.deeper {k:Nat} {A:Around} (r:Room (k + 1) A) (env:Env):Room k (A.deeper env):=
  ⟨r.hd,by have:=r.dp;show A.depth + 1 + 3 * k + 5 < _;omega,by have:=r.un;show A.units + 3 + 16 * k + 200 < _;omega⟩
theorem Room.depth {k:Nat} {A:Around} (r:Room k A):A.depth < recursionLimit:=by have:=r.dp;omega
theorem Room.units {k:Nat} {A:Around} (r:Room k A):A.units + 64 < cLine:=by have:=r.un;omega
def tNil:TA:=fun _ H Q=>Q [] H
def tCons (ta:TE) (tr:TA):TA:=fun σ H Q=>ta σ H fun x H1=>tr σ H1 fun xs H2=>Q (x :: xs) H2
section
variable {X:Cx} {e:Expr} {es:List Expr} {te:TE} {t:TA} {pos:Pos}
theorem pa_nil:PA X [] tNil:=fun _ _ _ _ H Q I h=>Calls.spliced_nil ⟨[],H,I,.nil,h⟩
theorem pa_cons (ha:PE X e te) (hr:PA X es t) (hs:starEach (e :: es) X.env = (false,eval e X.env) :: starEach es X.env:=by rfl):PA X (e :: es) (tCons te t):=by
  intro pos pins s σ H Q I h
  rw [hs]
  show wpAny _ _ (spliced ((false,eval e X.env) :: backTo pos (starEach es X.env))) _ _ s
  refine Calls.spliced_cons (thn (ha pins s σ H _ I h) fun u s1 ⟨x,H1,I1,r1,q1⟩=>?_)
  exact thn (hr pos pins s1 σ H1 _ I1 q1) fun us s2 ⟨xs,H2,I2,r2,q2⟩=>⟨x :: xs,H2,I2,.cons r1 r2,q2⟩
def tTup (t:TA):TE:=fun σ H Q=>t σ H fun xs H1=>xs.length≤sizeLine∧∀p,H1 p = none→Q (.ref p) (upd H1 p (.tup xs))
def tLst (t:TA):TE:=fun σ H Q=>t σ H fun xs H1=>xs.length≤sizeLine∧∀p,H1 p = none→Q (.ref p) (upd H1 p (.lst xs))
theorem pe_tup {x1} (h:PA X es t):PE X (.Tuple es x1 pos) (tTup t):=by
  intro pins s σ H Q I hq
  refine wpAny_Tuple_spliced (thn (h pos pins s σ H _ I hq) fun us s1 ⟨xs,H1,I1,r,z,q⟩=>⟨by rw [←r.length];exact z,?_⟩)
  have hf:H1 s1.heap.objs.size = none:=I1.hok.fresh (Nat.le_refl _)
  refine⟨.ref s1.heap.objs.size,upd H1 s1.heap.objs.size (.tup xs),I1.laid (t':=s1.toks) (fun b u e=>Heap.get?_push_of_some _ e) (Nat.le_refl _) ?_,rfl,q _ hf⟩
  exact⟨z,us,r,⟨_,Heap.get?_push_size _ rfl,rfl,_,rfl⟩⟩
theorem pe_lst (h:PA X es t):PE X (.List es pos) (tLst t):=by
  intro pins s σ H Q I hq
  refine wpAny_List_spliced (thn (h pos pins s σ H _ I hq) fun us s1 ⟨xs,H1,I1,r,z,q⟩=>⟨by rw [←r.length];exact z,?_⟩)
  have hf:H1 s1.heap.objs.size = none:=I1.hok.fresh (Nat.le_refl _)
  refine⟨.ref s1.heap.objs.size,upd H1 s1.heap.objs.size (.lst xs),I1.laid (t':=s1.toks) (fun b u e=>Heap.get?_push_of_some _ e) (Nat.le_refl _) ?_,rfl,q _ hf⟩
  exact⟨z,us,0,r,Heap.get?_push_size _ rfl⟩
end
abbrev Sp:=List V→Hp→VK→XK→Prop
abbrev CXT:=List Env→Hp→Shared→XK→Value→Shared→Prop
structure Env0 (P:Program) (w:World) (K:PySem.W.Frag) (mg:Str→Option Value) (base:Heap) (A:Around) (outer:List Env) (s:Shared) (H:Hp):Prop where
  frames:A.frames = some outer
  mod:Mod K mg base
  bs:∀b o,base.get? b = some o→s.heap.get? b = some o∧H b = none
  bsz:base.objs.size≤s.heap.objs.size
  funs:s.heap.FunFrames base outer
  frf:∀b∈frs outer,H b = none
  hok:HOk P w H s.heap
  bare:AllBare s.gens
def CE (outer:List Env) (P:Program) (w:World) (H:Hp) (s:Shared) (Q:VK) (u:Value) (s':Shared):Prop:=
  ∃v H',s'.os = s.os∧AllBare s'.gens∧Un (frs outer) [] H H' s.heap s'.heap∧HOk P w H' s'.heap∧RelV v u∧Q v H'
def CR (CX:CXT) (outer:List Env) (P:Program) (w:World) (H:Hp) (s:Shared) (Q:VK) (E:XK) (r:Result) (s':Shared):Prop:=
  match r with
  | .ok (.ret u)=>CE outer P w H s Q u s'
  | .ok _=>False
  | .error e=>CX outer H s E e s'
structure FnOk (P:Program) (w:World) (K:PySem.W.Frag) (mg:Str→Option Value) (base:Heap) (CX:CXT) (k:Nat) (f:Addr) (fd:FuncData) (ps:List Str) (sp:Sp):Prop where
  len:∀vs H Q E,sp vs H Q E→vs.length = ps.length
  run:∀(A:Around) (outer:List Env) (s:Shared) (H:Hp) (args:Args) (us:List Value) (vs:List V) (Q:VK) (E:XK),Room k A→Env0 P w K mg base A outer s H→BindsTo s fd args (ps.zip us)→Vals vs us→sp vs H Q E→
    codeAny (model P w) A (.call (.ref f) args) (CR CX outer P w H s Q E) s
section
variable {X:Cx} {pins:List (Addr×Obj)} {σ:St} {H:Hp} {s s':Shared}
theorem Inv.env0 (I:Inv X pins σ H s):Env0 X.prog X.w X.K X.mg X.base X.A X.stack s H:=
  ⟨I.ok.frames,I.ok.mod,I.bs,Nat.le_trans I.ok.bsz I.sz,I.stack,I.stkFree,I.hok,I.bare⟩
theorem Inv.after {Q:VK} {u:Value} (I:Inv X pins σ H s) (h:CE X.stack X.prog X.w H s Q u s'):EP X pins σ Q u s':=by
  obtain⟨v,H',os,bare,un,hok,r,q⟩:=h
  obtain⟨hh,g,d,t,os'⟩:=s'
  obtain rfl:os' = s.os:=os
  exact⟨v,H',I.call (h':=hh) (g':=g) (d':=d) (t':=t) (ch:=[]) un hok bare (fun b z=>absurd z (by simp)),r,q⟩
end
def tCall (sp:Sp) (dvs:List V) (E:XK) (t:TA):TE:=fun σ H Q=>t σ H fun vs H1=>sp (vs ++ dvs) H1 Q E
def tMeth (C:Addr) (m:Str) (sp:Sp) (dvs:List V) (E:XK) (ta:TE) (t:TA):TE:=fun σ H Q=>ta σ H fun x H1=>∃a dx fs,x = .ref a∧H1 a = some (.ins C dx fs)∧fs.lookup m = none∧
  t σ H1 fun vs H2=>sp (x :: (vs ++ dvs)) H2 Q E
def tMake (C:Addr) (sp:Sp) (dvs:List V) (E:XK) (t:TA):TE:=fun σ H Q=>t σ H fun vs H1=>∀x dx,H1 x = none→H1 dx = none→dx≠x→
  sp (.ref x :: (vs ++ dvs)) (upd (upd H1 dx (.own x)) x (.ins C dx [])) (fun v H2=>v = .non∧Q (.ref x) H2) E
def Binds (K:PySem.W.Frag) (fd:FuncData) (ps:List Str) (ds:List Value):Prop:=
  ∀(s:Shared) (us:List Value),K.In s.heap→(us ++ ds).length = ps.length→BindsTo s fd ⟨us, []⟩ (ps.zip (us ++ ds))
theorem Binds.all {K:PySem.W.Frag} {fd:FuncData} {ps:List Str} (h:∀us:List Value,us.length = ps.length→bindArgs fd ⟨us, []⟩ = pure (ps.zip us)):Binds K fd ps []:=fun s us _ hl=>by
  rw [List.append_nil] at hl ⊢
  exact .of_eq (h us hl)
def Passes (CX:CXT) (X:Cx) (E:XK):Prop:=∀(pins:List (Addr×Obj)) (σ:St) (H:Hp) (s:Shared) (e:Value) (s':Shared),Inv X pins σ H s→CX X.stack H s E e s'→X.xe e s'
section
variable {X:Cx} {CX:CXT} {k:Nat} {f C:Addr} {fd:FuncData} {ps:List Str} {sp:Sp} {dvs:List V} {ds:List Value} {E:XK} {x m:Str} {p pos apos:Pos} {e o:Expr} {es:List Expr} {ta:TE} {t:TA}
theorem run_fn {pins:List (Addr×Obj)} {σ:St} {H:Hp} {s:Shared} {Q:VK} {us:List Value} {vs:List V} (F:FnOk X.prog X.w X.K X.mg X.base CX k f fd ps sp) (hr:Room k X.A) (hb:Binds X.K fd ps ds) (hd:Vals dvs ds) (hx:Passes CX X E)
    (I:Inv X pins σ H s) (r:Vals vs us) (h:sp (vs ++ dvs) H Q E):wpAny (model X.prog X.w) X.A (call (.ref f) us) (EP X pins σ Q) X.xe s:=by
  have r2:Vals (vs ++ dvs) (us ++ ds):=r.append hd
  have hl:(us ++ ds).length = ps.length:=by rw [←r2.length];exact F.len _ _ _ _ h
  refine wpAny_call (codeAny_mono (F.run X.A X.stack s H ⟨us, []⟩ (us ++ ds) (vs ++ dvs) Q E hr I.env0 (hb s us I.kIn hl) r2 h) fun r s' hq=>?_)
  cases r with
  | error e=>exact hx pins σ H s e s' I hq
  | ok fl=>
    cases fl with
    | ret u=>exact I.after hq
    | next=>exact False.elim hq
    | brk=>exact False.elim hq
    | cont=>exact False.elim hq
theorem pe_call (F:FnOk X.prog X.w X.K X.mg X.base CX k f fd ps sp) (hr:Room k X.A) (hg:Gl X x) (hm:X.mg x = some (.ref f)) (hk:PySem.W.keepIn X.K (.ref f) = true) (hb:Binds X.K fd ps ds) (hd:Vals dvs ds) (hx:Passes CX X E)
    (ha:PA X (e :: es) t) (hdb:(x == ("__debug__":Str)) = false:=by decide) (he:starEach (e :: es) X.env = (false,eval e X.env) :: starEach es X.env:=by rfl) (hpl:(backTo pos (starEach es X.env)).any (·.1) = false:=by rfl) :
    PE X (.Call (.Name x p) (e :: es) [] pos) (tCall sp dvs E t):=by
  intro pins s σ H Q I h
  refine wpAny_Call_Name_kw (ld_glob I hg hm ?_ hdb)
  refine PySem.W.callWith_K (h₀:=X.base) I.ok.mod.kin hk (thn (ha pos pins s σ H _ I h) fun us s1 ⟨vs,H1,I1,r,q⟩=>⟨I1.kIn,?_⟩) he hpl
  exact run_fn F hr hb hd hx I1 r q
structure Mk (K:PySem.W.Frag) (C f:Addr):Prop where
  makes:PySem.W.makesIn K C = true
  init:PySem.W.findIn K (.ref C) "__init__" = some (some (.ref f))
  fn:PySem.W.isFn K (.ref f) = true
  kp:PySem.W.keepIn K (.ref C) = true
end
def PK (X:Cx) (kws:List Keyword) (t:TA):Prop:=
  ∀(pos:Pos) (pins:List (Addr×Obj)) (s:Shared) (σ:St) (H:Hp) (Q:List V→Hp→Prop),Inv X pins σ H s→t σ H Q→wpAny (model X.prog X.w) X.A (evalAll ((backToKw pos (keywordEach kws X.env)).map (·.2))) (AP X pins σ Q) X.xe s
section
variable {X:Cx} {CX:CXT} {k:Nat} {f C:Addr} {fd:FuncData} {ps ks:List Str} {sp:Sp} {E:XK} {x m:Str} {p pos apos kpos:Pos} {e o:Expr} {es:List Expr} {kws:List Keyword} {te ta:TE} {t tk:TA} {nm:Option Str}
structure KBinds (K:PySem.W.Frag) (fd:FuncData) (ps ks:List Str) (g:List Value→List Value→List Value) (gV:List V→List V→List V):Prop where
  to:∀(s:Shared) (us ws:List Value),K.In s.heap→(g us ws).length = ps.length→BindsTo s fd ⟨us,ks.zip ws⟩ (ps.zip (g us ws))
  rel:∀{vs:List V} {us:List Value} {zs:List V} {ws:List Value},Vals vs us→Vals zs ws→Vals (gV vs zs) (g us ws)
def tCallK (sp:Sp) (gV:List V→List V→List V) (E:XK) (t tk:TA):TE:=fun σ H Q=>t σ H fun vs H1=>tk σ H1 fun zs H2=>sp (gV vs zs) H2 Q E
variable {g:List Value→List Value→List Value} {gV:List V→List V→List V}
end
structure FnScope (N P:List Str) (sc:Scope):Prop where
  kind:sc.kind = .function
  co:sc.isCoroutine = false
  gen:sc.isGenerator = false
  nd:N.Nodup
  pre:N.take P.length = P
  par:∀x∈P,sc.names.lookup x = some .local∨sc.names.lookup x = some .cell
  nofree:∀y∈sc.names,y.2≠ .free
theorem bindL_out {kindOf:Str→Option NameKind} {x:Str}:∀{binds:List (Str×Value)} {m:Str→Option Value},(∀v,(x,v)∉binds)→bindL kindOf binds m x = m x
  | [],_,_=>rfl
  | (n,v) :: r,m,h=>by
    unfold bindL
    rw [bindL_out fun w hw=>h w (List.mem_cons_of_mem _ hw)]
    split
    · have:x≠n:=by rintro rfl;exact h v List.mem_cons_self
      simp [this]
    · rfl
theorem bindC_out {kindOf:Str→Option NameKind} {x:Str}:∀{binds:List (Str×Value)} {m:Str→Option Value},(∀v,(x,v)∉binds)→bindC kindOf binds m x = m x
  | [],_,_=>rfl
  | (n,v) :: r,m,h=>by
    unfold bindC
    rw [bindC_out fun w hw=>h w (List.mem_cons_of_mem _ hw)]
    split
    · rfl
    · have:x≠n:=by rintro rfl;exact h v List.mem_cons_self
      simp [this]
theorem bindL_get {kindOf:Str→Option NameKind} {x:Str} {v:Value}:∀{P:List Str} {vs:List Value} {i:Nat} {m:Str→Option Value},P.Nodup→P[i]? = some x→vs[i]? = some v→kindOf x = some .local→
    bindL kindOf (P.zip vs) m x = some v
  | [],_,_,_,_,h,_,_=>by simp at h
  | _ :: _, [],_,_,_,_,h,_=>by simp at h
  | p :: P,w :: vs,0,m,nd,h1,h2,hk=>by
    simp at h1 h2;subst h1;subst h2
    show bindL kindOf ((p,w) :: P.zip vs) m p = _
    unfold bindL
    rw [bindL_out fun v hv=>(List.nodup_cons.mp nd).1 (List.of_mem_zip hv).1,if_pos hk]
    simp
  | p :: P,w :: vs,i + 1,m,nd,h1,h2,hk=>by
    show bindL kindOf ((p,w) :: P.zip vs) m x = _
    unfold bindL
    exact bindL_get (i:=i) (List.nodup_cons.mp nd).2 (by simpa using h1) (by simpa using h2) hk
theorem bindC_get {kindOf:Str→Option NameKind} {x:Str} {v:Value}:∀{P:List Str} {vs:List Value} {i:Nat} {m:Str→Option Value},P.Nodup→P[i]? = some x→vs[i]? = some v→kindOf x≠some .local→
    bindC kindOf (P.zip vs) m x = some v
  | [],_,_,_,_,h,_,_=>by simp at h
  | _ :: _, [],_,_,_,_,h,_=>by simp at h
  | p :: P,w :: vs,0,m,nd,h1,h2,hk=>by
    simp at h1 h2;subst h1;subst h2
    show bindC kindOf ((p,w) :: P.zip vs) m p = _
    unfold bindC
    rw [bindC_out fun v hv=>(List.nodup_cons.mp nd).1 (List.of_mem_zip hv).1,if_neg hk]
    simp
  | p :: P,w :: vs,i + 1,m,nd,h1,h2,hk=>by
    show bindC kindOf ((p,w) :: P.zip vs) m x = _
    unfold bindC
    exact bindC_get (i:=i) (List.nodup_cons.mp nd).2 (by simpa using h1) (by simpa using h2) hk
def start (N:List Str) (vs:List V):St:=vs.map some ++ List.replicate (N.length - vs.length) none
def cxOf (CX:CXT) (P:Program) (w:World) (K:PySem.W.Frag) (mg:Str→Option Value) (base:Heap) (N:List Str) (qual:Str) (scope:Scope) (f:Addr) (cd:Value) (A:Around) (outer:List Env) (s:Shared) (H:Hp) (E:XK):Cx where
  prog:=P
  w:=w
  K:=K
  mg:=mg
  base:=base
  A:=A.deeper (envOfC qual scope s.heap.objs.size f cd)
  N:=N
  s₀:=s
  H₀:=H
  env:=envOfC qual scope s.heap.objs.size f cd
  outer:=outer
  stack:=envOfC qual scope s.heap.objs.size f cd :: outer
  ex:=[]
  calm:=true
  fn:=fun _=>true
  pn:=[]
  xe:=fun e s'=>wpAny (model P w) (A.deeper (envOfC qual scope s.heap.objs.size f cd)) (leaving (envOfC qual scope s.heap.objs.size f cd) e) (fun _ s''=>CX outer H s E e s'') (fun e' s''=>CX outer H s E e' s'') s'
theorem cell_has {sc:Scope} {n:Nat} {x:Str} (h:sc.names.lookup x = some .cell):∃c,(cellsFrom n sc.names []).lookup x = some c:=by
  have q:=PySem.W.cellsFrom_some sc.names n [] (.inl h)
  exact Option.isSome_iff_exists.mp q
theorem inv_start {CX:CXT} {P:Program} {w:World} {K:PySem.W.Frag} {mg:Str→Option Value} {base:Heap} {N ps:List Str} {qual:Str} {scope:Scope} {f:Addr} {cd:Value} {A:Around} {outer:List Env} {s s1:Shared} {H:Hp} {E:XK} {us:List Value} {vs:List V}
    (S:FnScope N ps scope) (hd:A.handled = none) (e0:Env0 P w K mg base A outer s H) (hl:vs.length = ps.length) (r:Vals vs us)
    (x:InCallC s s.heap.objs.size (bindL (envOfC qual scope s.heap.objs.size f cd).kindOf (ps.zip us) fun _=>none) (cellsFrom (s.heap.objs.size + 1) scope.names []) (bindC (envOfC qual scope s.heap.objs.size f cd).kindOf (ps.zip us) fun _=>none) s1) :
    Inv (cxOf CX P w K mg base N qual scope f cd A outer s H E) [] (start N vs) H s1:=by
  have hpl:ps.length≤N.length:=by have:=congrArg List.length S.pre;rw [List.length_take] at this;omega
  obtain⟨h1,tk,rfl,hk⟩:=x.done
  have noA:∀b:Addr,b∉(cxOf CX P w K mg base N qual scope f cd A outer s H E).ex:=fun b z=>absurd (show b∈([]:List Addr) from z) (by simp)
  refine⟨⟨e0.mod,S.kind,rfl,rfl,Nat.le_refl _,fun y z c h1 h2=>?_,fun y hy=>?_,fun y c _ h=>?_,fun _=>hd,Around.frames_deeper e0.frames,.inr ⟨rfl,rfl⟩,fun b z=>absurd z (noA b),e0.bs,e0.bsz,fun b _ _=>noA b,fun b z=>absurd z (noA b),e0.funs,e0.frf⟩,
    rfl,e0.bare,Un.kept hk,⟨_,x.toInCall.ns,fun i y v h1 h2 h3=>?_⟩,fun y c h=>⟨_,x.cell y c h⟩,e0.hok.fresh (Nat.le_refl _),fun y c h=>?_,fun p hp=>absurd (show p∈([]:List (Addr×Obj)) from hp) (by simp),e0.hok.kept hk,?_⟩
  · exact name_of_addr x.apart (PySem.mem_of_lookup h1) (PySem.mem_of_lookup h2)
  · have hy:scope.names.lookup y = some .cell∨scope.names.lookup y = some .free:=hy
    rcases hy with hy | hy
    · exact cell_has hy
    · exact absurd rfl (S.nofree _ (PySem.mem_of_lookup hy))
  · exact Nat.le_of_lt (x.above y c (PySem.mem_of_lookup h))
  · have hi:i < vs.length:=by
      unfold start at h2
      by_cases hi:i < vs.length
      · exact hi
      · rw [List.getElem?_append_right (by simpa using hi)] at h2
        rw [List.getElem?_replicate] at h2
        split at h2 <;> cases h2
    have ha:vs[i]? = some v:=by
      unfold start at h2
      rw [List.getElem?_append_left (by simpa using hi),List.getElem?_map] at h2
      cases e:vs[i]? with
      | none=>rw [e] at h2;cases h2
      | some a=>rw [e] at h2;cases h2;rfl
    obtain⟨u,hu,rv⟩:=r.get ha
    have hp:ps[i]? = some y:=by
      rw [←S.pre,List.getElem?_take_of_lt (by omega)];exact h1
    have ndP:ps.Nodup:=by rw [←S.pre];exact S.nd.sublist (List.take_sublist _ _)
    refine⟨u,rv,?_⟩
    rcases S.par y (List.mem_of_getElem? hp) with k | k
    · exact .inl ⟨k,bindL_get ndP hp hu k⟩
    · obtain⟨c,e⟩:=cell_has (n:=s.heap.objs.size + 1) k
      refine .inr ⟨.inl k,c,e,?_⟩
      have q:=x.cell y c e
      rw [bindC_get ndP hp hu (by show scope.names.lookup y≠_;rw [k];decide)] at q
      exact q
  · exact e0.hok.fresh (Nat.le_of_lt (x.above y c (PySem.mem_of_lookup h)))
  · unfold start
    show _ = N.length
    rw [List.length_append,List.length_map,List.length_replicate]
    omega
theorem fn_of {CX:CXT} {P:Program} {w:World} {K:PySem.W.Frag} {mg:Str→Option Value} {base:Heap} {k:Nat} {f:Addr} {name qual:Str} {params:Arguments} {body:List Stmt} {scope:Scope} {dV kV doc pm cdv ct oc:Value} {an od:Option Addr}
    {osl:Array (Option Value)} {N ps:List Str} {sp:Sp} (lk:K.lookup f = some ⟨oc,od,.func (PySem.W.fnOf name qual params body scope dV kV doc pm an cdv ct),osl⟩) (hcd:PySem.W.codeIn K cdv qual = true) (S:FnScope N ps scope)
    (len:∀vs H Q E,sp vs H Q E→vs.length = ps.length)
    (hbody:∀(A:Around) (outer:List Env) (s:Shared) (H:Hp) (vs:List V) (Q:VK) (E:XK),Room k (A.deeper (envOfC qual scope s.heap.objs.size f cdv))→sp vs H Q E→
      ∃t,PSs (cxOf CX P w K mg base N qual scope f cdv A outer s H E) body t∧t { nx:=fun _ H'=>Q .non H',rt:=Q } (start N vs) H) :
    FnOk P w K mg base CX (k + 1) f (PySem.W.fnOf name qual params body scope dV kV doc pm an cdv ct) ps sp:=by
  refine⟨len,fun A outer s H args us vs Q E hr e0 hb r hsp=>?_⟩
  have hl:=len _ _ _ _ hsp
  have KX:K.In s.heap:=e0.mod.kin.keeps fun b o e=>(e0.bs b o e).1
  have lim:s.heap.NoLimit:=e0.mod.nolimit.keeps fun b o e=>(e0.bs b o e).1
  have hkind:∀y∈ps.zip us,scope.names.lookup y.1 = some .local∨(scope.names.lookup y.1 = some .cell∧((cellsFrom (s.heap.objs.size + 1) scope.names []).lookup y.1).isSome = true):=fun ⟨n,v⟩ hy=>by
    rcases S.par n (List.of_mem_zip hy).1 with q | q
    · exact .inl q
    · exact .inr ⟨q,PySem.W.cellsFrom_some _ _ _ (.inl q)⟩
  refine codeAny_call_function hr.depth (KX _ _ lk) rfl S.co S.gen rfl (PySem.W.codeRec_of KX hcd) (hb _ _ _ _ ?_)
  refine wpAny_newFunctionEnv_cells S.kind hkind fun env he s1 x=>?_
  subst he
  refine⟨lim.keeps x.toInCall.keep,codeAny_func ?_⟩
  obtain⟨t,ht,hq⟩:=hbody A outer s H vs Q E (hr.deeper _) hsp
  have I:Inv (cxOf CX P w K mg base N qual scope f cdv A outer s H E) [] (start N vs) H s1:=inv_start S hr.hd e0 hl r x
  refine wpAny_mono (ht [] s1 (start N vs) H _ I hq) (fun fl s' hs=>?_) fun e s' hs=>hs
  have fin:∀{σ':St} {H':Hp} {v:V} {u:Value},Inv (cxOf CX P w K mg base N qual scope f cdv A outer s H E) [] σ' H' s'→RelV v u→Q v H'→CE outer P w H s Q u s':=
    fun {σ' H' v u} J rv q=>⟨v,H',J.os,J.bare,J.base,J.hok,rv,q⟩
  cases fl with
  | ret u=>
    obtain⟨v,σ',H',J,rv,q⟩:=hs
    exact fin J rv q
  | next=>
    obtain⟨σ',H',J,q⟩:=hs
    exact fin (v:=V.non) (u:=Value.none) J rfl q
  | brk=>
    obtain⟨_,_,_,q⟩:=hs
    exact False.elim q
  | cont=>
    obtain⟨_,_,_,q⟩:=hs
    exact False.elim q
end L2
namespace L2
open PySem PySem.Spec PyProof.Rows
section
variable {X:Cx} {x:Str} {p pos:Pos} {e:Expr} {es:List Expr} {t:TA} {id T:String} {r:List V→Hp→VK→Prop}
def tCB (r:List V→Hp→VK→Prop) (t:TA):TE:=fun σ H Q=>t σ H fun vs H1=>r vs H1 Q
theorem pe_callB (hc:CallR X (.builtin id) r) (hg:Gl X x) (hm:X.mg x = none) (hv:bootBuiltins x = some (.builtin id)) (ha:PA X (e :: es) t) (hn:x≠"__name__":=by decide) (hdb:(x == ("__debug__":Str)) = false:=by decide)
    (he:starEach (e :: es) X.env = (false,eval e X.env) :: starEach es X.env:=by rfl) (hpl:(backTo pos (starEach es X.env)).any (·.1) = false:=by rfl):PE X (.Call (.Name x p) (e :: es) [] pos) (tCB r t):=by
  intro pins s σ H Q I h
  refine wpAny_Call_Name_kw (ld_blt I hg hm hv ?_ hn hdb)
  exact PyProof.Rows.callWith_builtin1 (thn (ha pos pins s σ H _ I h) fun us s1 ⟨vs,H1,I1,r1,q1⟩=>hc pins s1 σ H1 vs us Q I1 r1 q1) he hpl
theorem pe_callTy (hc:CallR X (.type T) r) (hg:Gl X x) (hm:X.mg x = none) (hv:bootBuiltins x = some (.type T)) (ha:PA X (e :: es) t) (hn:x≠"__name__":=by decide) (hdb:(x == ("__debug__":Str)) = false:=by decide)
    (he:starEach (e :: es) X.env = (false,eval e X.env) :: starEach es X.env:=by rfl) (hpl:(backTo pos (starEach es X.env)).any (·.1) = false:=by rfl):PE X (.Call (.Name x p) (e :: es) [] pos) (tCB r t):=by
  intro pins s σ H Q I h
  refine wpAny_Call_Name_kw (ld_blt I hg hm hv ?_ hn hdb)
  exact PyProof.Rows.callWith_type1 (thn (ha pos pins s σ H _ I h) fun us s1 ⟨vs,H1,I1,r1,q1⟩=>hc pins s1 σ H1 vs us Q I1 r1 q1) he hpl
end
end L2
namespace HT
open PySem PyProof.Rows
def lexLt:List Int→List Int→Bool
  | [], []=>false
  | [],_ :: _=>true
  | _ :: _, []=>false
  | x :: xs,y :: ys=>if x = y then lexLt xs ys else decide (x < y)
section
open PySem.SeqAt
open PySem.AutoSeq1 (wpAny_loadPart')
open PySem.MeetsSeq PySem.MeetsSeq2 PySem.MeetsSeq3
end
section
variable {prog:Program} {w:World} {A:Around} {E:Value→Shared→Prop} {s:Shared}
def sIx (n d:Nat):Option Int→Nat
  | none=>d
  | some v=>if v < 0 then (v + (n:Int)).toNat else min v.toNat n
end
end HT
namespace L2
open PySem PySem.Spec PyProof.Rows
abbrev TO:=St→Hp→(Option Int→Hp→Prop)→Prop
def PO (X:Cx) (e:Option Expr) (t:TO):Prop:=
  ∀ (pins:List (Addr×Obj)) (s:Shared) (σ:St) (H:Hp) (Q:Option Int→Hp→Prop),Inv X pins σ H s→t σ H Q→
    wpAny (model X.prog X.w) X.A (evalPart e X.env) (fun u s'=>∃o H',Inv X pins σ H' s'∧IsPart u o∧Q o H') X.xe s
def tNoPart:TO:=fun _ H Q=>Q none H
def tPart (t:TE):TO:=fun σ H Q=>t σ H fun x H1=>∃i,x = .int i∧Q (some i) H1
theorem intsAre_of {ns:List Int}:∀{us:List Value},Vals (ns.map V.int) us→IntsAre us ns:=by
  induction ns with
  | nil=>intro us r;rw [List.map_nil] at r;cases r;exact .nil
  | cons n ns ih=>
    intro us r
    rw [List.map_cons] at r
    cases r with
    | cons r1 r2=>
      obtain⟨t,e⟩:=r1
      subst e
      exact .cons n t (ih r2)
section
variable {X:Cx} {e:Expr} {te:TE} {lo hi:Option Expr} {tl th:TO} {pos p2:Pos}
theorem po_none:PO X none tNoPart:=by
  intro pins s σ H Q I h
  rw [evalPart_none]
  exact wpAny_pure ⟨none,H,I,.none,h⟩
theorem po_some (h:PE X e te):PO X (some e) (tPart te):=by
  intro pins s σ H Q I hw
  rw [evalPart_some]
  refine thn (h pins s σ H _ I hw) fun u s1 ⟨x,H1,I1,r1,q1⟩=>?_
  obtain⟨i,rfl,q⟩:=q1
  obtain⟨t,rfl⟩:=r1
  exact⟨some i,H1,I1,.int i t,q⟩
def SlR (X:Cx) (r:V→Option Int→Option Int→Hp→VK→Prop):Prop:=
  ∀ (pins:List (Addr×Obj)) (s:Shared) (σ:St) (H:Hp) (x:V) (v vl vu:Value) (lo hi:Option Int) (sl:Addr) (Q:VK),Inv X pins σ H s→RelV x v→s.heap.IsSliceOf sl vl vu .none→IsPart vl lo→IsPart vu hi→r x lo hi H Q→
    ∃T id,typeLookup (.type T) "__getitem__" = pure (some (.builtin id))∧s.TypeIs v T∧wpAny (model X.prog X.w) X.A (getItem v (.ref sl)) (EP X pins σ Q) X.xe s
def tSl (r:V→Option Int→Option Int→Hp→VK→Prop) (te:TE) (tl th:TO):TE:=fun σ H Q=>te σ H fun x H1=>tl σ H1 fun l H2=>th σ H2 fun u H3=>r x l u H3 Q
theorem pe_slice {r:V→Option Int→Option Int→Hp→VK→Prop} (hr:SlR X r) (he:PE X e te) (hl:PO X lo tl) (hu:PO X hi th):PE X (.Subscript e (.Slice lo hi none p2) pos) (tSl r te tl th):=by
  intro pins s σ H Q I h
  refine Subscript_ (thn (he pins s σ H _ I h) fun v s1 ⟨x,H1,I1,r1,q1⟩=>?_)
  refine wpAny_Slice (thn (hl pins s1 σ H1 _ I1 q1) fun vl s2 ⟨l,H2,I2,pl,q2⟩=>thn (hu pins s2 σ H2 _ I2 q2) fun vu s3 ⟨u,H3,I3,pu,q3⟩=>?_)
  rw [evalPart_none]
  refine wpAny_pure ?_
  have I4:Inv X pins σ H3 { s3 with heap:=s3.heap.push { cls:= .type "slice",data:= .fields #[vl,vu,.none] } }:=I3.kept (t':=s3.toks) fun b ob q=>Heap.get?_push_of_some _ q
  obtain⟨T,id,hT,ht,hg⟩:=hr pins { s3 with heap:=s3.heap.push { cls:= .type "slice",data:= .fields #[vl,vu,.none] } } σ H3 x v vl vu l u s3.heap.objs.size Q I4 r1 (Heap.IsSliceOf.new ..) pl pu q3
  show wpAny (model X.prog X.w) X.A (subscriptTail e (.Slice lo hi none p2) v (.ref s3.heap.objs.size)) (EP X pins σ Q) X.xe { s3 with heap:=s3.heap.push { cls:= .type "slice",data:= .fields #[vl,vu,.none] } }
  exact tail_any (ops:=[.ref s3.heap.objs.size,v]) ht hT hg (by with_unfolding_all rfl)
def cutV (xs:List V) (lo hi:Option Int):List V:=(xs.drop (HT.sIx xs.length 0 lo)).take (HT.sIx xs.length xs.length hi - HT.sIx xs.length 0 lo)
theorem cutV_length (xs:List V) (lo hi:Option Int):(cutV xs lo hi).length≤xs.length:=by
  unfold cutV
  rw [List.length_take,List.length_drop]
  omega
def rSlT (K:PySem.W.Frag):V→Option Int→Option Int→Hp→VK→Prop:=fun x lo hi H Q=>∃a xs,x = .ref a∧SqT K H a xs∧
  ¬ (HT.sIx xs.length 0 lo = 0∧HT.sIx xs.length xs.length hi = xs.length)∧∀p,H p = none→Q (.ref p) (upd H p (.tup (cutV xs lo hi)))
def rLtT (K:PySem.W.Frag):R2:=fun x y H Q=>∃a b ns ms,x = .ref a∧y = .ref b∧SqT K H a (ns.map V.int)∧SqT K H b (ms.map V.int)∧Q (.bl (HT.lexLt ns ms)) H
def rCatT (K:PySem.W.Frag):R2:=fun x y H Q=>∃a b xs ys,x = .ref a∧y = .ref b∧SqT K H a xs∧SqT K H b ys∧xs≠ []∧xs.length + ys.length≤sizeLine∧
  (ys = []→Q (.ref a) H)∧(ys≠ []→∀p,H p = none→Q (.ref p) (upd H p (.tup (xs ++ ys))))
end
end L2
namespace L2
open PySem PySem.Spec PyProof.Rows
def ixN (n:Nat) (i:Int):Option Nat:=if 0≤i then (if i < n then some i.toNat else none) else if -(n:Int)≤i then some (i + n).toNat else none
def atI {α:Type} (xs:List α) (i:Int):Option α:=(ixN xs.length i).bind fun j=>xs[j]?
theorem ixN_seq {n:Nat} {i:Int} {j:Nat} (h:ixN n i = some j):seqIndex? i n = some j∧j < n∧ -(n:Int)≤i∧i < n:=by
  unfold ixN at h
  by_cases h0:0≤i
  · rw [if_pos h0] at h
    by_cases h1:i < n
    · rw [if_pos h1] at h
      have e:i.toNat = j:=Option.some.inj h
      exact⟨by rw [seqIndex_of h0 h1,e],by omega,by omega,h1⟩
    · rw [if_neg h1] at h;cases h
  · rw [if_neg h0] at h
    by_cases h1: -(n:Int)≤i
    · rw [if_pos h1] at h
      have e:(i + n).toNat = j:=Option.some.inj h
      exact⟨by rw [seqIndex_neg (by omega) h1,e],by omega,h1,by omega⟩
    · rw [if_neg h1] at h;cases h
theorem atI_get {α:Type} {xs:List α} {i:Int} {v:α} (h:atI xs i = some v):∃j,seqIndex? i xs.length = some j∧xs[j]? = some v∧j < xs.length∧ -(xs.length:Int)≤i∧i < xs.length:=by
  unfold atI at h
  cases e:ixN xs.length i with
  | none=>rw [e] at h;cases h
  | some j=>
    rw [e] at h
    obtain⟨h1,h2,h3,h4⟩:=ixN_seq e
    exact⟨j,h1,h,h2,h3,h4⟩
theorem atI_nat {α:Type} {xs:List α} {j:Nat} {v:α} (h:xs[j]? = some v):atI xs (j:Int) = some v:=by
  have hj:j < xs.length:=(List.getElem?_eq_some_iff.mp h).1
  have e:ixN xs.length (j:Int) = some j:=by
    unfold ixN
    rw [if_pos (by omega),if_pos (by omega)];simp
  unfold atI;rw [e];exact h
def PlainIx (b:Expr):Prop:=∀o i,subscripted b false o i = operate [o,i] (getItem o i)
def IxR (X:Cx) (r:R2):Prop:=
  ∀ (value slice:Expr) (pins:List (Addr×Obj)) (s:Shared) (σ:St) (H:Hp) (x y:V) (v u:Value) (Q:VK),Inv X pins σ H s→RelV x v→RelV y u→r x y H Q→
    subscripted slice false v u = operate [v,u] (getItem v u)→wpAny (model X.prog X.w) X.A (subscriptTail value slice v u) (EP X pins σ Q) X.xe s
def MtR (X:Cx) (id:String) (r:V→List V→Hp→VK→Prop):Prop:=
  ∀ (pins:List (Addr×Obj)) (s:Shared) (σ:St) (H:Hp) (x:V) (xs:List V) (v:Value) (us:List Value) (Q:VK),Inv X pins σ H s→RelV x v→Vals xs us→r x xs H Q→
    wpAny (model X.prog X.w) X.A (call (.builtin id) (v :: us)) (EP X pins σ Q) X.xe s
section
variable {X:Cx} {a b:Expr} {ta tb:TE} {pos:Pos}
theorem pe_ix {r:R2} (hr:IxR X r) (ha:PE X a ta) (hb:PE X b tb) (hs:PlainIx b):PE X (.Subscript a b pos) (tOp r ta tb):=by
  intro pins s σ H Q I h
  exact Subscript_ (binT ha hb I h fun v u s2 x y H2 I2 rx ry q=>hr a b pins s2 σ H2 x y v u Q I2 rx ry q (hs _ _))
def rIxL (K:PySem.W.Frag):R2:=fun x y H Q=>∃p xs i v,x = .ref p∧y = .int i∧SqL K H p xs∧atI xs i = some v∧Q v H
def rIxT (K:PySem.W.Frag):R2:=fun x y H Q=>∃p xs i v,x = .ref p∧y = .int i∧SqT K H p xs∧atI xs i = some v∧Q v H
def rIxS:R2:=fun x y H Q=>∃z i c,x = .str z∧y = .int i∧z.length≤sizeLine∧atI z.cps.toList i = some c∧Q (.str ⟨#[c]⟩) H
theorem ix_list:IxR X (rIxL X.K):=by
  intro value slice pins s σ H x y v u Q I rx ry h hs
  obtain⟨p,xs,i,z,rfl,rfl,hq,he,q⟩:=h
  cases rx
  obtain⟨t,rfl⟩:=ry
  obtain⟨its,r,pl,hz⟩:=I.list hq
  obtain⟨j,h1,h2,h3,h4,h5⟩:=atI_get he
  obtain⟨w,ew,rw'⟩:=r.get h2
  have hl:=r.length
  have hn:=line63
  have fin:EP X pins σ Q w s:=⟨z,H,I,rw',q⟩
  by_cases h0:0≤i
  · have hj:i.toNat = j:=by
      rw [seqIndex_of h0 h5] at h1
      exact Option.some.inj h1
    exact item_listR pl.isList h0 (by omega) (by rw [hj];simpa using ew) fin hs
  · have hj:(i + (its.toArray.size:Int)).toNat = j:=by
      rw [seqIndex_neg (by omega) h4] at h1
      rw [List.size_toArray,←hl]
      exact Option.some.inj h1
    exact subscriptTail_builtinR (x:=w) pl.isList.typeIs slot_list_getitem.lookup
      (wpAny_getItem_list_neg (Q:=fun r s'=>r = w∧EP X pins σ Q r s') pl.isList (by omega) (by rw [List.size_toArray] <;> omega) (by omega) (by rw [hj];simpa using ew) ⟨rfl,fin⟩) hs
theorem ix_tup:IxR X (rIxT X.K):=by
  intro value slice pins s σ H x y v u Q I rx ry h hs
  obtain⟨p,xs,i,z,rfl,rfl,hq,he,q⟩:=h
  cases rx
  obtain⟨t,rfl⟩:=ry
  obtain⟨its,r,pl,hz⟩:=I.tuple hq
  obtain⟨j,h1,h2,h3,h4,h5⟩:=atI_get he
  obtain⟨w,ew,rw'⟩:=r.get h2
  have hl:=r.length
  have hn:=line63
  have fin:EP X pins σ Q w s:=⟨z,H,I,rw',q⟩
  exact subscriptTail_builtinR (x:=w) pl.typeIs slot_tuple_getitem.lookup
    (getItem_tuple (j:=j) (Q:=fun r s'=>r = w∧EP X pins σ Q r s') pl (by omega) (by omega) (by rw [List.size_toArray,←hl];exact h1) (by simpa using ew) ⟨rfl,fin⟩) hs
theorem ix_str:IxR X rIxS:=by
  intro value slice pins s σ H x y v u Q I rx ry h hs
  obtain⟨z,i,c,rfl,rfl,hz,he,q⟩:=h
  obtain⟨t,rfl⟩:=rx
  obtain⟨t',rfl⟩:=ry
  obtain⟨j,h1,h2,h3,h4,h5⟩:=atI_get he
  have hl:z.cps.toList.length = z.length:=by simp [Str.length]
  rw [hl] at h1 h4 h5
  have hn:=line63
  exact tail_any (typeIs_str s z t) slot_str_getitem.lookup (getItem_str (c:=c) (by
    have e1:decide (i < -(2 ^ 63:Int)) = false:=decide_eq_false (by omega)
    have e2:decide (i≥2 ^ 63) = false:=decide_eq_false (by omega)
    rw [e1,e2,Bool.or_false]) (by rw [h1];simpa using h2) ⟨.str ⟨#[c]⟩,H,I.tok _,⟨_,rfl⟩,q⟩) hs
def rIx (K:PySem.W.Frag):R2:=fun x y H Q=>rIxL K x y H Q∨rIxT K x y H Q∨rIxS x y H Q
def rSetL:V→V→V→Hp→(Hp→Prop)→Prop:=fun o i v H Q=>∃p xs k j,o = .ref p∧i = .int k∧H p = some (.lst xs)∧ixN xs.length k = some j∧Q (upd H p (.lst (xs.set j v)))
theorem slice_bounds (lo hi:Option Int) (n:Nat):(sliceBounds lo hi none n).1 = ((HT.sIx n 0 lo:Nat):Int)∧(sliceBounds lo hi none n).2.1 = ((HT.sIx n n hi:Nat):Int)∧(sliceBounds lo hi none n).2.2 = 1:=by
  refine⟨?_,?_,rfl⟩
  · cases lo with
    | none=>simp [sliceBounds,HT.sIx]
    | some i=>
      simp only [sliceBounds,HT.sIx,Option.getD_none,show (1:Int) > 0 by decide,if_true]
      by_cases h:i < 0
      · simp only [h,if_true] <;> omega
      · simp only [h,if_false] <;> omega
  · cases hi with
    | none=>simp [sliceBounds,HT.sIx]
    | some i=>
      simp only [sliceBounds,HT.sIx,Option.getD_none,show (1:Int) > 0 by decide,if_true]
      by_cases h:i < 0
      · simp only [h,if_true] <;> omega
      · simp only [h,if_false] <;> omega
theorem slicePick_cut (its:List Value) (lo hi:Option Int):slicePick its.toArray lo hi none = ((its.drop (HT.sIx its.length 0 lo)).take (HT.sIx its.length its.length hi - HT.sIx its.length 0 lo)).toArray:=by
  obtain⟨h1,h2,h3⟩:=slice_bounds lo hi its.toArray.size
  unfold slicePick
  rw [h1,h2,h3]
  simp only [sliceRange_one,pick_run,List.size_toArray] <;> rfl
def rSlL (K:PySem.W.Frag):V→Option Int→Option Int→Hp→VK→Prop:=fun x lo hi H Q=>∃a xs,x = .ref a∧SqL K H a xs∧∀p,H p = none→Q (.ref p) (upd H p (.lst (cutV xs lo hi)))
theorem sl_list:SlR X (rSlL X.K):=by
  intro pins s σ H x v vl vu lo hi sl Q I rx hs pl pu h
  obtain⟨a,xs,rfl,hx,q⟩:=h
  cases rx
  obtain⟨its,r,ht,hz⟩:=I.list hx
  have hlen:=r.length
  refine⟨"list",_,slot_list_getitem.lookup,ht.isList.typeIs,?_⟩
  refine wpAny_getItem_list_slice ht.isList hs pl pu .none (by simp) ?_ (by rw [List.size_toArray] <;> omega)
  rw [slicePick_cut,←hlen]
  refine⟨.ref s.heap.objs.size,_,I.laid (t':=s.toks) (o:= .lst (cutV xs lo hi)) (fun b ob q=>Heap.get?_push_of_some _ q) (Nat.le_refl _) ?_,rfl,q _ (I.hok.fresh (Nat.le_refl _))⟩
  exact⟨Nat.le_trans (cutV_length xs lo hi) hz,_,0,(r.drop (HT.sIx xs.length 0 lo)).take (HT.sIx xs.length xs.length hi - HT.sIx xs.length 0 lo),Heap.get?_push_size _ rfl⟩
def flatV:V→Bool
  | .non=>true
  | .bl _=>true
  | .int _=>true
  | .str _=>true
  | _=>false
def eqV:V→V→Bool
  | .non,.non=>true
  | .bl a,.bl b=>a == b
  | .bl a,.int b=>(if a then 1 else 0) == b
  | .int a,.bl b=>a == (if b then 1 else 0)
  | .int a,.int b=>a == b
  | .str a,.str b=>a == b
  | _,_=>false
def eqU (x:V) (u:Value):Bool:=match u with
  | .none=>eqV .non x
  | .bool b=>eqV (.bl b) x
  | .int i _=>eqV (.int i) x
  | .str z _=>eqV (.str z) x
  | _=>false
def inV (x:V) (xs:List V):Bool:=xs.any fun y=>eqV y x
def rIn (K:PySem.W.Frag) (neg:Bool):R2:=fun x y H Q=>∃p xs,y = .ref p∧(SqL K H p xs∨SqT K H p xs)∧flatV x = true∧xs.all flatV = true∧Q (.bl (if neg then !inV x xs else inV x xs)) H
theorem call_len_seq:CallR X (.builtin "len") (fun xs H Q=>∃p ys,xs = [.ref p]∧(SqL X.K H p ys∨SqT X.K H p ys)∧Q (.int ys.length) H):=by
  intro pins s σ H xs us Q I r h
  obtain⟨p,ys,rfl,hq,q⟩:=h
  obtain⟨u,rfl,rx⟩:=vals1 r
  cases rx
  have hn:=line63
  rcases hq with hq | hq
  · obtain⟨its,r',pl,hz⟩:=I.list hq
    have hlen:=r'.length
    exact Calls.call_len_list pl.isList (by simp only [List.size_toArray] <;> omega) ⟨.int ys.length,H,I.tok _,⟨s.toks + 1,by rw [List.size_toArray,hlen]⟩,q⟩
  · obtain⟨its,r',pl,hz⟩:=I.tuple hq
    have hlen:=r'.length
    exact len_tuple pl (by simp only [List.size_toArray] <;> omega) ⟨.int ys.length,H,I.tok _,⟨s.toks + 1,by rw [List.size_toArray,hlen]⟩,q⟩
theorem call_len_str:CallR X (.builtin "len") (fun xs H Q=>∃z,xs = [.str z]∧z.length≤sizeLine∧Q (.int z.length) H):=by
  intro pins s σ H xs us Q I r h
  obtain⟨z,rfl,hz,q⟩:=h
  obtain⟨u,rfl,t,rfl⟩:=vals1 r
  have hn:=line63
  exact len_str (by omega) ⟨.int z.length,H,I.tok _,⟨_,rfl⟩,q⟩
theorem call_list_of:CallR X (.type "list") (fun xs H Q=>∃p ys,xs = [.ref p]∧(SqL X.K H p ys∨SqT X.K H p ys)∧∀l,H l = none→Q (.ref l) (upd H l (.lst ys))):=by
  intro pins s σ H xs us Q I r h
  obtain⟨p,ys,rfl,hq,q⟩:=h
  obtain⟨u,rfl,rx⟩:=vals1 r
  cases rx
  have fin:∀(its:List Value),Vals ys its→ys.length≤sizeLine→∀(h':Heap) (c':Nat),(∀b o',s.heap.get? b = some o'→h'.get? b = some o')→
      h'.get? s.heap.objs.size = some { cls:= .type "list",dict:=none,data:= .seq its.toArray c',slots:=#[] }→EP X pins σ Q (.ref s.heap.objs.size) { s with heap:=h' }:=fun its r' hz h' c' kp e=>
    ⟨.ref s.heap.objs.size,_,I.laid (t':=s.toks) kp (Nat.le_refl _) (show ObjOk X.prog X.w _ h' _ (.lst ys) from ⟨hz,its,c',r',e⟩),rfl,q _ (I.hok.fresh (Nat.le_refl _))⟩
  rcases hq with hq | hq
  · obtain⟨its,r',pl,hz⟩:=I.list hq
    have hlen:=r'.length
    obtain⟨o,ho,hc,n,hd⟩:=pl.isList
    exact call_list_seq p (.inl rfl) ho hc hd (fun h' c' kp e=>fin its r' hz h' c' kp e) (by simp only [List.size_toArray] <;> omega)
  · obtain⟨its,r',pl,hz⟩:=I.tuple hq
    have hlen:=r'.length
    obtain⟨o,ho,hc,n,hd⟩:=pl
    exact call_list_seq p (.inr rfl) ho hc hd (fun h' c' kp e=>fin its r' hz h' c' kp e) (by simp only [List.size_toArray] <;> omega)
def tyV (K:PySem.W.Frag) (T:String) (x:V) (H:Hp):Prop:=match x with
  | .str _=>T = "str"
  | .int _=>T = "int"
  | .ref p=>(T = "list"∧∃xs,SqL K H p xs)∨(T = "tuple"∧∃o,K.lookup p = some o∧o.cls = .type "tuple"∧o.dict = none)∨
      (T = "dict"∧((∃kvs,H p = some (.dK kvs))∨∃kvs,H p = some (.dT kvs)))∨(T = "set"∧∃S n,H p = some (.set S n))
  | _=>False
theorem tyV_is {pins:List (Addr×Obj)} {σ:St} {H:Hp} {s:Shared} {T:String} {x:V} {v:Value} (I:Inv X pins σ H s) (r:RelV x v) (ty:tyV X.K T x H) :
    s.TypeIs v T∧∀a,v = .ref a→∃ob,s.heap.get? a = some ob∧ob.dict = none:=by
  cases x with
  | str z=>
    obtain⟨t,rfl⟩:=r
    cases (show T = "str" from ty)
    exact⟨typeIs_str s z t,fun _ e=>nomatch e⟩
  | int i=>
    obtain⟨t,rfl⟩:=r
    cases (show T = "int" from ty)
    exact⟨typeIs_int s i t,fun _ e=>nomatch e⟩
  | ref p =>
    cases r
    rcases ty with ⟨rfl,xs,hq⟩ | ⟨rfl,o,hk,hc,hd⟩ | ⟨rfl,hk⟩ | ⟨rfl,S,n,hk⟩
    · obtain⟨its,_,pl,_⟩:=I.list hq
      refine⟨pl.isList.typeIs,fun a e=>?_⟩
      cases e
      obtain⟨o,n,e,c,hd,_⟩:=pl
      exact⟨o,e,hd⟩
    · refine⟨⟨o,I.kIn p o hk,hc⟩,fun a e=>?_⟩
      cases e
      exact⟨o,I.kIn _ o hk,hd⟩
    · have z:∃o,s.heap.get? p = some o∧o.ExactDict:=by
        rcases hk with ⟨kvs,hk⟩ | ⟨kvs,hk⟩
        · obtain⟨_,_,_,_,o,_,_,e,ex,_⟩:=I.hok p _ hk
          exact⟨o,e,ex⟩
        · obtain⟨_,_,_,_,o,_,_,e,ex,_⟩:=I.hok p _ hk
          exact⟨o,e,ex⟩
      obtain⟨o,e,ex⟩:=z
      refine⟨⟨o,e,ex.1⟩,fun a e2=>?_⟩
      cases e2
      exact⟨o,e,ex.2.1⟩
    · obtain⟨o,_,_,_,e,ex,_⟩:=I.hok p _ hk
      refine⟨⟨o,e,ex.1⟩,fun a e2=>?_⟩
      cases e2
      exact⟨o,e,ex.2.1⟩
  | _=>exact False.elim ty
def tBM0 (K:PySem.W.Frag) (T:String) (r:V→List V→Hp→VK→Prop) (to:TE):TE:=fun σ H Q=>to σ H fun x H1=>tyV K T x H1∧r x [] H1 Q
def tBM (K:PySem.W.Frag) (T:String) (r:V→List V→Hp→VK→Prop) (to:TE) (t:TA):TE:=fun σ H Q=>to σ H fun x H1=>tyV K T x H1∧t σ H1 fun xs H2=>r x xs H2 Q
variable {o e:Expr} {es:List Expr} {to:TE} {t:TA} {name:Str} {apos cpos:Pos} {T id:String} {r:V→List V→Hp→VK→Prop}
theorem pe_bm0 (pa:PlainAttrs T) (slot:Slot T name id) (hty:typeOf (.builtin id) = pure (.type "method_descriptor")) (hm:MtR X id r) (ho:PE X o to)
    (hbase:attributeBase o name X.env (eval o X.env) = eval o X.env:=by rfl) (hline:(apos.endLine == cpos.line) = true:=by rfl):PE X (.Call (.Attribute o name apos) [] [] cpos) (tBM0 X.K T r to):=by
  intro pins s σ H Q I h
  refine wpAny_Call_method0_late hbase hline (thn (ho pins s σ H _ I h) fun v s1 ⟨x,H1,I1,r1,ty,q1⟩=>?_)
  obtain⟨h1,h2⟩:=tyV_is I1 r1 ty
  exact⟨T,id,pa,slot,hty,h1,h2,Calls.callWith_builtin rfl (PySem.evalArgs_none (hm pins s1 σ H1 x [] v [] Q I1 r1 .nil q1))⟩
theorem pe_bm (pa:PlainAttrs T) (slot:Slot T name id) (hty:typeOf (.builtin id) = pure (.type "method_descriptor")) (hm:MtR X id r) (ho:PE X o to) (ha:PA X (e :: es) t)
    (hbase:attributeBase o name X.env (eval o X.env) = eval o X.env:=by rfl)
    (hfew:((backTo cpos (starEach (e :: es) X.env)).all (fun x=>!x.1) && (backToKw cpos (keywordEach [] X.env)).all (fun x=>x.1.isSome)
      && decide ((e :: es).length + ([]:List Keyword).length + (if ([]:List Keyword).isEmpty then 0 else 1) < 30)) = true:=by rfl)
    (hline:(apos.endLine == cpos.line) = true:=by rfl) (hs:starEach (e :: es) X.env = (false,eval e X.env) :: starEach es X.env:=by rfl) (hplain:(backTo cpos (starEach es X.env)).any (·.1) = false:=by rfl) :
    PE X (.Call (.Attribute o name apos) (e :: es) [] cpos) (tBM X.K T r to t):=by
  intro pins s σ H Q I h
  refine wpAny_Call_method_late hbase hfew hline rfl (thn (ho pins s σ H _ I h) fun v s1 ⟨x,H1,I1,r1,ty,q1⟩=>?_)
  obtain⟨h1,h2⟩:=tyV_is I1 r1 ty
  refine⟨T,id,pa,slot,hty,h1,h2,?_⟩
  have hA:=ha cpos pins s1 σ H1 _ I1 q1
  rw [hs] at hA ⊢
  refine Calls.callWith_builtin (by show (false || (backTo cpos (starEach es X.env)).any (·.1)) = false;rw [hplain] <;> rfl) (Calls.evalArgs_plain ?_)
  exact thn hA fun us s2 ⟨vs,H2,I2,r2,q2⟩=>hm pins s2 σ H2 x vs v us Q I2 r1 r2 q2
end
end L2
namespace L2
open PySem PySem.Spec PyProof.Rows
def MtM (X:Cx) (id:String) (r:V→List V→Hp→VK→Prop):Prop:=
  ∀ (pins:List (Addr×Obj)) (s:Shared) (σ:St) (H:Hp) (x:V) (xs:List V) (v:Value) (us:List Value) (Q:VK),Inv X pins σ H s→RelV x v→Vals xs us→r x xs H Q→
    wpAny (model X.prog X.w) X.A (call (.builtin id) (v :: us)) (EP X pins σ Q) X.xe s
theorem Vals.one:∀{x:V} {us:List Value},Vals [x] us→∃u,us = [u]∧RelV x u
  | _,_,.cons r .nil=>⟨_,rfl,r⟩
theorem Vals.two:∀{x y:V} {us:List Value},Vals [x,y] us→∃u v,us = [u,v]∧RelV x u∧RelV y v
  | _,_,_,.cons r (.cons q .nil)=>⟨_,_,rfl,r,q⟩
theorem Vals.zero:∀{us:List Value},Vals [] us→us = []
  | _,.nil=>rfl
theorem Vals.dropLast {xs:List V} {us:List Value} (h:Vals xs us):Vals xs.dropLast us.dropLast:=by
  induction h with
  | nil=>exact .nil
  | cons r t ih=>
    cases t with
    | nil=>exact .nil
    | cons q t'=>exact .cons r ih
theorem Vals.rep {xs:List V} {us:List Value} (h:Vals xs us):∀k:Nat,Vals (List.replicate k xs).flatten (List.replicate k us).flatten
  | 0=> .nil
  | k + 1=>by
    rw [List.replicate_succ,List.replicate_succ,List.flatten_cons,List.flatten_cons]
    exact Vals.append h (Vals.rep h k)
theorem erase_last {α:Type} (l:List α):l.eraseIdx (l.length - 1) = l.dropLast:=by
  induction l with
  | nil=>rfl
  | cons a r ih=>
    cases r with
    | nil=>rfl
    | cons b r=>
      have e:(a :: b :: r).length - 1 = ((b :: r).length - 1) + 1:=by
        have h1:(a :: b :: r).length = r.length + 2:=rfl
        have h2:(b :: r).length = r.length + 1:=rfl
        omega
      rw [e,List.eraseIdx_cons_succ,ih]
      all_goals rfl
theorem foldl_rep (its:List Value):∀(k:Nat) (acc:List Value),
    List.foldl (fun x1 x2=>x1 ++ x2) acc.toArray (List.replicate k its.toArray) = (acc ++ (List.replicate k its).flatten).toArray
  | 0,acc=>by simp
  | k + 1,acc=>by
    have e:acc.toArray ++ its.toArray = (acc ++ its).toArray:=by simp
    have e2:(acc ++ its) ++ (List.replicate k its).flatten = acc ++ (List.replicate (k + 1) its).flatten:=by
      rw [List.replicate_succ,List.flatten_cons,List.append_assoc]
    rw [←e2,←foldl_rep its k (acc ++ its),←e,List.replicate_succ,List.foldl_cons]
section
variable {X:Cx} {pins:List (Addr×Obj)} {σ:St} {H:Hp} {s:Shared} {l b:Addr} {xs ys zs:List V}
theorem Inv.lset {its its':List Value} {n:Nat} {f:Array Value→Array Value} {t':Nat} (I:Inv X pins σ H s) (hH:H l = some (.lst xs))
    (e:s.heap.get? l = some { cls:= .type "list",data:= .seq its.toArray n }) (hf:f its.toArray = its'.toArray) (hv:Vals ys its') (hz:ys.length≤sizeLine) :
    Inv X pins σ (upd H l (.lst ys)) { s with heap:=s.heap.update l (Obj.mapSeq f),toks:=t' }:=by
  have q:=PySem.IsL.update e f
  rw [hf] at q
  refine I.write (x:=l) (e:=l) (by rw [hH];exact trivial) (.inl rfl) (fun b' u hb hu=>(Heap.get?_update_other s.heap (Obj.mapSeq f) (Ne.symm hb)).trans hu) ⟨_,q⟩ ?_
  exact⟨hz,its',_,hv,q⟩
theorem Inv.lnew {its:List Value} {t':Nat} (I:Inv X pins σ H s) (hv:Vals ys its) (hz:ys.length≤sizeLine) :
    Inv X pins σ (upd H s.heap.objs.size (.lst ys)) { s with heap:=s.heap.push { cls:= .type "list",data:= .seq its.toArray },toks:=t' }:=
  I.laid (fun _ _ q=>Heap.get?_push_of_some _ q) (Nat.le_refl _) ⟨hz,its,0,hv,Heap.get?_push_size _ rfl⟩
theorem Inv.fresh (I:Inv X pins σ H s):H s.heap.objs.size = none:=I.hok.fresh (Nat.le_refl _)
theorem Inv.lstM (I:Inv X pins σ H s) (hH:H l = some (.lst xs)):xs.length≤sizeLine∧∃(its:List Value) (n:Nat),Vals xs its∧xs.length = its.length∧s.heap.get? l = some { cls:= .type "list",data:= .seq its.toArray n }:=by
  obtain⟨z,its,n,r,e⟩:=I.hok l _ hH
  exact⟨z,its,n,r,r.length,e⟩
theorem notLongL {n:Nat} (h:n≤sizeLine):Builtin.List.listTooLong n = false:=by
  unfold Builtin.List.listTooLong
  exact decide_eq_false (by omega)
end
section
variable {X:Cx}
def rAppend:V→List V→Hp→VK→Prop:=fun x vs H Q=>∃l xs y,x = .ref l∧vs = [y]∧H l = some (.lst xs)∧xs.length < sizeLine∧Q .non (upd H l (.lst (xs ++ [y])))
theorem mt_append:MtM X "list.append" rAppend:=by
  intro pins s σ H x vs v us Q I rx rv h
  obtain⟨l,xs,y,rfl,rfl,hH,hz,q⟩:=h
  cases rx
  obtain⟨u,rfl,ru⟩:=rv.one
  obtain⟨z,its,n,r,hl,e⟩:=I.lstM hH
  refine call_meets F.slot_list_append ⟨_,e,rfl⟩ F.entry_list_append (F.args_list_append_2 _ _) (PySem.list_append l its.toArray n u (by rw [List.size_toArray];omega)) ⟨e,?_⟩
  refine⟨.non,_,I.lset (its':=its ++ [u]) hH e (by simp) (r.append (.cons ru .nil)) ?_,rfl,q⟩
  rw [List.length_append,List.length_singleton]
  omega
def rExtend:V→List V→Hp→VK→Prop:=fun x vs H Q=>∃l b xs zs,x = .ref l∧vs = [.ref b]∧H l = some (.lst xs)∧H b = some (.lst zs)∧xs.length + zs.length≤sizeLine∧Q .non (upd H l (.lst (xs ++ zs)))
theorem mt_extend:MtM X "list.extend" rExtend:=by
  intro pins s σ H x vs v us Q I rx rv h
  obtain⟨l,b,xs,zs,rfl,rfl,hH,hB,hz,q⟩:=h
  cases rx
  obtain⟨u,rfl,ru⟩:=rv.one
  cases ru
  obtain⟨z,its,n,r,hl,e⟩:=I.lstM hH
  obtain⟨z2,its2,n2,r2,hl2,e2⟩:=I.lstM hB
  have hsz:its.toArray.size + its2.toArray.size≤sizeLine:=by rw [List.size_toArray,List.size_toArray];omega
  have hlong:¬ (!its.toArray.isEmpty && Builtin.List.listTooLong (its.toArray.size + its2.toArray.size)) = true:=by
    rw [notLongL hsz,Bool.and_false]
    exact Bool.false_ne_true
  refine call_meets F.slot_list_extend ⟨_,e,rfl⟩ F.entry_list_extend (F.args_list_extend_2 _ _)
    (AutoSeq1.list_extend_list_list_0 l its.toArray n b its2.toArray n2 hlong (by rw [List.size_toArray];omega) (by omega)) ⟨e,e2,?_⟩
  refine⟨.non,_,I.lset (its':=its ++ its2) hH e (by simp) (r.append r2) ?_,rfl,q⟩
  rw [List.length_append]
  omega
def rPop:V→List V→Hp→VK→Prop:=fun x vs H Q=>∃l xs y,x = .ref l∧vs = []∧H l = some (.lst xs)∧xs[xs.length - 1]? = some y∧Q y (upd H l (.lst xs.dropLast))
theorem mt_pop:MtM X "list.pop" rPop:=by
  intro pins s σ H x vs v us Q I rx rv h
  obtain⟨l,xs,y,rfl,rfl,hH,hy,q⟩:=h
  cases rx
  have hus:=rv.zero
  subst hus
  obtain⟨z,its,n,r,hl,e⟩:=I.lstM hH
  obtain⟨u,hu,ru⟩:=r.get hy
  have hy':its.toArray[its.toArray.size - 1]? = some u:=by
    show its.toArray[its.length - 1]? = some u
    rw [←Array.getElem?_toList,←hl]
    exact hu
  refine call_meets F.slot_list_pop ⟨_,e,rfl⟩ F.entry_list_pop (F.args_list_pop_1 _) (MeetsSeq.list_pop_last l its.toArray n u hy' (by rw [List.size_toArray];omega)) ⟨e,?_⟩
  refine⟨y,_,I.lset (its':=its.dropLast) hH e ?_ r.dropLast ?_,ru,q⟩
  · show its.toArray.eraseIdxIfInBounds (its.toArray.size - 1) = its.dropLast.toArray
    rw [List.size_toArray,List.eraseIdxIfInBounds_toArray,erase_last]
  · rw [List.length_dropLast]
    omega
def rPopAt:V→List V→Hp→VK→Prop:=fun x vs H Q=>∃l xs i k y,x = .ref l∧vs = [.int i]∧H l = some (.lst xs)∧ -(2 ^ 63)≤i∧i < 2 ^ 63∧seqIndex? i xs.length = some k∧xs[k]? = some y∧Q y (upd H l (.lst (xs.eraseIdx k)))
def rReverse:V→List V→Hp→VK→Prop:=fun x vs H Q=>∃l xs,x = .ref l∧vs = []∧H l = some (.lst xs)∧Q .non (upd H l (.lst xs.reverse))
def rClear:V→List V→Hp→VK→Prop:=fun x vs H Q=>∃l xs,x = .ref l∧vs = []∧H l = some (.lst xs)∧Q .non (upd H l (.lst []))
theorem mt_clear:MtM X "list.clear" rClear:=by
  intro pins s σ H x vs v us Q I rx rv h
  obtain⟨l,xs,rfl,rfl,hH,q⟩:=h
  cases rx
  have hus:=rv.zero
  subst hus
  obtain⟨z,its,n,r,hl,e⟩:=I.lstM hH
  refine call_meets F.slot_list_clear ⟨_,e,rfl⟩ F.entry_list_clear (F.args_list_clear_1 _) (AutoSeq1.list_clear_list_0 l its.toArray n (by rw [List.size_toArray];omega)) ⟨e,?_⟩
  exact⟨.non,_,I.lset (its':=[]) (ys:=[]) hH e rfl .nil (Nat.zero_le _),rfl,q⟩
def rCat:R2:=fun x y H Q=>∃l b xs zs,x = .ref l∧y = .ref b∧H l = some (.lst xs)∧H b = some (.lst zs)∧xs.length + zs.length≤sizeLine∧∀p,H p = none→Q (.ref p) (upd H p (.lst (xs ++ zs)))
def rRep:R2:=fun x y H Q=>∃l k xs,x = .ref l∧y = .int k∧H l = some (.lst xs)∧ -(2 ^ 63)≤k∧k < 2 ^ 63∧xs.length * k.toNat≤sizeLine∧
  ∀p,H p = none→Q (.ref p) (upd H p (.lst (List.replicate k.toNat xs).flatten))
theorem len_rep {α:Type} (xs:List α) (k:Nat):(List.replicate k xs).flatten.length = k * xs.length:=by
  induction k with
  | zero=>simp
  | succ k ih=>rw [List.replicate_succ,List.flatten_cons,List.length_append,ih,Nat.succ_mul,Nat.add_comm]
theorem op_rep:OpR X (binaryOp .Mult) rRep:=by
  intro pins s σ H x y v u Q I rx ry h
  obtain⟨l,k,xs,rfl,rfl,hH,h1,h2,hz,q⟩:=h
  cases rx
  obtain⟨t,rfl⟩:=ry
  obtain⟨z,its,n,r,hl,e⟩:=I.lstM hH
  have hlen:its.toArray.size * k.toNat≤sizeLine:=by rw [List.size_toArray,←hl];exact hz
  have hcap:¬ its.toArray.size * k.toNat > (2 ^ 63 - 1) / 8:=by
    have:(sizeLine:Nat)≤(2 ^ 63 - 1) / 8:=by decide
    omega
  have hfit:¬ (!Builtin.List.listFitsIndex k) = true:=by
    rw [fitsIndex_both h1 h2]
    exact Bool.false_ne_true
  have hlong:¬ Builtin.List.listTooLong (its.toArray.size * k.toNat) = true:=by
    rw [notLongL hlen]
    exact Bool.false_ne_true
  have hnew:List.foldl (fun x1 x2=>x1 ++ x2) #[] (List.replicate (if its.toArray.isEmpty = true then 0 else k.toNat) its.toArray) = (List.replicate k.toNat its).flatten.toArray:=by
    have f0:∀m:Nat,List.foldl (fun x1 x2=>x1 ++ x2) #[] (List.replicate m its.toArray) = (List.replicate m its).flatten.toArray:=fun m=>by
      have:=foldl_rep its m []
      rw [List.nil_append] at this
      exact this
    rw [f0]
    cases its with
    | nil=>simp
    | cons a r'=>rw [if_neg (by simp)]
  refine wpAny_binaryOp_repeat_ref (T:="list") (U:="int") (by decide) ⟨_,e,rfl⟩ (fun s'=>typeIs_int s' k t) noFill_list_mul F.fills_int_mul F.slot_int_rmul repeat_list F.slot_int_index.lookup
    (call_meets F.slot_int_rmul (typeIs_int s k t) F.entry_int_rmul (F.args_int_rmul_2 _ _) (int___rmul___int_list k t l its.toArray n)
      ⟨e,rfl,⟨_,e,rfl⟩,call_meets F.slot_list_mul ⟨_,e,rfl⟩ F.entry_list_mul (F.args_list_mul_2 _ _) (AutoListH.list___mul___list_int_3 l its.toArray n k t hfit hcap hlong) ⟨e,?_⟩⟩)
  rw [hnew]
  exact⟨.ref _,_,I.lnew (t':=s.toks) (r.rep k.toNat) (by rw [len_rep,Nat.mul_comm];exact hz),rfl,q _ I.fresh⟩
end
section
variable {prog:Program} {w:World} {A:Around} {E:Value→Shared→Prop} {s:Shared}
end
section
variable {X:Cx}
end
end L2
namespace Att
open PySem PySem.W PySem.Calls PyProof.Rows
theorem ints_of_wellAll {P:Params} {h:Heap}:∀(ns:List Int) (vs:List Value),WellAll P h vs (ns.map WData.int)→IntsAre vs ns:=by
  intro ns
  induction ns with
  | nil=>
    intro vs w
    rw [List.map_nil] at w
    cases w
    exact .nil
  | cons n ns ih=>
    intro vs w
    rw [List.map_cons] at w
    cases w with
    | cons a b=>
      cases a
      exact .cons _ _ (ih _ b)
theorem script_of {l:OpenLaw} {n:Nat} (hn:l.most = some n) {P:Params} {h:Heap} {args:List WData} {vals:List Value}
    (hpre:l.row.toRowW.claim.pre args = true) (hwl:WellAll P h vals args) :
    ∃a vs ns,vals = [Value.ref a]∧args = [WData.list (ns.map WData.int)]∧h.get? a = some { cls:= .type "list",data:= .seq vs.toArray }∧IntsAre vs ns∧ns.length≤n:=by
  have hsh:WShape.hasAll [] args [.list .int] = true:=(pre_splitW hpre).1
  have hc:l.pre.holds [] { args:=args } = true:=(pre_splitW hpre).2
  obtain⟨d,r,rfl,h1,h2⟩:=hasAllW_cons hsh
  obtain rfl:=hasAllW_nil h2
  obtain⟨xs,rfl,h3⟩:=hasW_list h1
  obtain⟨ns,rfl⟩:=items_int h3
  have hlen:ns.length≤n:=by
    unfold OpenLaw.pre at hc
    have h4:(WTm.not (.lt (.lit (.int (n:Int))) (.len (.arg 0)))).holds [] { args:=[.list (ns.map .int)] } = true:=by
      have h4:=(holds_andW hc).1
      rw [hn] at h4
      exact h4
    have h5:=condW_of h4 (w_not (w_lt w_lit (w_len_list (w_arg rfl))))
    rw [List.length_map] at h5
    refine Nat.le_of_not_lt fun q=>?_
    have q':(n:Int) < ((ns.length:Nat):Int):=by omega
    first
      | (rw [decide_eq_true q'] at h5;exact absurd h5 (by decide))
      | (simp at h5;omega)
  cases hwl with
  | cons w1 w2=>
    cases w2
    cases w1 with
    | list ho hall=>exact⟨_,_,ns,rfl,rfl,ho,ints_of_wellAll ns _ hall,hlen⟩
theorem post_true (l:OpenLaw) (args:List WData):l.row.toRowW.claim.post args (.bool true) args = true:=
  postW_of (r:=l.row.toRowW) (X:=(true == true))
    (show WShape.has [] (.bool true) .bool = true by first | rfl | decide | simp [WShape.has,WShape.arms,WShape.armsAll])
    (show (WTm.eq .res (.lit (.bool true))).value [] { args:=args,res:=some (.bool true),after:=args } = some (.bool (true == true)) from w_eq_bool (w_res rfl) w_lit) rfl
theorem attach_call {l:OpenLaw} {n:Nat} {q:Program} {loose:List Str} {XP:(Str→Option Value)→Heap→Prop} {YP:World→Heap→Prop} {d:DefRec}
    (hn:l.most = some n) (hdf:d.params.defaults = [])
    (call:∀(w:World) (s₀ s₁:Shared) (mg mb:Str→Option Value) (fa:Addr) (o:Obj) (pm cd doc:Value) (a:Addr) (vs:List Value) (ns:List Int),
      Ground q loose [] XP w s₀ mg mb s₁.heap→YP w s₁.heap→
      s₁.heap.get? fa = some o→o.data = .func (docDef d.name d.params d.body d.scope pm cd doc)→s₁.heap.CodeRec cd d.name→mg d.name = some (.ref fa)→
      s₁.heap.get? a = some { cls:= .type "list",data:= .seq vs.toArray }→IntsAre vs ns→ns.length≤n→s₁.gens = #[]→
      codeAny (model l.prog w) callerA (.call (.ref fa) ⟨[.ref a], []⟩) (fun r s'=>r = .ok (.ret (.bool true))∧OldK s₁.heap s'.heap∧s'.os = s₁.os∧AllBare s'.gens) s₁) :
    WalkO q loose XP YP l.row.toRowW d [] (fun f vs=>PySem.call f vs):=by
  intro w s₀ s₁ mg mb G Y fa o pm cd doc dV kV ho hd hcd hD hmg hg args vals as hpre hlay hrd hwl hlo
  obtain rfl:dV = .none:=Dflts.none hD hdf
  obtain rfl:kV = .none:=Dflts.noKw hD
  obtain⟨a,vs,ns,rfl,rfl,hobj,hints,hlen⟩:=script_of hn hpre hwl
  refine enter_call (codeAny_mono (call w s₀ s₁ mg mb fa o pm cd doc a vs ns G Y ho (fd_plain hd) hcd hmg hobj hints hlen hg) fun r s' hq=>?_)
  obtain⟨rfl,h2,h3,h4⟩:=hq
  exact⟨.inl ⟨.bool true,.bool true, [],rfl,fun _=>rfl,.bool true,post_true l _,fun _=>⟨List.Pairwise.nil,fun _ hm=>(nomatch hm)⟩⟩,h2,h3,h4⟩
section
variable {prog:Program} {w:World} {A:Around} {E:Value→Shared→Prop} {s:Shared} {K:Frag}
def noObjs (h:Heap):Heap:={ h with objs:=#[] }
def ledger (h:Heap) (L d:Addr):List (Addr×Obj):=(List.range h.objs.size).filterMap fun a=>if a = L∨a = d then none else (h.get? a).map fun o=>(a,o)
end
end Att
namespace L2
open PySem PySem.Spec PyProof.Rows
theorem vals_ints:∀{vs:List Value} {ns:List Int},IntsAre vs ns→Vals (ns.map V.int) vs
  | _,_,.nil=> .nil
  | _,_,.cons n t h=> .cons ⟨t,rfl⟩ (vals_ints h)
def Only (H:Hp):Prop:=∀b,H b = none∨∃o xs,H b = some (.frz o (.lst xs))
theorem law_call {P:Program} {w:World} {K:PySem.W.Frag} {mg mb:Str→Option Value} {CX:CXT} {k:Nat} {fa a:Addr} {fd:FuncData} {x:Str} {sp:Sp} {s₁:Shared} {vs:List Value} {ns:List Int}
    (KX:K.In s₁.heap) (hns:s₁.heap.Ns mainGlobals mg) (hb:s₁.heap.Ns builtinsNs mb) (hbb:∀x:Str,x≠"__name__"→mb x = bootBuiltins x) (hlim:s₁.heap.NoLimit) (hg:s₁.gens = #[])
    (ha:s₁.heap.get? a = some { cls:= .type "list",data:= .seq vs.toArray }) (hi:IntsAre vs ns) (hl:ns.length≤sizeLine) (hr:Room k callerA)
    (F:∀base:Heap,K.In base→base.Ns mainGlobals mg→FnOk P w K mg base CX k fa fd [x] sp) (hbind:∀(s:Shared) (u:Value),BindsTo s fd ⟨[u], []⟩ [(x,u)])
    (hsp:∀H:Hp,Only H→SqL K H a (ns.map V.int)→sp [.ref a] H (fun v _=>v = .bl true) fun _ _ _=>False)
    (hCX:∀H e s',CX [] H s₁ (fun _ _ _=>False) e s'→False) :
    codeAny (model P w) callerA (.call (.ref fa) ⟨[.ref a], []⟩) (fun r s'=>r = .ok (.ret (.bool true))∧OldK s₁.heap s'.heap∧s'.os = s₁.os∧AllBare s'.gens) s₁:=by
  have rv:=vals_ints hi
  have lenV:=hi.length
  have core :∀H:Hp,Only H→SqL K H a (ns.map V.int)→HOk P w H s₁.heap→(∀b,H b≠none→b = a)→(H a≠none→K.lookup a = none)→
      codeAny (model P w) callerA (.call (.ref fa) ⟨[.ref a], []⟩) (fun r s'=>r = .ok (.ret (.bool true))∧OldK s₁.heap s'.heap∧s'.os = s₁.os∧AllBare s'.gens) s₁:=by
    intro H hO hS hok hA hK
    have base_of:∀{b:Addr} {o:Obj},s₁.heap.get? b = some o→H b = none→(hidT s₁.heap H).get? b = some o:=fun e n=>hidT_get e n
    have noA:∀{b:Addr} {o:Obj} {es:Array DictEntry} {ep:Nat},s₁.heap.get? b = some o→o.data = .dict es ep→H b = none:=fun {b o es ep} e d=>by
      cases q:H b with
      | none=>rfl
      | some u=>
        have e':b = a:=hA b (by rw [q];simp)
        subst e'
        rw [ha] at e;cases e
        have d':Data.seq vs.toArray _ = Data.dict es ep:=d
        cases d'
    have nsK:∀{b:Addr} {m:Str→Option Value},s₁.heap.Ns b m→(hidT s₁.heap H).Ns b m:=fun {b m} ⟨o,es,ep,e,d,r⟩=>⟨o,es,ep,base_of e (noA e d),d,r⟩
    have hKb:K.In (hidT s₁.heap H):=fun b o e=>base_of (KX b o e) (by
      cases q:H b with
      | none=>rfl
      | some u=>
        have e':b = a:=hA b (by rw [q];simp)
        subst e'
        rw [hK (by rw [q];simp)] at e;cases e)
    have hM:Mod K mg (hidT s₁.heap H):=⟨hKb,nsK hns,⟨mb,nsK hb,hbb⟩,let ⟨mc,h1,h2⟩:=hlim;⟨mc,nsK h1,h2⟩⟩
    have e0:Env0 P w K mg (hidT s₁.heap H) callerA [] s₁ H:=⟨rfl,hM,fun b o e=>of_hidT e,Nat.le_of_eq (hidT_size _ _),trivial,fun b hb=>absurd (show b∈([]:List Addr) from hb) (by simp),hok,.of_eq hg⟩
    refine codeAny_mono ((F _ hKb (nsK hns)).run callerA [] s₁ H ⟨[.ref a], []⟩ [.ref a] [.ref a] _ _ hr e0 (hbind s₁ (.ref a)) (.cons rfl .nil) (hsp H hO hS)) fun r s' h=>?_
    cases r with
    | error e=>exact(hCX H e s' h).elim
    | ok fl =>
      cases fl with
      | next=>exact False.elim h
      | brk=>exact False.elim h
      | cont=>exact False.elim h
      | ret u=>
        obtain⟨v,H',os,bare,un,hok',r',q⟩:=h
        have q':v = .bl true:=q
        subst q'
        obtain rfl:u = Value.bool true:=r'
        refine⟨rfl,OldK.of_keep fun b o e=>?_,os,bare⟩
        cases q:H b with
        | none=>exact un.keep b o e q (by intro z;exact absurd (show b∈([]:List Addr) from z) (by simp)) (by simp)
        | some u=>
          rcases hO b with z | ⟨ob,xs,z⟩
          · rw [q] at z;cases z
          · have z2:=un.frzs b ob _ z
            obtain⟨e1,_⟩:=hok b _ z
            obtain⟨e2,_⟩:=hok' b _ z2
            rw [e] at e1;cases e1
            exact e2
  cases hk:K.lookup a with
  | some o=>
    have e:=KX a o hk
    rw [ha] at e
    cases e
    refine core (fun _=>none) (fun _=> .inl rfl) (.inr ⟨_,vs.toArray,_,hk,rfl,rfl,rfl,by rw [List.size_toArray,lenV];exact hl,by simpa using rv⟩) (fun b u z=>by have z':(none:Option HO) = some u:=z;cases z') (fun b z=>absurd rfl z) fun z=>absurd rfl z
  | none =>
    refine core (fun b=>if b = a then some (.frz { cls:= .type "list",data:= .seq vs.toArray } (.lst (ns.map V.int))) else none) (fun b=>?_) (.inl (.inr ⟨{ cls:= .type "list",data:= .seq vs.toArray },if_pos rfl⟩)) (fun b u z=>?_) (fun b z=>?_) fun _=>hk
    · by_cases hb:b = a
      · exact .inr ⟨_,_,if_pos hb⟩
      · exact .inl (if_neg hb)
    · by_cases hb:b = a
      · have z':=(if_pos hb).symm.trans z
        cases z'
        subst hb
        exact⟨ha,by rw [List.length_map];exact hl,vs,_,rv,ha⟩
      · have z':=(if_neg hb).symm.trans z
        cases z'
    · by_cases hb:b = a
      · exact hb
      · exact absurd (if_neg hb) z
end L2
namespace L2
open PySem PySem.Spec PyProof.Rows
abbrev KOf {K:PySem.W.Frag} {h:Heap} (_:K.In h):PySem.W.Frag:=K
theorem walk_of {l:PySem.W.OpenLaw} {n k:Nat} {q:Program} {loose:List Str} {XP:(Str→Option Value)→Heap→Prop} {YP:World→Heap→Prop} {d:DefRec} {K:Params→PySem.W.Frag} {CX:World→CXT} {sp:World→Sp} {x:Str}
    (hn:l.most = some n) (hn2:n≤sizeLine) (hdf:d.params.defaults = []) (hr:Room k callerA)
    (hY:∀(w:World) (h:Heap),YP w h→(K w.params).In h)
    (F : ∀(w:World) (mg:Str→Option Value) (fa:Addr) (h:Heap),(K w.params).In h→h.Ns mainGlobals mg→mg d.name = some (.ref fa)→
      ∃ fd:FuncData,(∀(s:Shared) (u:Value),BindsTo s fd ⟨[u], []⟩ [(x,u)])∧
        ∀base:Heap,(K w.params).In base→base.Ns mainGlobals mg→FnOk l.prog w (K w.params) mg base (CX w) k fa fd [x] (sp w))
    (hsp:∀(w:World) (H:Hp) (a:Addr) (ns:List Int),ns.length≤n→Only H→SqL (K w.params) H a (ns.map V.int)→sp w [.ref a] H (fun v _=>v = .bl true) fun _ _ _=>False)
    (hCX:∀(w:World) (H:Hp) (s:Shared) (e:Value) (s':Shared),CX w [] H s (fun _ _ _=>False) e s'→False) :
    PySem.W.WalkO q loose XP YP l.row.toRowW d [] (fun f vs=>PySem.call f vs):=by
  refine Att.attach_call hn hdf fun w s₀ s₁ mg mb fa o pm cd doc a vs ns G Y ho hd hcd hmg hobj hints hlen hg=>?_
  have KX:=hY w _ Y
  obtain⟨fd,hb,hF⟩:=F w mg fa _ KX G.T.g hmg
  exact law_call KX G.T.g G.T.b G.T.builtins G.T.nolimit hg hobj hints (Nat.le_trans hlen hn2) hr hF hb (fun H hO hS=>hsp w H a ns hlen hO hS) fun H e s'=>hCX w H s₁ e s'
end L2
namespace L2
open PySem PySem.Spec PyProof.Rows
def inClass (s:Stmt) (j:Nat):Stmt:=match s with
  | .ClassDef _ _ _ body _ _ _ _ _ _ _=>body.getD j (.Pass ⟨0,0,0,0⟩)
  | _=> .Pass ⟨0,0,0,0⟩
def defArgs (s:Stmt):Arguments:=match s with
  | .FunctionDef _ a _ _ _ _ _ _ _ _=>a
  | _=>{ posonlyargs:=[],args:=[],vararg:=none,kwonlyargs:=[],kw_defaults:=[],kwarg:=none,defaults:=[] }
def defBody (s:Stmt):List Stmt:=match s with
  | .FunctionDef _ _ b _ _ _ _ _ _ _=>b
  | _=>[]
def defScope (s:Stmt):Scope:=match s with
  | .FunctionDef _ _ _ _ _ _ sc _ _ _=>sc
  | _=>{ kind:= .function,names:=[],isGenerator:=false,isCoroutine:=false }
abbrev CX0:CXT:=fun _ _ _ _ _ _=>False
abbrev E0:XK:=fun _ _ _=>False
theorem pass0 {X:Cx}:Passes CX0 X E0:=fun _ _ _ _ _ _ _ h=>h.elim
structure Fun (K:PySem.W.Frag) (x qual:Str) (st:Stmt) (f:Addr) (fd:FuncData):Prop where
  ex :∃(oc:Value) (od:Option Addr) (kV doc pm:Value) (an:Option Addr) (cdv ct:Value) (osl:Array (Option Value)),
    fd = PySem.W.fnOf x qual (defArgs st) (defBody st) (defScope st) .none kV doc pm an cdv ct∧K.lookup f = some ⟨oc,od,.func fd,osl⟩∧PySem.W.codeIn K cdv qual = true
  kp:PySem.W.keepIn K (.ref f) = true
section
variable {P:Program} {w:World} {K:PySem.W.Frag} {mg:Str→Option Value} {base:Heap}
theorem Fun.ok {x qual:Str} {st:Stmt} {f:Addr} {fd:FuncData} {N ps:List Str} {k:Nat} {sp:Sp} (F:Fun K x qual st f fd) (S:FnScope N ps (defScope st)) (len:∀vs H Q E,sp vs H Q E→vs.length = ps.length)
    (hbody:∀(cdv:Value) (A:Around) (outer:List Env) (s:Shared) (H:Hp) (vs:List V) (Q:VK) (E:XK),Room k (A.deeper (envOfC qual (defScope st) s.heap.objs.size f cdv))→sp vs H Q E→
      ∃t,PSs (cxOf CX0 P w K mg base N qual (defScope st) f cdv A outer s H E).nox (defBody st) t∧t { nx:=fun _ H'=>Q .non H',rt:=Q } (start N vs) H):FnOk P w K mg base CX0 (k + 1) f fd ps sp:=by
  obtain⟨oc,od,kV,doc,pm,an,cdv,ct,osl,rfl,lk,hcd⟩:=F.ex
  refine fn_of lk hcd S len fun A outer s H vs Q E hr hsp=>?_
  obtain⟨t,h,q⟩:=hbody cdv A outer s H vs Q E hr hsp
  exact⟨t,h.nox,q⟩
theorem Fun.binds {x qual:Str} {st:Stmt} {f:Addr} {fd:FuncData} {ps:List Str} (F:Fun K x qual st f fd)
    (h:∀(kV doc pm:Value) (an:Option Addr) (cdv ct:Value) (us:List Value),us.length = ps.length→bindArgs (PySem.W.fnOf x qual (defArgs st) (defBody st) (defScope st) .none kV doc pm an cdv ct) ⟨us, []⟩ = pure (ps.zip us)):Binds K fd ps []:=by
  obtain⟨oc,od,kV,doc,pm,an,cdv,ct,osl,rfl,lk,hcd⟩:=F.ex
  exact .all (h kV doc pm an cdv ct)
theorem fun_mk {x qual:Str} {st:Stmt} {f:Addr} {oc:Value} {od an:Option Addr} {osl:Array (Option Value)} {kV doc pm cdv ct:Value} (l:K.lookup f = some ⟨oc,od,.func (PySem.W.fnOf x qual (defArgs st) (defBody st) (defScope st) .none kV doc pm an cdv ct),osl⟩)
    (c:PySem.W.codeIn K cdv qual = true) (k:PySem.W.keepIn K (.ref f) = true):Fun K x qual st f (PySem.W.fnOf x qual (defArgs st) (defBody st) (defScope st) .none kV doc pm an cdv ct):=⟨⟨oc,od,kV,doc,pm,an,cdv,ct,osl,rfl,l,c⟩,k⟩
end
theorem small1000 {n:Nat} (h:n≤1000):n < sizeLine:=Nat.lt_of_le_of_lt h (by decide)
section
variable {X:Cx}
end
theorem iteF {A B:Prop} (h:B):if false = true then A else B:=by
  rw [if_neg Bool.false_ne_true]
  exact h
theorem ite2 {c A B:Prop} [Decidable c] (h1:c→A) (h2:¬ c→B):if c then A else B:=by
  by_cases h:c
  · rw [if_pos h]
    exact h1 h
  · rw [if_neg h]
    exact h2 h
theorem iteNS {c A B:Prop} [Decidable c] (hc:c) (h:B):if (!decide c) = true then A else B:=by
  rw [decide_eq_true hc]
  exact iteF h
def Same (H H':Hp):Prop:=∀b o,H b = some o→H' b = some o
theorem Same.refl (H:Hp):Same H H:=fun _ _ h=>h
theorem Same.trans {H H1 H2:Hp} (a:Same H H1) (b:Same H1 H2):Same H H2:=fun c o h=>b c o (a c o h)
theorem Same.seq {K:PySem.W.Frag} {H H':Hp} {a:Addr} {xs:List V} (e:Same H H') (h:SqL K H a xs):SqL K H' a xs:=by
  rcases h with (h | ⟨o,h⟩) | h
  · exact .inl (.inl (e _ _ h))
  · exact .inl (.inr ⟨o,e _ _ h⟩)
  · exact .inr h
end L2
namespace L2
open PySem PySem.Spec PyProof.Rows
theorem bt_len:bootBuiltins "len" = some (.builtin "len"):=by decide +kernel
theorem bt_isinstance:bootBuiltins "isinstance" = some (.builtin "isinstance"):=by decide +kernel
theorem bt_list:bootBuiltins "list" = some (.type "list"):=by decide +kernel
theorem bt_str:bootBuiltins "str" = some (.type "str"):=by decide +kernel
theorem bt_int:bootBuiltins "int" = some (.type "int"):=by decide +kernel
theorem bt_bool:bootBuiltins "bool" = some (.type "bool"):=by decide +kernel
theorem bt_tuple:bootBuiltins "tuple" = some (.type "tuple"):=by decide +kernel
theorem bits_leI {i:Int} {n:Nat} (h:i.natAbs < 2 ^ n):Builtin.Int.intBits i≤n:=by
  unfold Builtin.Int.intBits
  split
  · exact Nat.zero_le _
  · rename_i h0
    have h1:i.natAbs≠0:=by
      intro q
      apply h0
      have:i = 0:=by omega
      subst this;rfl
    exact(Nat.log2_lt h1).mpr h
def Big:Nat:=2 ^ 4000
def IsBig (i:Int):Prop:=i.natAbs < 2 ^ 4000
section
variable {X:Cx}
def rN (C:Nat→Nat→Prop) (g:Nat→Nat→Nat):R2:=fun x y H Q=>∃a b:Nat,x = .int a∧y = .int b∧C a b∧Q (.int ((g a b:Nat):Int)) H
def CShl (i j:Int):Prop:=0≤j∧j≤4000∧i.natAbs < 2 ^ 4000
def CMulB (i j:Int):Prop:=i.natAbs < 2 ^ 4000∧j.natAbs < 2 ^ 4000
theorem CMulB.ok {i j:Int} (h:CMulB i j):IntMulOk i j:=by
  unfold IntMulOk
  have h1:=bits_leI h.1
  have h2:=bits_leI h.2
  have h3:Builtin.Int.intTooBig ((Builtin.Int.intBits i:Int) + (Builtin.Int.intBits j:Int)) = false:=by
    unfold Builtin.Int.intTooBig
    apply decide_eq_false
    have:(8000:Int)≤bitsLine:=by decide
    omega
  simp only [h3,Bool.and_false]
  decide
theorem op_mulB:OpR X (binaryOp .Mult) (rI CMulB fun i j=> .int (i * j)):=opI fun _ _ _ _ _ _ _ hc q=>mul_int q hc.ok
def clsV:V→Option Value
  | .ref a=>some (.ref a)
  | .ty n=>some (.type n)
  | _=>none
theorem clsV_is {c:V} {cv u:Value} (e:clsV c = some cv) (r:RelV c u):u = cv:=by
  cases c <;> simp only [clsV] at e <;> first | (cases e;exact r) | cases e
theorem call_isi:CallR X (.builtin "isinstance") (fun xs H Q=>∃x c cv t b,xs = [x,c]∧clsV c = some cv∧TyOf X.K H x t∧PySem.W.kitOne X.K t cv = some b∧Q (.bl b) H):=by
  intro pins s σ H xs us Q I rv h
  obtain⟨x,c,cv,t,b,rfl,ec,ty,e,q⟩:=h
  obtain⟨u,v,rfl,rx,rc⟩:=rv.two
  cases clsV_is ec rc
  exact isinst_ok I rx ty e fun tk=>⟨.bl b,H,I.tok _,rfl,q⟩
end
section
variable {K:PySem.W.Frag}
theorem isi_int_bool:PySem.W.kitOne K (.type "int") (.type "bool") = some false:=by first | rfl | decide +kernel
theorem isi_bool_bool:PySem.W.kitOne K (.type "bool") (.type "bool") = some true:=by rfl
theorem isi_list_list:PySem.W.kitOne K (.type "list") (.type "list") = some true:=by rfl
theorem isi_tuple_tuple:PySem.W.kitOne K (.type "tuple") (.type "tuple") = some true:=by rfl
end
section
variable {X:Cx} {e:Expr} {te:TE} {st:Stmt} {ts:TS}
def tCut (t:TE):TE:=fun σ H Q=>∃P:VK,t σ H P∧∀x H',P x H'→Q x H'
theorem pe_cut (h:PE X e te):PE X e (tCut te):=by
  intro pins s σ H Q I hw
  obtain⟨P,h1,h2⟩:=hw
  exact thn (h pins s σ H P I h1) fun v s1 ⟨x,H1,I1,r,q⟩=>⟨x,H1,I1,r,h2 x H1 q⟩
def tCutS (t:TS):TS:=fun D σ H=>∃N:St→Hp→Prop,t { D with nx:=N } σ H∧∀σ' H',N σ' H'→D.nx σ' H'
theorem ps_cut (h:PS X st ts):PS X st (tCutS ts):=by
  intro pins s σ H D I hw
  obtain⟨N,h1,h2⟩:=hw
  refine thn (h pins s σ H { D with nx:=N } I h1) fun f s1 q=>?_
  cases f with
  | next=>obtain⟨σ',H',I',q⟩:=q;exact⟨σ',H',I',h2 σ' H' q⟩
  | ret v=>exact q
  | brk=>exact q
  | cont=>exact q
end
theorem dec_true {p:Prop} [Decidable p] (h:decide p = true):p:=of_decide_eq_true h
theorem dec_false {p:Prop} [Decidable p] (h:¬ decide p = true):¬ p:=fun q=>h (decide_eq_true q)
theorem big_of {z:Int} {n:Nat} (h:z.natAbs < 2 ^ n) (hn:n≤4000:=by decide):z.natAbs < 2 ^ 4000:=Nat.lt_of_lt_of_le h (Nat.pow_le_pow_right (by decide) hn)
theorem big64 {z:Int} (h0: -18446744073709551616 < z) (h1:z < 18446744073709551616):z.natAbs < 2 ^ 4000:=big_of (n:=64) (by omega)
theorem at_mod {ns:List Int} {k:Int} (h:0 < ns.length):∃v:Int,atI (ns.map V.int) (k % (((ns.map V.int).length:Nat):Int)) = some (.int v):=by
  rw [List.length_map]
  have h0:0≤k % ((ns.length:Nat):Int):=Int.emod_nonneg _ (by omega)
  have h1:k % ((ns.length:Nat):Int) < ((ns.length:Nat):Int):=Int.emod_lt_of_pos _ (by omega)
  generalize k % ((ns.length:Nat):Int) = j at h0 h1
  have hk:j.toNat < ns.length:=by omega
  refine⟨ns[j.toNat],?_⟩
  have q:atI (ns.map V.int) ((j.toNat:Nat):Int) = some (.int ns[j.toNat]):=atI_nat (by rw [List.getElem?_map,List.getElem?_eq_getElem hk] <;> rfl)
  have e:((j.toNat:Nat):Int) = j:=by omega
  rw [e] at q
  exact q
def spLaw (K:PySem.W.Frag):Sp:=fun vs H Q _=>∃(a:Addr) (ns:List Int),vs = [.ref a]∧SqL K H a (ns.map V.int)∧ns.length≤63∧∀H',Q (.bl true) H'
def spDraw (K:PySem.W.Frag):Sp:=fun vs H Q _=>∃(a:Addr) (ns:List Int) (k m:Int),vs = [.ref a,.int k,.int m]∧SqL K H a (ns.map V.int)∧ns.length≤63∧0≤k∧k≤100000∧0 < m∧∀d:Int,0≤d→d < m→Q (.int d) H
end L2
namespace L2
open PySem PySem.Spec PyProof.Rows
def TrD (h B:Heap) (e:Addr) (k a0:Value) (od:Option Addr) (fl:Value):Prop:=
  ∃oe vs T oT ts,(h.get? e = some oe∧oe.cls = k∧oe.dict = od∧oe.data = .fields vs)∧(vs[0]? = some a0∧vs[1]? = some (.ref T))∧(B.get? T = none∧T≠e)∧h.get? T = some oT∧oT.data = .fields ts∧ts[3]? = some fl
def FlyD (B:Heap) (l:List Env) (e:Addr) (k a0:Value) (od:Option Addr) (h:Heap):Prop:=(B.StaysIn h∧B.get? e = none)∧h.FunFrames B l∧TrD h B e k a0 od .none
def HeldD (B:Heap) (l:List Env) (e:Addr) (k a0:Value) (od:Option Addr) (L:Addr) (h:Heap):Prop:=(B.StaysIn h∧B.get? e = none)∧h.FunFrames B l∧TrD h B e k a0 od (rawInt L)
section
variable {M:Model} {A:Around} {E:Value→Shared→Prop} {s:Shared} {B:Heap} {env:Env} {outer l:List Env} {L e:Addr} {k a0:Value} {od:Option Addr}
end
end L2
namespace L2
open PySem PySem.Spec PyProof.Rows
structure Fly (P:Program) (w:World) (outer:List Env) (H H':Hp) (s s':Shared) (a t:Addr) (cls:Value) (od:Option Addr) (B:Heap):Prop where
  os:s'.os = s.os
  bare:AllBare s'.gens
  un:Un (frs outer) [] H H' s.heap s'.heap
  hok:HOk P w H' s'.heap
  new:H' a = none
  fly:FlyD B outer a cls (.ref t) od s'.heap
  old:∀b o,s.heap.get? b = some o→H b = none→b∉frs outer→B.get? b = some o
  trk:∀b u,H' b = some u→∃o,s'.heap.get? b = some o∧B.get? b = some o
  all:∀b o,s.heap.get? b = some o→b∉frs outer→∃o',B.get? b = some o'
def CXR (P:Program) (w:World):CXT:=fun outer H s E e s'=>∃(a t:Addr) (cls:Value) (od:Option Addr) (H':Hp) (B:Heap),e = .ref a∧Fly P w outer H H' s s' a t cls od B∧E cls od H'
section
variable {P:Program} {w:World} {K:PySem.W.Frag} {mg:Str→Option Value} {base:Heap} {N:List Str} {qual:Str} {scope:Scope} {f:Addr} {cd:Value} {A:Around} {outer:List Env} {s:Shared} {H:Hp} {E:XK}
end
end L2
namespace L2
open PySem PySem.Spec PyProof.Rows
section
variable {P:Program} {w:World} {K:PySem.W.Frag} {mg:Str→Option Value} {base:Heap} {N:List Str} {qual:Str} {scope:Scope} {f:Addr} {cd:Value} {A:Around} {outer:List Env} {s:Shared} {H:Hp} {E:XK}
def tRaise (C:Addr) (E:XK) (t:TA):TS:=fun _ σ H=>t σ H fun vs H1=>vs.length≤sizeLine∧E (.ref C) none H1
end
section
variable {X:Cx}
def PEX (X:Cx) (e:Expr) (t:St→Hp→VK→XK→Prop):Prop:=∀(pins:List (Addr×Obj)) (s:Shared) (σ:St) (H:Hp) (Q:VK) (EX:XK),Inv X pins σ H s→t σ H Q EX→
  wpAny (model X.prog X.w) X.A (eval e X.env) (EP X pins σ Q) (fun ev s'=>∃H1 s1,Inv X pins σ H1 s1∧CXR X.prog X.w X.stack H1 s1 EX ev s') s
def excO (cls:Value) (a:Addr) (od:Option Addr):HO:= .ext fun h=>∃o vs,h.get? a = some o∧(o.cls = cls∧o.dict = od)∧o.data = .fields vs
abbrev Cx.marked (X:Cx) (e:Value):Cx:={ X with A:=X.A.mark (some e),calm:=false,xe:=fun _ _=>False }
def sufE (D:Ends) (i:Nat):Ends:={ nx:=fun σ' H'=>D.nx (σ'.set i none) H',rt:=D.rt,bk:=fun σ' H'=>D.bk (σ'.set i none) H',ct:=fun σ' H'=>D.ct (σ'.set i none) H' }
def tTryAs (tx:St→Hp→VK→XK→Prop) (K:PySem.W.Frag) (C:Addr) (i:Nat) (ts:TS):TS:=fun D σ H=>
  tx σ H (fun _ H1=>D.nx σ H1) fun cls od H1=>PySem.W.exmOne K cls (.ref C) = some true∧∀a,H1 a = none→ts (sufE D i) (σ.set i (some (.ref a))) (upd H1 a (excO cls a od))
def tTry0 (tx:St→Hp→VK→XK→Prop) (K:PySem.W.Frag) (C:Addr) (ts:TS):TS:=fun D σ H=>
  tx σ H (fun _ H1=>D.nx σ H1) fun cls od H1=>PySem.W.exmOne K cls (.ref C) = some true∧∀a,H1 a = none→ts D σ (upd H1 a (excO cls a od))
variable {e:Expr} {tx:St→Hp→VK→XK→Prop} {p1 np hpos pos:Pos} {y n:Str} {C:Addr} {i:Nat} {b₀:Stmt} {suite:List Stmt} {ts:TS}
end
end L2
namespace L2
open PySem PySem.Spec PyProof.Rows
structure RoomN (k:Nat) (A:Around):Prop where
  dp:A.depth + 3 * k + 5 < recursionLimit
  un:A.units + 16 * k + 200 < cLine
structure FnOkN (P:Program) (w:World) (K:PySem.W.Frag) (mg:Str→Option Value) (base:Heap) (CX:CXT) (k:Nat) (f:Addr) (fd:FuncData) (ps:List Str) (sp:Sp):Prop where
  len:∀vs H Q E,sp vs H Q E→vs.length = ps.length
  run:∀(A:Around) (outer:List Env) (s:Shared) (H:Hp) (args:Args) (us:List Value) (vs:List V) (Q:VK) (E:XK),RoomN k A→Env0 P w K mg base A outer s H→BindsTo s fd args (ps.zip us)→Vals vs us→sp vs H Q E→
    codeAny (model P w) A (.call (.ref f) args) (CR CX outer P w H s Q E) s
section
variable {X:Cx} {CX:CXT} {k:Nat} {f C:Addr} {fd:FuncData} {ps:List Str} {sp:Sp} {dvs:List V} {ds:List Value} {E:XK} {x m:Str} {p pos apos:Pos} {e o:Expr} {es:List Expr} {ta:TE} {t:TA}
end
def cxOfN (CX:CXT) (P:Program) (w:World) (K:PySem.W.Frag) (mg:Str→Option Value) (base:Heap) (N:List Str) (qual:Str) (scope:Scope) (f:Addr) (cd:Value) (A:Around) (outer:List Env) (s:Shared) (H:Hp) (E:XK):Cx where
  prog:=P
  w:=w
  K:=K
  mg:=mg
  base:=base
  A:=A.deeper (envOfC qual scope s.heap.objs.size f cd)
  N:=N
  s₀:=s
  H₀:=H
  env:=envOfC qual scope s.heap.objs.size f cd
  outer:=outer
  stack:=envOfC qual scope s.heap.objs.size f cd :: outer
  ex:=[]
  calm:=false
  fn:=fun _=>true
  pn:=[]
  xe:=fun e s'=>wpAny (model P w) (A.deeper (envOfC qual scope s.heap.objs.size f cd)) (leaving (envOfC qual scope s.heap.objs.size f cd) e) (fun _ s''=>CX outer H s E e s'') (fun e' s''=>CX outer H s E e' s'') s'
section
variable {P:Program} {w:World} {K:PySem.W.Frag} {mg:Str→Option Value} {base:Heap}
end
end L2
namespace L2
open PySem PySem.Spec PyProof.Rows
theorem PE.imp {X:Cx} {e:Expr} {t t':TE} (h:PE X e t) (i:∀σ H Q,t' σ H Q→t σ H Q):PE X e t':=fun pins s σ H Q I q=>h pins s σ H Q I (i σ H Q q)
theorem OpR.imp {X:Cx} {f:Value→Value→Sem Value} {r r':R2} (h:OpR X f r) (i:∀x y H Q,r' x y H Q→r x y H Q):OpR X f r':=fun pins s σ H x y v u Q I rx ry q=>h pins s σ H x y v u Q I rx ry (i x y H Q q)
theorem CallR.imp {X:Cx} {f:Value} {r r':List V→Hp→VK→Prop} (h:CallR X f r) (i:∀xs H Q,r' xs H Q→r xs H Q):CallR X f r':=fun pins s σ H xs us Q I rv q=>h pins s σ H xs us Q I rv (i xs H Q q)
theorem IxR.imp {X:Cx} {r r':R2} (h:IxR X r) (i:∀x y H Q,r' x y H Q→r x y H Q):IxR X r':=fun va sl pins s σ H x y v u Q I rx ry q hs=>h va sl pins s σ H x y v u Q I rx ry (i x y H Q q) hs
def oV (o:Option (Option V)) (k:V→Prop):Prop:=@Option.rec (Option V) (fun _=>Prop) False (fun o=>@Option.rec V (fun _=>Prop) False k o) o
def vI (x:V) (k:Int→Prop):Prop:=@V.rec (fun _=>Prop) False (fun _=>False) k (fun _=>False) (fun _=>False) (fun _=>False) (fun _=>False) (fun _=>False) x
def vB (x:V) (k:Bool→Prop):Prop:=@V.rec (fun _=>Prop) False k (fun _=>False) (fun _=>False) (fun _=>False) (fun _=>False) (fun _=>False) (fun _=>False) x
def vS (x:V) (k:Str→Prop):Prop:=@V.rec (fun _=>Prop) False (fun _=>False) (fun _=>False) k (fun _=>False) (fun _=>False) (fun _=>False) (fun _=>False) x
def vR (x:V) (k:Addr→Prop):Prop:=@V.rec (fun _=>Prop) False (fun _=>False) (fun _=>False) (fun _=>False) (fun _=>False) (fun _=>False) k (fun _=>False) x
def l1 (vs:List V) (k:V→Prop):Prop:=@List.rec V (fun _=>Prop) False (fun x r _=>@List.rec V (fun _=>Prop) (k x) (fun _ _ _=>False) r) vs
def l2 (vs:List V) (k:V→V→Prop):Prop:=@List.rec V (fun _=>Prop) False (fun x r _=>l1 r fun y=>k x y) vs
theorem oV.ex {o:Option (Option V)} {k:V→Prop} (h:oV o k):∃v,o = some (some v)∧k v:=by
  cases o with
  | none=>exact h.elim
  | some o=>cases o with
    | none=>exact h.elim
    | some v=>exact⟨v,rfl,h⟩
theorem vI.ex {x:V} {k:Int→Prop} (h:vI x k):∃i,x = .int i∧k i:=by
  cases x with
  | int i=>exact⟨i,rfl,h⟩
  | _=>exact h.elim
theorem vB.ex {x:V} {k:Bool→Prop} (h:vB x k):∃i,x = .bl i∧k i:=by
  cases x with
  | bl i=>exact⟨i,rfl,h⟩
  | _=>exact h.elim
theorem vS.ex {x:V} {k:Str→Prop} (h:vS x k):∃i,x = .str i∧k i:=by
  cases x with
  | str i=>exact⟨i,rfl,h⟩
  | _=>exact h.elim
theorem vR.ex {x:V} {k:Addr→Prop} (h:vR x k):∃i,x = .ref i∧k i:=by
  cases x with
  | ref i=>exact⟨i,rfl,h⟩
  | _=>exact h.elim
theorem l1.ex {vs:List V} {k:V→Prop} (h:l1 vs k):∃x,vs = [x]∧k x:=by
  match vs,h with
  | [x],h=>exact⟨x,rfl,h⟩
theorem l2.ex {vs:List V} {k:V→V→Prop} (h:l2 vs k):∃x y,vs = [x,y]∧k x y:=by
  match vs,h with
  | [x,y],h=>exact⟨x,y,rfl,h⟩
def dVar (i:Nat):TE:=fun σ H Q=>oV σ[i]? fun v=>Q v H
section
variable {X:Cx}
theorem dv (i:Nat) {x:Str} {pos:Pos} (hN:X.N[i]? = some x:=by rfl) (hv:Vis X.env.scope x:=by first | exact Or.inl rfl | exact Or.inr (Or.inl rfl) | exact Or.inr (Or.inr rfl)) (hd:(x == ("__debug__":Str)) = false:=by decide)
    (hcd:(x == ("__classdict__":Str)) = false:=by decide):PE X (.Name x pos) (dVar i):=(pe_var hN hv hd hcd).imp fun σ H Q h=>h.ex
def mI (C:Int→Int→Prop) (g:Int→Int→V):R2:=fun x y H Q=>vI x fun i=>vI y fun j=>C i j∧Q (g i j) H
def mI0 (g:Int→Int→V):R2:=fun x y H Q=>vI x fun i=>vI y fun j=>Q (g i j) H
theorem mI.to {C:Int→Int→Prop} {g:Int→Int→V}:∀x y H Q,mI C g x y H Q→rI C g x y H Q:=fun x y H Q h=>by
  obtain⟨i,rfl,h1⟩:=vI.ex h
  clear h
  obtain⟨j,rfl,h⟩:=vI.ex h1
  exact⟨_,_,rfl,rfl,h.1,h.2⟩
theorem mI0.to {g:Int→Int→V}:∀x y H Q,mI0 g x y H Q→rI0 g x y H Q:=fun x y H Q h=>by
  obtain⟨i,rfl,h1⟩:=vI.ex h
  clear h
  obtain⟨j,rfl,h⟩:=vI.ex h1
  exact⟨_,_,rfl,rfl,h⟩
def mU (g:Int→V):V→Hp→VK→Prop:=fun x H Q=>vI x fun i=>Q (g i) H
theorem z_add:OpR X (binaryOp .Add) (mI0 fun i j=> .int (i + j)):=op_add.imp mI0.to
theorem z_sub:OpR X (binaryOp .Sub) (mI0 fun i j=> .int (i - j)):=op_sub.imp mI0.to
theorem z_mul:OpR X (binaryOp .Mult) (mI CMulB fun i j=> .int (i * j)):=op_mulB.imp mI.to
theorem z_fdiv:OpR X (binaryOp .FloorDiv) (mI CDiv fun i j=> .int (i / j)):=op_fdiv.imp mI.to
theorem z_mod:OpR X (binaryOp .Mod) (mI (fun _ j=>0 < j) fun i j=> .int (i % j)):=op_mod.imp mI.to
theorem z_lt:OpR X (compareOp .Lt) (mI0 fun i j=> .bl (decide (i < j))):=op_lt.imp mI0.to
theorem z_le:OpR X (compareOp .LtE) (mI0 fun i j=> .bl (decide (i≤j))):=op_le.imp mI0.to
theorem z_gt:OpR X (compareOp .Gt) (mI0 fun i j=> .bl (decide (j < i))):=op_gt.imp mI0.to
theorem dI {i j:Int}:decide (V.int i = V.int j) = decide (i = j):=by
  by_cases h:i = j
  · rw [decide_eq_true h,decide_eq_true (congrArg V.int h)]
  · rw [decide_eq_false h,decide_eq_false fun z=>h (V.int.inj z)]
theorem dS {i j:Str}:decide (V.str i = V.str j) = decide (i = j):=by
  by_cases h:i = j
  · rw [decide_eq_true h,decide_eq_true (congrArg V.str h)]
  · rw [decide_eq_false h,decide_eq_false fun z=>h (V.str.inj z)]
theorem dB {i j:Bool}:decide (V.bl i = V.bl j) = decide (i = j):=by
  by_cases h:i = j
  · rw [decide_eq_true h,decide_eq_true (congrArg V.bl h)]
  · rw [decide_eq_false h,decide_eq_false fun z=>h (V.bl.inj z)]
def eqW (f:Bool→Prop) (x y:V):Prop:=@V.rec (fun _=>Prop)
  (@V.rec (fun _=>Prop) (f true) (fun _=>False) (fun _=>f false) (fun _=>f false) (fun _=>False) (fun _=>False) (fun _=>False) (fun _=>False) y)
  (fun i=>@V.rec (fun _=>Prop) False (fun j=>f (decide (i = j))) (fun _=>False) (fun _=>False) (fun _=>False) (fun _=>False) (fun _=>False) (fun _=>False) y)
  (fun i=>@V.rec (fun _=>Prop) (f false) (fun _=>False) (fun j=>f (decide (i = j))) (fun _=>f false) (fun _=>False) (fun _=>False) (fun _=>False) (fun _=>False) y)
  (fun i=>@V.rec (fun _=>Prop) (f false) (fun _=>False) (fun _=>f false) (fun j=>f (decide (i = j))) (fun _=>False) (fun _=>False) (fun _=>False) (fun _=>False) y)
  (fun _=>False) (fun _=>False) (fun _=>False) (fun _=>False) x
theorem eqW.ex {f:Bool→Prop} {x y:V} (h:eqW f x y):scal x y = true∧f (decide (x = y)):=by
  cases x with
  | non=>cases y <;> first | exact h.elim | exact⟨rfl,h⟩
  | bl i=>cases y <;> first | exact h.elim | (exact⟨rfl,by rw [dB];exact h⟩)
  | int i=>cases y <;> first | exact h.elim | exact⟨rfl,h⟩ | (exact⟨rfl,by rw [dI];exact h⟩)
  | str i=>cases y <;> first | exact h.elim | exact⟨rfl,h⟩ | (exact⟨rfl,by rw [dS];exact h⟩)
  | _=>exact h.elim
def mEq:R2:=fun x y H Q=>eqW (fun b=>Q (.bl b) H) x y
def mNe:R2:=fun x y H Q=>eqW (fun b=>Q (.bl (!b)) H) x y
theorem z_eq:OpR X (compareOp .Eq) mEq:=op_eq.imp fun x y H Q h=>eqW.ex (f:=fun b=>Q (.bl b) H) h
theorem z_ne:OpR X (compareOp .NotEq) mNe:=op_ne.imp fun x y H Q h=>eqW.ex (f:=fun b=>Q (.bl (!b)) H) h
def vN (x:V) (k:Prop):Prop:=@V.rec (fun _=>Prop) k (fun _=>False) (fun _=>False) (fun _=>False) (fun _=>False) (fun _=>False) (fun _=>False) (fun _=>False) x
def mIsN:R2:=fun x y H Q=>vN y (Q (.bl (decide (x = .non))) H)
def mNotN:R2:=fun x y H Q=>vN y (Q (.bl (!decide (x = .non))) H)
section
variable {a b c:Expr} {ta tb tc:TE} {pos:Pos} {rest:List Expr}
theorem vB_iff {x:V} {k:Bool→Prop}:vB x k = ∃i,x = .bl i∧k i:=propext ⟨vB.ex,fun ⟨i,e,h⟩=>by subst e;exact h⟩
def dTest (t:TE):TT:=fun σ H Q=>t σ H fun x H'=>vB x fun k=>Q k H'
theorem dTest_eq (t:TE):dTest t = tTest t:=by
  funext σ H Q
  unfold dTest tTest
  simp only [vB_iff]
theorem dTest_eqB (t:TE):dTest t = tB t:=by
  funext σ H Q
  unfold dTest tB
  simp only [vB_iff]
theorem md_cmp {op:CmpOp} {r:R2} (ho:OpR X (compareOp op) r) (ha:PE X a ta) (hb:PE X b tb) (hm:behindInMarks op b = false):PT X (.Compare a [op] [b] pos) (dTest (tOp r ta tb)):=by
  rw [dTest_eq];exact pt_cmpR ho ha hb hm
theorem md_val {e:Expr} {t:TE} (h:PE X e t) (he:∀whole,isTrue e X.env whole = (do let v←whole;standAt e.pos;holding [v] (truthy v)):=by intro _;rfl):PT X e (dTest t):=by
  rw [dTest_eqB];exact pt_val h he
def dAnd (ta tb:TE):TE:=fun σ H Q=>ta σ H fun x H1=>vB x fun c=>if c = true then tb σ H1 Q else Q (.bl false) H1
def dOr (ta tb:TE):TE:=fun σ H Q=>ta σ H fun x H1=>vB x fun c=>if c = true then Q (.bl true) H1 else tb σ H1 Q
def dNot (ta:TE):TE:=fun σ H Q=>ta σ H fun x H1=>vB x fun c=>Q (.bl (!c)) H1
end
def SqA (K:PySem.W.Frag) (H:Hp) (a:Addr) (xs:List V):Prop:=SqL K H a xs∨SqT K H a xs
def mIxL (K:PySem.W.Frag):R2:=fun x y H Q=>vR x fun p=>vI y fun i=>∃xs v,SqL K H p xs∧atI xs i = some v∧Q v H
def mIxT (K:PySem.W.Frag):R2:=fun x y H Q=>vR x fun p=>vI y fun i=>∃xs v,SqT K H p xs∧atI xs i = some v∧Q v H
def mIxS:R2:=fun x y H Q=>vS x fun z=>vI y fun i=>∃c,z.length≤sizeLine∧atI z.cps.toList i = some c∧Q (.str ⟨#[c]⟩) H
theorem z_ixL:IxR X (mIxL X.K):=ix_list.imp fun x y H Q h=>by
  obtain⟨p,rfl,h⟩:=vR.ex h
  obtain⟨i,rfl,xs,v,h1,h2,h3⟩:=vI.ex h
  exact⟨_,xs,_,v,rfl,rfl,h1,h2,h3⟩
theorem z_ixT:IxR X (mIxT X.K):=ix_tup.imp fun x y H Q h=>by
  obtain⟨p,rfl,h⟩:=vR.ex h
  obtain⟨i,rfl,xs,v,h1,h2,h3⟩:=vI.ex h
  exact⟨_,xs,_,v,rfl,rfl,h1,h2,h3⟩
theorem z_ixS:IxR X mIxS:=ix_str.imp fun x y H Q h=>by
  obtain⟨p,rfl,h⟩:=vS.ex h
  obtain⟨i,rfl,c,h1,h2,h3⟩:=vI.ex h
  exact⟨_,_,c,rfl,rfl,h1,h2,h3⟩
def mLen (K:PySem.W.Frag):List V→Hp→VK→Prop:=fun xs H Q=>l1 xs fun x=>vR x fun p=>∃ys,SqA K H p ys∧Q (.int ys.length) H
theorem z_len:CallR X (.builtin "len") (mLen X.K):=call_len_seq.imp fun xs H Q h=>by
  obtain⟨x,rfl,h⟩:=l1.ex h
  obtain⟨p,rfl,ys,h1,h2⟩:=vR.ex h
  exact⟨_,ys,rfl,h1,h2⟩
def mLenS:List V→Hp→VK→Prop:=fun xs H Q=>l1 xs fun x=>vS x fun z=>z.length≤sizeLine∧Q (.int z.length) H
theorem z_lenS:CallR X (.builtin "len") mLenS:=call_len_str.imp fun xs H Q h=>by
  obtain⟨x,rfl,h⟩:=l1.ex h
  obtain⟨p,rfl,h1,h2⟩:=vS.ex h
  exact⟨_,rfl,h1,h2⟩
def mListOf (K:PySem.W.Frag):List V→Hp→VK→Prop:=fun xs H Q=>l1 xs fun x=>vR x fun p=>∃ys,SqA K H p ys∧∀l,H l = none→Q (.ref l) (upd H l (.lst ys))
theorem z_listOf:CallR X (.type "list") (mListOf X.K):=call_list_of.imp fun xs H Q h=>by
  obtain⟨x,rfl,h⟩:=l1.ex h
  obtain⟨p,rfl,ys,h1,h2⟩:=vR.ex h
  exact⟨_,ys,rfl,h1,h2⟩
def mMin2:List V→Hp→VK→Prop:=fun xs H Q=>l2 xs fun x y=>vI x fun i=>vI y fun j=>Q (.int (min i j)) H
def mMax2:List V→Hp→VK→Prop:=fun xs H Q=>l2 xs fun x y=>vI x fun i=>vI y fun j=>Q (.int (max i j)) H
def isiR (T:String) (f:V→Hp→VK→Prop):List V→Hp→VK→Prop:=fun xs H Q=>l2 xs fun x c=>c = .ty T∧f x H Q
def mIsiInt:V→Hp→VK→Prop:=fun x H Q=>@V.rec (fun _=>Prop) False (fun _=>Q (.bl true) H) (fun _=>Q (.bl true) H) (fun _=>Q (.bl false) H) (fun _=>False) (fun _=>False) (fun _=>False) (fun _=>False) x
def mIsiBool:V→Hp→VK→Prop:=fun x H Q=>@V.rec (fun _=>Prop) False (fun _=>Q (.bl true) H) (fun _=>Q (.bl false) H) (fun _=>False) (fun _=>False) (fun _=>False) (fun _=>False) (fun _=>False) x
def mIsiStr:V→Hp→VK→Prop:=fun x H Q=>@V.rec (fun _=>Prop) False (fun _=>False) (fun _=>Q (.bl false) H) (fun _=>Q (.bl true) H) (fun _=>False) (fun _=>False) (fun _=>False) (fun _=>False) x
def mIsiList:V→Hp→VK→Prop:=fun x H Q=>@V.rec (fun _=>Prop) False (fun _=>False) (fun _=>Q (.bl false) H) (fun _=>Q (.bl false) H) (fun _=>False) (fun _=>False) (fun p=>(∃xs,H p = some (.lst xs))∧Q (.bl true) H) (fun _=>False) x
def mIsiTuple:V→Hp→VK→Prop:=fun x H Q=>@V.rec (fun _=>Prop) False (fun _=>False) (fun _=>Q (.bl false) H) (fun _=>False) (fun _=>False) (fun _=>False) (fun p=>(∃xs,H p = some (.tup xs))∧Q (.bl true) H) (fun _=>False) x
end
section
variable {K:PySem.W.Frag}
theorem isi_int_list:PySem.W.kitOne K (.type "int") (.type "list") = some false:=by first | rfl | decide +kernel
theorem isi_int_tuple:PySem.W.kitOne K (.type "int") (.type "tuple") = some false:=by first | rfl | decide +kernel
theorem isi_str_list:PySem.W.kitOne K (.type "str") (.type "list") = some false:=by first | rfl | decide +kernel
end
section
variable {X:Cx}
theorem isi_of {T:String} {f:V→Hp→VK→Prop} (h:∀x H Q,f x H Q→∃t b,TyOf X.K H x t∧PySem.W.kitOne X.K t (.type T) = some b∧Q (.bl b) H):CallR X (.builtin "isinstance") (isiR T f):=call_isi.imp fun xs H Q q=>by
  obtain⟨x,c,rfl,q⟩:=l2.ex q
  obtain⟨ec,q2⟩:=q
  subst ec
  obtain⟨t,b,h1,h2,h3⟩:=h x H Q q2
  exact⟨_,_,_,t,b,rfl,rfl,h1,h2,h3⟩
theorem z_isi_bool:CallR X (.builtin "isinstance") (isiR "bool" mIsiBool):=isi_of fun x H Q q=>by
  cases x with
  | int i=>exact⟨_,_,.int _,isi_int_bool,q⟩
  | bl i=>exact⟨_,_,.bl _,isi_bool_bool,q⟩
  | _=>exact q.elim
theorem z_isi_list:CallR X (.builtin "isinstance") (isiR "list" mIsiList):=isi_of fun x H Q q=>by
  cases x with
  | int i=>exact⟨_,_,.int _,isi_int_list,q⟩
  | str i=>exact⟨_,_,.str _,isi_str_list,q⟩
  | ref p=>
    obtain⟨⟨xs,hp⟩,q⟩:=q
    exact⟨_,_,.lst hp,isi_list_list,q⟩
  | _=>exact q.elim
theorem z_isi_tuple:CallR X (.builtin "isinstance") (isiR "tuple" mIsiTuple):=isi_of fun x H Q q=>by
  cases x with
  | int i=>exact⟨_,_,.int _,isi_int_tuple,q⟩
  | ref p=>
    obtain⟨⟨xs,hp⟩,q⟩:=q
    exact⟨_,_,.tup hp,isi_tuple_tuple,q⟩
  | _=>exact q.elim
def tCutA (t:TA):TA:=fun σ H Q=>∃P:List V→Hp→Prop,t σ H P∧∀x H',P x H'→Q x H'
theorem pa_cut {es:List Expr} {t:TA} (h:PA X es t):PA X es (tCutA t):=by
  intro pos pins s σ H Q I hw
  obtain⟨P,h1,h2⟩:=hw
  exact thn (h pos pins s σ H P I h1) fun v s1 ⟨x,H1,I1,r,q⟩=>⟨x,H1,I1,r,h2 x H1 q⟩
section
variable {o e:Expr} {es:List Expr} {to:TE} {t:TA} {apos cpos:Pos}
def dBl (to:TE):TE:=fun σ H Q=>to σ H fun x H1=>vI x fun i=>Q (.int ((Builtin.Int.intBits i:Nat):Int)) H1
def dAppend (K:PySem.W.Frag) (to:TE) (t:TA):TE:=fun σ H Q=>to σ H fun x H1=>vR x fun l=>(∃xs,SqL K H1 l xs)∧t σ H1 fun vs H2=>l1 vs fun y=>∃xs,H2 l = some (.lst xs)∧xs.length < sizeLine∧Q .non (upd H2 l (.lst (xs ++ [y])))
theorem md_append (ho:PE X o to) (ha:PA X [e] t) (hbase:attributeBase o "append" X.env (eval o X.env) = eval o X.env:=by rfl)
    (hfew:((backTo cpos (starEach [e] X.env)).all (fun x=>!x.1) && (backToKw cpos (keywordEach [] X.env)).all (fun x=>x.1.isSome)
      && decide (([e]:List Expr).length + ([]:List Keyword).length + (if ([]:List Keyword).isEmpty then 0 else 1) < 30)) = true:=by rfl)
    (hline:(apos.endLine == cpos.line) = true:=by rfl) (hs:starEach [e] X.env = (false,eval e X.env) :: starEach [] X.env:=by rfl) (hplain:(backTo cpos (starEach [] X.env)).any (·.1) = false:=by rfl) :
    PE X (.Call (.Attribute o "append" apos) [e] [] cpos) (dAppend X.K to t):=
  (pe_bm PySem.F.plainAttrs_list PySem.F.slot_list_append PySem.F.type_list_append mt_append (pe_cut ho) (pa_cut ha) hbase hfew hline hs hplain).imp fun σ H Q h=>⟨_,h,fun x H1 q=>by
    obtain⟨l,rfl,q1,q2⟩:=vR.ex q
    refine⟨.inl ⟨rfl,q1⟩,_,q2,fun vs H2 q3=>?_⟩
    obtain⟨y,rfl,xs,h1,h2,h3⟩:=l1.ex q3
    exact⟨l,xs,y,rfl,rfl,h1,h2,h3⟩⟩
def dPop (K:PySem.W.Frag) (to:TE):TE:=fun σ H Q=>to σ H fun x H1=>vR x fun l=>∃xs y,H1 l = some (.lst xs)∧xs[xs.length - 1]? = some y∧Q y (upd H1 l (.lst xs.dropLast))
def dPart (t:TE):TO:=fun σ H Q=>t σ H fun x H1=>vI x fun i=>Q (some i) H1
theorem PO.imp {e:Option Expr} {t t':TO} (h:PO X e t) (i:∀σ H Q,t' σ H Q→t σ H Q):PO X e t':=fun pins s σ H Q I q=>h pins s σ H Q I (i σ H Q q)
theorem md_part (h:PE X e to):PO X (some e) (dPart to):=(po_some (pe_cut h)).imp fun σ H Q q=>⟨_,q,fun x H1 z=>vI.ex z⟩
def mSlL (K:PySem.W.Frag):V→Option Int→Option Int→Hp→VK→Prop:=fun x lo hi H Q=>vR x fun a=>∃xs,SqL K H a xs∧∀p,H p = none→Q (.ref p) (upd H p (.lst (cutV xs lo hi)))
theorem SlR.imp {r r':V→Option Int→Option Int→Hp→VK→Prop} (h:SlR X r) (i:∀x lo hi H Q,r' x lo hi H Q→r x lo hi H Q):SlR X r':=by
  intro pins s σ H x v vl vu lo hi sl Q I rx hs pl pu q
  exact h pins s σ H x v vl vu lo hi sl Q I rx hs pl pu (i _ _ _ _ _ q)
theorem z_slL:SlR X (mSlL X.K):=sl_list.imp fun x lo hi H Q h=>by
  obtain⟨a,rfl,xs,h1,h2⟩:=vR.ex h
  exact⟨_,xs,rfl,h1,h2⟩
variable {tg:Expr}
theorem PI.imp {iter:Expr} {w w':TI} (h:PI X tg iter w) (i:∀σ H R,w' σ H R→w σ H R):PI X tg iter w':=fun pins s σ H R I q=>h pins s σ H R I (i σ H R q)
def dList (K:PySem.W.Frag) (tl:TE):TI:=fun σ H R=>tl σ H fun x H1=>vR x fun a=>(∃xs,SqL K H1 a xs)∧R (Itl K a) H1
def dTupI (K:PySem.W.Frag) (tl:TE):TI:=fun σ H R=>tl σ H fun x H1=>vR x fun a=>(∃xs,SqT K H1 a xs)∧R (Itt K a) H1
theorem mi_list {l:Expr} {tl:TE} (hl:PE X l tl):PI X tg l (dList X.K tl):=(pi_list (pe_cut hl)).imp fun σ H R h=>⟨_,h,fun x H1 q=>vR.ex q⟩
def dRng1 (ta:TA):TI:=fun σ H R=>ta σ H fun vs H1=>l1 vs fun x=>vI x fun j=>(-(2 ^ 62)≤j∧j < 2 ^ 62)∧R (Itr 0 j.toNat) H1
def dRng2 (ta:TA):TI:=fun σ H R=>ta σ H fun vs H1=>l2 vs fun x y=>vI x fun i=>vI y fun j=>(-(2 ^ 62)≤i∧i < 2 ^ 62∧ -(2 ^ 62)≤j∧j < 2 ^ 62)∧R (Itr i (j - i).toNat) H1
theorem mi_range1 {a:Expr} {ta:TA} {p pos:Pos} (hg:Gl X "range") (hm:X.mg "range" = none) (ha:PA X [a] ta) (hs:starEach [a] X.env = [(false,eval a X.env)]:=by rfl):PI X tg (.Call (.Name "range" p) [a] [] pos) (dRng1 ta):=
  (pi_range1 hg hm (pa_cut ha) hs).imp fun σ H R h=>⟨_,h,fun vs H1 q=>by
    obtain⟨x,rfl,q⟩:=l1.ex q
    obtain⟨j,rfl,q⟩:=vI.ex q
    exact⟨j,rfl,q.1.1,q.1.2,q.2⟩⟩
def mSetL:V→V→V→Hp→(Hp→Prop)→Prop:=fun o i v H Q=>vR o fun p=>vI i fun k=>∃xs j,H p = some (.lst xs)∧ixN xs.length k = some j∧Q (upd H p (.lst (xs.set j v)))
end
end
end L2
namespace L2
open PySem PySem.Spec PyProof.Rows
section
variable {M:Model} {A:Around} {E:Value→Shared→Prop} {s:Shared} {B:Heap} {env:Env} {outer l:List Env} {L e:Addr} {k a0 fl:Value} {od:Option Addr}
end
end L2
namespace L2
open PySem PySem.Spec PyProof.Rows
def subN (N:List Str) (ix:List Nat):List Str:=ix.map fun i=>N.getD i ""
def subS (σ:St) (ix:List Nat):St:=ix.map fun i=>σ.getD i none
def compXe (X:Cx) (scope:Scope) (cl:List (Str×Addr)) (C:Addr):Value→Shared→Prop:=notedBy (model X.prog X.w) X.A (compEnvC scope cl C X.env) fun e s'=>
  ∃m,s'.heap.Ns C m∧∀h',Heap.SameBut C s'.heap h'→∀cenv:Env,cenv.locals = C→wpAny (model X.prog X.w) X.A (PySem.passOn "comprehension.variables-let-go" e cenv:Sem Value) (fun _ _=>False) X.xe { s' with heap:=h' }
def cxComp (X:Cx) (scope:Scope) (cl:List (Str×Addr)) (x:Str) (ix:List Nat) (C:Addr) (fp:List Addr) (s₀:Shared) (H₀:Hp):Cx:=
  { X with N:=x :: subN X.N ix,s₀:=s₀,H₀:=H₀,env:=compEnvC scope cl C X.env,outer:=X.stack,ex:=fp,fn:=fun _=>false,pn:=[],xe:=compXe X scope cl C }
structure CompScope (X:Cx) (scope:Scope) (cl:List (Str×Addr)) (x:Str) (ix:List Nat):Prop where
  clos:closureFor scope X.env = pure cl
  kind:scope.kind = .function
  loc:scope.names.lookup x = some .local
  one:∀y∈scope.names,y.2 = .local→y.1 = x∨y.1 = ".0"
  locs:∀y∈scope.names,y.2 = .local→scope.names.lookup y.1 = some .local
  nocell:∀y∈scope.names,y.2≠ .cell
  free:∀y∈scope.names,y.2 = .free→(X.env.kindOf y.1 = some .cell∨X.env.kindOf y.1 = some .free)
  cells:∀y∈scope.names,y.2 = .free→∃c,cl.lookup y.1 = some c
  same:∀y∈cl,X.env.cells.lookup y.1 = some y.2
  nd:((".0":Str) :: x :: subN X.N ix).Nodup
theorem lookup_mem {α β:Type} [BEq α] [LawfulBEq α] {a:α} {b:β}:∀{l:List (α×β)},l.lookup a = some b→(a,b)∈l
  | [],h=>by simp at h
  | (c,d) :: r,h=>by
    rw [List.lookup_cons] at h
    cases e:a == c with
    | true=>
      rw [e] at h
      cases h
      rw [eq_of_beq e];exact List.mem_cons_self
    | false=>
      rw [e] at h
      exact List.mem_cons_of_mem _ (lookup_mem h)
theorem kind_relabel {scope:Scope} {env:Env} {y:Str} {k:NameKind} (h:(relabel scope env).names.lookup y = some k):∃k0,scope.names.lookup y = some k0∧(k = k0∨(k0 = .free∧k = .cell)):=by
  have gen :∀(names:List (Str×NameKind)),(names.map fun (n,k)=>if (k == NameKind.free && env.scope.kind == .function && env.kindOf n == some .cell) then (n,NameKind.cell) else (n,k)).lookup y = some k→
      ∃k0,names.lookup y = some k0∧(k = k0∨(k0 = .free∧k = .cell)):=by
    intro names
    induction names with
    | nil=>intro h;simp at h
    | cons p r ih=>
      obtain⟨n,k1⟩:=p
      intro h
      rw [List.map_cons] at h
      dsimp only at h
      cases hc:(k1 == NameKind.free && env.scope.kind == .function && env.kindOf n == some .cell) with
      | true=>
        rw [hc,if_pos rfl,List.lookup_cons] at h
        rw [List.lookup_cons]
        cases e:y == n with
        | true=>
          rw [e] at h
          cases h
          simp only [Bool.and_eq_true] at hc
          exact⟨k1,rfl,.inr ⟨eq_of_beq hc.1.1,rfl⟩⟩
        | false=>
          rw [e] at h
          exact ih h
      | false=>
        rw [hc,if_neg Bool.false_ne_true,List.lookup_cons] at h
        rw [List.lookup_cons]
        cases e:y == n with
        | true=>
          rw [e] at h
          cases h
          exact⟨k,rfl,.inl rfl⟩
        | false=>
          rw [e] at h
          exact ih h
  exact gen scope.names h
section
variable {X:Cx} {scope:Scope} {cl:List (Str×Addr)} {x:Str} {ix:List Nat} {C:Addr} {fp:List Addr}
theorem CompScope.look (S:CompScope X scope cl x ix) {y:Str} {c:Addr} (h:cl.lookup y = some c):X.env.cells.lookup y = some c:=S.same _ (lookup_mem h)
theorem CompScope.ok (S:CompScope X scope cl x ix) {pins:List (Addr×Obj)} {σ:St} {H:Hp} {s:Shared} (I:Inv X pins σ H s) (hf:∀b∈fp,FpOk X pins H b) (hfl:∀b∈fp,b < s.heap.objs.size) (hC:s.heap.objs.size≤C) :
    (cxComp X scope cl x ix C fp s H).Ok where
  mod:=I.ok.mod
  kind:=S.kind
  glob:=I.ok.glob
  blt:=I.ok.blt
  above:=hC
  inj:=fun y z c h1 h2=>I.ok.inj y z c (S.look h1) (S.look h2)
  has := fun y h=>by
    have h':(relabel scope X.env).names.lookup y = some .cell∨(relabel scope X.env).names.lookup y = some .free:=h
    have fr:scope.names.lookup y = some .free:=by
      rcases h' with h' | h'
      · obtain⟨k0,e,q | q⟩:=kind_relabel h'
        · exact absurd rfl (q▸S.nocell _ (lookup_mem e))
        · rw [e,q.1]
      · obtain⟨k0,e,q | q⟩:=kind_relabel h'
        · rw [e,←q]
        · cases q.2
    exact S.cells _ (lookup_mem fr) rfl
  cab:=fun y c h=>absurd h Bool.false_ne_true
  hd:=I.ok.hd
  frames:=I.ok.frames
  stk:= .inl rfl
  exf:=fun b hb=>⟨Nat.ne_of_lt (Nat.lt_of_lt_of_le (hfl b hb) hC),fun y c e=>(hf b hb).2.2.2.2.1 y c (S.look e)⟩
  bs:=I.bs
  bsz:=Nat.le_trans I.ok.bsz I.sz
  noex:=fun b o e hb=>by
    rcases (hf b hb).2.2.2.1 with z | z
    · exact I.ok.noex b o e z
    · exact absurd (Nat.lt_of_lt_of_le (Heap.lt_size e) (Nat.le_trans I.ok.bsz z)) (Nat.lt_irrefl _)
  exfs:=fun b hb z=>by
    rcases List.mem_cons.mp (I.stkSub b z) with e | e
    · exact(hf b hb).2.1 e
    · exact(hf b hb).2.2.1 e
  funs:=I.stack
  frf:=I.stkFree
theorem subN_get {N:List Str} {ix:List Nat} {j:Nat} {y:Str} (h:(subN N ix)[j]? = some y):∃i,ix[j]? = some i∧y = N.getD i "":=by
  unfold subN at h
  rw [List.getElem?_map] at h
  cases e:ix[j]? with
  | none=>rw [e] at h;cases h
  | some i=>rw [e] at h;cases h;exact⟨i,rfl,rfl⟩
theorem subS_get {σ:St} {ix:List Nat} {j:Nat} {v:V} (h:(subS σ ix)[j]? = some (some v)):∃i,ix[j]? = some i∧σ[i]? = some (some v):=by
  unfold subS at h
  rw [List.getElem?_map] at h
  cases e:ix[j]? with
  | none=>rw [e] at h;cases h
  | some i=>
    rw [e] at h
    have h':σ.getD i none = some v:=by simpa using h
    refine⟨i,rfl,?_⟩
    rw [List.getD_eq_getElem?_getD] at h'
    cases e2:σ[i]? with
    | none=>rw [e2] at h';cases h'
    | some u=>rw [e2] at h';exact congrArg some h'
theorem CompScope.inv (S:CompScope X scope cl x ix) {pins:List (Addr×Obj)} {σ:St} {H:Hp} {s s1:Shared} {m:Str→Option Value} (I:Inv X pins σ H s) (hf:∀b∈fp,FpOk X pins H b) (hfl:∀b∈fp,b < s.heap.objs.size)
    (hC:s.heap.objs.size≤C) (os:s1.os = s.os) (bare:AllBare s1.gens) (k:∀b o,s.heap.get? b = some o→s1.heap.get? b = some o) (hn:s1.heap.Ns C m) :
    Inv (cxComp X scope cl x ix C fp s H) [] (none :: subS σ ix) H s1 where
  ok:=S.ok I hf hfl hC
  os:=os
  bare:=bare
  base:=Un.kept k
  loc := ⟨m, hn,fun i y v h1 h2 h3=>by
    cases i with
    | zero=>cases (show none = some v from Option.some.inj h2)
    | succ j =>
      obtain⟨i,e1,e2⟩:=subN_get (N:=X.N) (show (subN X.N ix)[j]? = some y from h1)
      obtain⟨i',e1',e3⟩:=subS_get (σ:=σ) (show (subS σ ix)[j]? = some (some v) from h2)
      rw [e1] at e1';cases e1'
      have hi:i < X.N.length:=by rw [←I.len];exact(List.getElem?_eq_some_iff.mp e3).1
      have hy:X.N[i]? = some y:=by rw [e2,List.getD_eq_getElem?_getD,List.getElem?_eq_getElem hi];rfl
      have ne:y≠x:=by
        rintro rfl
        have nd:=(List.nodup_cons.mp S.nd).2
        exact(List.nodup_cons.mp nd).1 (List.mem_of_getElem? (show (subN X.N ix)[j]? = some y from h1))
      have h3':(relabel scope X.env).names.lookup y = some .local∨(relabel scope X.env).names.lookup y = some .cell∨(relabel scope X.env).names.lookup y = some .free:=h3
      have fr :scope.names.lookup y = some .free∧((relabel scope X.env).names.lookup y = some .cell∨(relabel scope X.env).names.lookup y = some .free):=by
        rcases h3' with z | z | z
        · obtain⟨k0,e,q | q⟩:=kind_relabel z
          · rcases S.one _ (lookup_mem e) q.symm with z | z
            · exact absurd z ne
            · have z':y = ".0":=z
              exact absurd (List.mem_cons_of_mem _ (List.mem_of_getElem? (show (subN X.N ix)[j]? = some y from h1))) (z'▸(List.nodup_cons.mp S.nd).1)
          · cases q.2
        · obtain⟨k0,e,q | q⟩:=kind_relabel z
          · exact absurd rfl (q▸S.nocell _ (lookup_mem e))
          · exact⟨by rw [e,q.1],.inl z⟩
        · obtain⟨k0,e,q | q⟩:=kind_relabel z
          · exact⟨by rw [e,←q],.inr z⟩
          · cases q.2
      have vis:=S.free _ (lookup_mem fr.1) rfl
      obtain⟨m0,_,l0⟩:=I.loc
      obtain⟨u,r,l⟩:=l0 i y v hy e3 (vis.elim (fun z=> .inr (.inl z)) fun z=> .inr (.inr z))
      refine⟨u,r,.inr ⟨fr.2,?_⟩⟩
      rcases l with ⟨k1,_⟩ | ⟨_,c,ec,oc,hoc,hd⟩
      · rcases vis with z | z
        · have:=k1.symm.trans z;cases this
        · have:=k1.symm.trans z;cases this
      · obtain⟨c',e'⟩:=S.cells _ (lookup_mem fr.1) rfl
        have:some c' = some c:=(S.look e').symm.trans ec
        cases this
        exact⟨c,e',oc,k _ _ hoc,hd⟩⟩
  cell:=fun y c e=>by
    obtain⟨v,oc,hoc,hd⟩:=I.cell y c (S.look e)
    exact⟨v,oc,k _ _ hoc,hd⟩
  free:=I.hok.fresh hC
  freeC:=fun y c e=>I.freeC y c (S.look e)
  pin:=fun p hp=>absurd (show p∈([]:List (Addr×Obj)) from hp) (by simp)
  hok:=I.hok.kept k
  len:=by show (none :: subS σ ix).length = (x :: subN X.N ix).length;simp [subS,subN]
end
def PTs (X:Cx) (ifs:List Expr) (t:TT):Prop:=
  ∀ (pins:List (Addr×Obj)) (s:Shared) (σ:St) (H:Hp) (Q:Bool→Hp→Prop),Inv X pins σ H s→t σ H Q→
    wpAny (model X.prog X.w) X.A (forIn ifs true fun c r=>if r = true then do let ok←isTrue c X.env (eval c X.env);pure (ForInStep.yield ok) else pure (ForInStep.yield r)) (TP X pins σ Q) X.xe s
def tYes:TT:=fun _ H Q=>Q true H
theorem pts_nil {X:Cx}:PTs X [] tYes:=fun _ _ _ H _ I h=>wpAny_tests_nil ⟨H,I,h⟩
section
variable {prog:Program} {w:World} {A:Around} {R:Result→Shared→Prop} {s:Shared}
theorem compLoop_any {elt target iter:Expr} {ifs:List Expr} {scope:Scope} {pos:Pos} {it acc:Value} {env:Env} (I:Nat→Shared→Prop)
    (turn : ∀ n s,I n s→wpAny (model prog w) A (pyNext it) (fun r s₁=>match r with
      | none=>R (.ok .next) s₁
      | some v =>wpAny (model prog w) A (letOwnedTupleGo target it v) (fun _ s₀=>wpAny (model prog w) A (assign target env v) (fun _ s₂=>
          wpAny (model prog w) A (forIn ifs true fun c r=>if r = true then do let ok←isTrue c env (eval c env);pure (ForInStep.yield ok) else pure (ForInStep.yield r)) (fun ok s₃=>
            if ok = true then wpAny (model prog w) A (eval elt env) (fun x s₄=>
              wpAny (model prog w) A (call (.builtin "list.append") [acc,x]) (fun _ s₅=>∃m,m < n∧I m s₅) (notedBy (model prog w) A env fun e s'=>R (.error e) s') s₄) (notedBy (model prog w) A env fun e s'=>R (.error e) s') s₃
            else ∃m,m < n∧I m s₃) (notedBy (model prog w) A env fun e s'=>R (.error e) s') s₂) (notedBy (model prog w) A env fun e s'=>R (.error e) s') s₀) (notedBy (model prog w) A env fun e s'=>R (.error e) s') s₁) (notedBy (model prog w) A env fun e s'=>R (.error e) s') s)
    (n:Nat) (h:I n s) :
    codeAny (model prog w) A (.compLoop (.ListComp elt [⟨target,iter,ifs,0⟩] scope pos) 0 it acc env) R s:=by
  refine codeAny_loop rfl I (fun n s hI=>?_) n h
  show wpAny _ A ((compTurn (.ListComp elt [⟨target,iter,ifs,0⟩] scope pos) 0 it acc env).onRaise (fun x=>do noteFrame x env;theTreesLotGoes x)) _ _ s
  refine wpAny_noted ?_
  rw [compTurn_list]
  refine wpAny_bind (wpAny_standAt (wpAny_bind (wpAny_mono (turn n s hI) (fun r s₁ h₁=>?_) fun _ _ h'=>h')))
  cases r with
  | none=>exact wpAny_pure h₁
  | some v=>
    refine wpAny_bind (wpAny_mono h₁ (fun _ s₀ h₀=>?_) fun _ _ h'=>h')
    refine wpAny_bind (wpAny_mono h₀ (fun _ s₂ h₂=>wpAny_bind (wpAny_mono h₂ (fun ok s₃ h₃=>?_) fun _ _ h'=>h')) fun _ _ h'=>h')
    cases ok with
    | false=>exact wpAny_pure ⟨rfl,h₃⟩
    | true=>
      exact wpAny_bind (wpAny_bind (wpAny_mono h₃ (fun x s₄ h₄=>wpAny_bind (wpAny_mono h₄ (fun _ s₅ h₅=>wpAny_pure (wpAny_pure ⟨rfl,h₅⟩)) fun _ _ h'=>h')) fun _ _ h'=>h'))
end
def cWord (J:It) (tt:TT) (te:TE) (σc:V→St) (H1:Hp) (Q:VK):Prop:=∃W:Nat→Nat→List V→Hp→Prop,(∃m,W 0 m [] H1)∧∀i m ys H,W i m ys H→ys.length < sizeLine∧
  ((J.stop i H∧∀p,H p = none→Q (.ref p) (upd H p (.lst ys)))∨
   (J.go i H∧∃N:List V→Hp→Prop,(∀ys' H',N ys' H'→∃m',m' < m∧W (i + 1) m' ys' H')∧∀x H',J.yld i H x H'→tt (σc x) H' fun b H3=>if b = true then te (σc x) H3 fun y H4=>N (ys ++ [y]) H4 else N ys H3))
structure CompAt (X:Cx) (C:Addr) (fp:List Addr) (s:Shared) (H:Hp):Prop where
  inv:∃pins σ,Inv X pins σ H s∧∀b∈fp,FpOk X pins H b
  low:∀b∈fp,b < s.heap.objs.size
  up:s.heap.objs.size≤C
def tComp (ix:List Nat) (wi:TI) (tt:TT) (te:TE):TE:=fun σ H Q=>wi σ H fun J H1=>cWord J tt te (fun x=>some x :: subS σ ix) H1 Q
section
variable {X:Cx} {scope:Scope} {cl:List (Str×Addr)} {x:Str} {ix:List Nat} {elt iter:Expr} {ifs:List Expr} {pos px:Pos} {wi:TI} {tt:TT} {te:TE}
theorem comp_block (S:CompScope X scope cl x ix) (hc:X.calm = true)
    (ht:∀C fp s H,CompAt X C fp s H→PTs (cxComp X scope cl x ix C fp s H) ifs tt) (he:∀C fp s H,CompAt X C fp s H→PE (cxComp X scope cl x ix C fp s H) elt te)
    {pins:List (Addr×Obj)} {σ:St} {Q:VK} {itv:Value} {s2:Shared} {E:Value→Shared→Prop} {RR:Value→Addr→Result→Shared→Prop} (h2:PIE X pins σ (.Name x px) (fun J H1=>cWord J tt te (fun x=>some x :: subS σ ix) H1 Q) itv s2)
    (fin:∀(D C:Addr) (H:Hp) (s':Shared) (m:Str→Option Value),Inv X pins σ H s'→s'.heap.Ns C m→H C = none→s2.heap.objs.size≤C→(∀p∈X.pn ++ pins,p.1≠C)→X.env.locals≠C→(∀y c,X.env.cells.lookup y = some c→c≠C)→X.s₀.heap.objs.size≤C→Q (.ref D) H→RR (.ref D) C (.ok .next) s')
    (fex:∀(D C:Addr) (e:Value) (s':Shared),compXe X scope cl C e s'→notedBy (model X.prog X.w) X.A (compEnvC scope cl C X.env) (fun e s'=>RR (.ref D) C (.error e) s') e s') :
    wpAny (model X.prog X.w) X.A (newList []) (fun acc s₃=>wpAny (model X.prog X.w) X.A (newFunctionEnv scope X.env.globals cl [] X.env.qual none .none (some X.env)) (fun cenv s₄=>
      codeAny (model X.prog X.w) X.A (.compStart (.ListComp elt [⟨.Name x px,iter,ifs,0⟩] scope pos) 0 itv acc { cenv with scope:=relabel scope X.env }) (RR acc cenv.locals) s₄) E s₃) E s2:=by
  obtain⟨it,fp,tn,J,H2,rfl,I2,T,st2,f2,W,⟨m0,w0⟩,turn⟩:=h2
  have hfl:∀b∈fp,b < s2.heap.objs.size:=fun b hb=>by
    obtain⟨o,e,_⟩:=T.obj _ _ st2 b hb
    exact Heap.lt_size e
  refine wpAny_newObj_type (wpAny_newFunctionEnv S.nocell (by intro y hy;simp at hy) (fun h₁ hns₁ hsb₁=>?_) S.kind)
  dsimp only at hns₁ hsb₁ ⊢
  generalize hH2:s2.heap.push { cls:= .type "list",dict:=none,data:= .seq ([]:List Value).toArray } = G2 at hns₁ hsb₁ ⊢
  have hC:G2.objs.size = s2.heap.objs.size + 1:=by rw [←hH2,Heap.size_push]
  have hDC:s2.heap.objs.size≠G2.objs.size:=by rw [hC];exact Nat.ne_of_lt (Nat.lt_succ_self _)
  have hCle:s2.heap.objs.size≤G2.objs.size:=by rw [hC];exact Nat.le_succ _
  have below:∀b,b < s2.heap.objs.size→b≠G2.objs.size∧b≠s2.heap.objs.size:=fun b hb=>⟨by rw [hC];exact Nat.ne_of_lt (Nat.lt_succ_of_lt hb),Nat.ne_of_lt hb⟩
  have at0:CompAt X G2.objs.size fp s2 H2:=⟨⟨pins,σ,I2,f2⟩,hfl,hCle⟩
  have old:∀b o,s2.heap.get? b = some o→h₁.get? b = some o:=fun b o e=>hsb₁.extBut b o (below b (Heap.lt_size e)).1 (Heap.get?_push_of_some _ (hH2▸Heap.get?_push_of_some _ e))
  have hacc:h₁.get? s2.heap.objs.size = some { cls:= .type "list",data:= .seq ([]:List Value).toArray 0 }:=hsb₁.extBut _ _ hDC (Heap.get?_push_of_some _ (hH2▸Heap.get?_push_size _ rfl))
  have st1:tn 0 h₁:=T.keep _ _ _ st2 fun b _ o e=>old b o e
  have stat:∀{H':Hp},(∀b∈fp,H' b = none)→∀b∈fp,FpOk (cxComp X scope cl x ix G2.objs.size fp s2 H2) [] H' b:=fun hn b hb=>
    ⟨hn b hb,(below b (hfl b hb)).1,fun z=>by
      rcases List.mem_cons.mp (I2.stkSub b z) with e | e
      · exact(f2 b hb).2.1 e
      · exact(f2 b hb).2.2.1 e,.inl hb,fun y c e=>(f2 b hb).2.2.2.2.1 y c (S.look e),fun p hp=>absurd (show p∈([]:List (Addr×Obj)) from hp) (by simp)⟩
  have I3:∀s₃:Shared,s₃ = { s2 with heap:=h₁,toks:=s2.toks + ([]:List (Str×Value)).length }→Inv (cxComp X scope cl x ix G2.objs.size fp s2 H2) [] (none :: subS σ ix) H2 s₃:=fun s₃ e=>by
    subst e
    exact S.inv I2 f2 hfl hCle rfl I2.bare old hns₁
  let Acc:List V→Heap→Prop:=fun ys h=>∃its n,Vals ys its∧h.get? s2.heap.objs.size = some { cls:= .type "list",data:= .seq its.toArray n }
  have loop :∀s₃:Shared,s₃ = { s2 with heap:=h₁,toks:=s2.toks + ([]:List (Str×Value)).length }→
      codeAny (model X.prog X.w) X.A (.compLoop (.ListComp elt [⟨.Name x px,iter,ifs,0⟩] scope pos) 0 (.ref it) (.ref s2.heap.objs.size) (compEnvC scope cl G2.objs.size X.env)) (RR (.ref s2.heap.objs.size) G2.objs.size) s₃:=by
    intro s₃ e₃
    refine compLoop_any (fun n s'=>∃i ys H',Inv (cxComp X scope cl x ix G2.objs.size fp s2 H2) [] (none :: subS σ ix) H' s'∧H' s2.heap.objs.size = none∧Acc ys s'.heap∧tn i s'.heap∧(∀b∈fp,H' b = none)∧W i n ys H') ?_ m0
      ⟨0, [],H2,I3 s₃ e₃,I2.hok.fresh (Nat.le_refl _),⟨[],0,.nil,by rw [e₃];exact hacc⟩,by rw [e₃];exact st1,fun b hb=>(f2 b hb).1,w0⟩
    rintro n s4 ⟨i,ys,H4,I4,hD4,⟨its,kk,rv,eD⟩,st4,fr4,w4⟩
    obtain⟨hsz,q4⟩:=turn i n ys H4 w4
    have hlen:=rv.length
    rcases q4 with ⟨stop,qn⟩ | ⟨go,N,hN,step⟩
    · refine wpAny_mono (T.done (cxComp X scope cl x ix G2.objs.size fp s2 H2) rfl rfl rfl hc i [(s2.heap.objs.size,{ cls:= .type "list",data:= .seq its.toArray kk })] s4 (none :: subS σ ix) H4 (fun _ _=>False) ?_ ?_ st4 stop) (fun r s5 ⟨hr,I5⟩=>?_) fun _ _ z=>z.elim
      · refine I4.pins_of fun p hp=>?_
        rw [List.mem_singleton.mp hp]
        exact⟨eD,hD4,hDC,fun z=>by
          have:=Heap.FunFrames.mem I2.stack z
          obtain⟨_,o,ho,_⟩:=this
          exact Nat.lt_irrefl _ (Heap.lt_size ho),fun v z=>by cases z⟩
      · intro b hb
        obtain⟨a1,a2,a3,a4,a5,_⟩:=stat fr4 b hb
        exact⟨a1,a2,a3,a4,a5,fun p hp=>by
          rw [List.mem_singleton.mp hp]
          exact fun z=>(below b (hfl b hb)).2 z.symm⟩
      subst hr
      have eD5:=(I5.pin _ (by simp:(s2.heap.objs.size,({ cls:= .type "list",data:= .seq its.toArray kk }:Obj))∈(cxComp X scope cl x ix G2.objs.size fp s2 H2).pn ++ [(s2.heap.objs.size,{ cls:= .type "list",data:= .seq its.toArray kk })])).1
      have neD:∀b u,H4 b = some u→b≠s2.heap.objs.size:=fun b u e z=>by rw [z,hD4] at e;cases e
      have new:HOk X.prog X.w (upd H4 s2.heap.objs.size (.lst ys)) s5.heap:=by
        intro b u e
        by_cases hb:b = s2.heap.objs.size
        · subst hb
          rw [upd_same] at e
          cases e
          exact⟨Nat.le_of_lt hsz,its,kk,rv,eD5⟩
        · rw [upd_ne hb] at e
          exact(I5.hok b u e).stay (fun c v _ q=>q) (fun c q=>by rw [upd_ne (neD c _ q)];exact q) fun c xs q=>by rw [upd_ne (neD c _ q)];exact q
      have un:Un (frs X.stack) fp H2 (upd H4 s2.heap.objs.size (.lst ys)) s2.heap s5.heap:=by
        have B:=I5.base
        exact⟨B.keep,B.slot,fun b o e n hx=>by rw [upd_ne (below b (Heap.lt_size e)).2];exact B.free b o e n hx,B.there,
          fun b xs e=>by rw [upd_ne (neD b _ (B.tups b xs e))];exact B.tups b xs e,fun b o u e=>by rw [upd_ne (neD b _ (B.frzs b o u e))];exact B.frzs b o u e,
          fun b ps e=>by
            obtain⟨mm,z⟩:=B.tbls b ps e
            exact⟨mm,by rw [upd_ne (neD b _ z)];exact z⟩⟩
      have J5:Inv X pins σ (upd H4 s2.heap.objs.size (.lst ys)) s5:=I2.call' (ch:=fp) I5.os un new I5.bare fun b hb=>⟨(f2 b hb).2.2.2.1,(f2 b hb).2.1,(f2 b hb).2.2.2.2.1,(f2 b hb).2.2.2.2.2⟩
      obtain⟨mC,hnC,_⟩:=I5.loc
      refine fin _ _ _ _ mC J5 hnC (by rw [upd_ne (Ne.symm hDC)];exact I5.free) hCle (fun p hp z=>?_) (Nat.ne_of_lt (Nat.lt_of_lt_of_le I2.lt hCle)) (fun y c e z=>?_) (Nat.le_trans I2.sz hCle) (qn _ hD4)
      · exact absurd (Nat.lt_of_lt_of_le (Heap.lt_size (I2.pin p hp).1) hCle) (by rw [z];exact Nat.lt_irrefl _)
      · obtain⟨v,oc,hoc,_⟩:=I2.cell y c e
        exact absurd (Nat.lt_of_lt_of_le (Heap.lt_size hoc) hCle) (by rw [z];exact Nat.lt_irrefl _)
    · have pinD:∀{pl:List (Addr×Obj)} {σ':St} {H':Hp} {s':Shared} {its':List Value} {k':Nat},Inv (cxComp X scope cl x ix G2.objs.size fp s2 H2) pl σ' H' s'→s'.heap.get? s2.heap.objs.size = some { cls:= .type "list",data:= .seq its'.toArray k' }→H' s2.heap.objs.size = none→
          Inv (cxComp X scope cl x ix G2.objs.size fp s2 H2) [(s2.heap.objs.size,{ cls:= .type "list",data:= .seq its'.toArray k' })] σ' H' s':=fun I' e' n'=>I'.pins_of fun p hp=>by
        rw [List.mem_singleton.mp hp]
        exact⟨e',n',hDC,fun z=>by
          obtain⟨_,o,ho,_⟩:=Heap.FunFrames.mem I2.stack z
          exact Nat.lt_irrefl _ (Heap.lt_size ho),fun v z=>by cases z⟩
      have stat2:∀{H':Hp},(∀b∈fp,H' b = none)→∀b∈fp,FpOk (cxComp X scope cl x ix G2.objs.size fp s2 H2) [(s2.heap.objs.size,{ cls:= .type "list",data:= .seq its.toArray kk })] H' b:=fun hn b hb=>by
        obtain⟨a1,a2,a3,a4,a5,_⟩:=stat hn b hb
        exact⟨a1,a2,a3,a4,a5,fun p hp=>by
          rw [List.mem_singleton.mp hp]
          exact fun z=>(below b (hfl b hb)).2 z.symm⟩
      refine wpAny_mono (T.item (cxComp X scope cl x ix G2.objs.size fp s2 H2) rfl rfl rfl hc i _ s4 _ H4 (fun _ _=>False) (pinD I4 eD hD4) (stat2 fr4) st4 go) (fun r s5 ⟨u,hr,h5⟩=>?_) fun _ _ z=>z.elim
      subst hr
      refine wpAny_mono h5 (fun _ s6 ⟨y,H6,I6,r6,y6,st6,fr6⟩=>?_) fun _ _ z=>z.elim
      have I6':=I6.pinned (stat2 fr6) (T.obj _ _ st6)
      have hxl:(relabel scope X.env).names.lookup x = some .local:=lookup_relabel_local S.loc
      refine wpAny_assign_Name (store_ok (X:=cxComp X scope cl x ix G2.objs.size fp s2 H2) (i:=0) I6' (List.nodup_cons.mp S.nd).2 rfl (.inl hxl) r6 (fun s7 I7=>?_) (.inr hxl))
      have q7:=step y H6 y6
      refine wpAny_mono (ht _ _ _ _ at0 _ s7 (some y :: subS σ ix) H6 _ I7 q7) (fun ok s8 ⟨H8,I8,q8⟩=>?_) fun _ _ z=>fex _ _ _ _ z
      have kept:∀{σ9:St} {H9:Hp} {s9:Shared},Inv (cxComp X scope cl x ix G2.objs.size fp s2 H2) ([(s2.heap.objs.size,{ cls:= .type "list",data:= .seq its.toArray kk })] ++ pinsAt fp s6.heap) σ9 H9 s9→
          s9.heap.get? s2.heap.objs.size = some { cls:= .type "list",data:= .seq its.toArray kk }∧H9 s2.heap.objs.size = none∧tn (i + 1) s9.heap∧∀b∈fp,H9 b = none:=fun {σ9 H9 s9} I9=>by
        have p0:=I9.pin (s2.heap.objs.size,{ cls:= .type "list",data:= .seq its.toArray kk }) (List.mem_append_right _ (List.mem_append_left _ (List.mem_singleton.mpr rfl)))
        refine⟨p0.1,p0.2.1,T.keep _ _ _ st6 fun b hb o e=>(I9.pin (b,o) (List.mem_append_right _ (List.mem_append_right _ (mem_pinsAt hb e)))).1,fun b hb=>?_⟩
        obtain⟨o,e,d⟩:=T.obj _ _ st6 b hb
        exact(I9.pin (b,o) (List.mem_append_right _ (List.mem_append_right _ (mem_pinsAt hb e)))).2.1
      have back:∀{pl:List (Addr×Obj)} {H9:Hp} {s9:Shared},Inv (cxComp X scope cl x ix G2.objs.size fp s2 H2) pl (some y :: subS σ ix) H9 s9→Inv (cxComp X scope cl x ix G2.objs.size fp s2 H2) [] (none :: subS σ ix) H9 s9:=fun {pl H9 s9} I9=>
        (I9.weak (σ':=none :: subS σ ix) rfl fun j v e=>by
          cases j with
          | zero=>cases (show none = some v from Option.some.inj e)
          | succ j=>exact e).pins_of fun p hp=>nomatch hp
      cases ok with
      | true=>
        rw [if_pos rfl] at q8 ⊢
        refine wpAny_mono (he _ _ _ _ at0 _ s8 (some y :: subS σ ix) H8 _ I8 q8) (fun yv s9 ⟨yy,H9,I9,r9,n9⟩=>?_) fun _ _ z=>fex _ _ _ _ z
        obtain⟨m',hm',w9⟩:=hN _ _ n9
        obtain⟨kD,kn,kt,kf⟩:=kept I9
        refine append_at (hsz:=by rw [List.size_toArray];omega) kD fun h10 hs10 hD10=>?_
        have neD:∀b u,H9 b = some u→b≠s2.heap.objs.size:=fun b u e z=>by rw [z,kn] at e;cases e
        have I9':=back I9
        have cellne:∀y c,cl.lookup y = some c→c≠s2.heap.objs.size:=fun y c e z=>by
          obtain⟨v,oc,hoc,_⟩:=I2.cell y c (S.look e)
          exact absurd (Heap.lt_size hoc) (by rw [z];exact Nat.lt_irrefl _)
        have I10:Inv (cxComp X scope cl x ix G2.objs.size fp s2 H2) [] (none :: subS σ ix) H9 { s9 with heap:=h10 }:=I9'.turned (t':=s9.toks) (it:=s2.heap.objs.size) (fun b o hb e=>hs10.extBut b o hb e) kn hDC (.inr (Nat.le_refl _)) cellne fun p hp=>absurd (show p∈([]:List (Addr×Obj)) from hp) (by simp)
        refine⟨m',hm',i + 1,ys ++ [yy],H9,I10,kn,⟨its ++ [yv],kk + 1,rv.append (.cons r9 .nil),?_⟩,T.keep _ _ _ kt fun b hb o e=>hs10.extBut b o (below b (hfl b hb)).2 e,kf,w9⟩
        refine hD10.trans (congrArg some ?_)
        simp
      | false=>
        rw [if_neg Bool.false_ne_true] at q8 ⊢
        obtain⟨m',hm',w9⟩:=hN _ _ q8
        obtain⟨kD,kn,kt,kf⟩:=kept I8
        exact⟨m',hm',i + 1,ys,H8,back I8,kn,⟨its,kk,rv,kD⟩,kt,kf,w9⟩
  exact codeAny_compStart_list (loop _ rfl) (T.self _ 0 _ _ _ st1 (loop _ rfl))
def closFrom (env:Env):List (Str×NameKind)→List (Str×Addr)→List (Str×Addr)
  | [],cs=>cs
  | (n,k) :: r,cs=>closFrom env r (if k == .free then (n,(env.cells.lookup n).getD 0) :: cs else cs)
theorem clos_eq {env:Env}:∀(names:List (Str×NameKind)) (cs:List (Str×Addr)),(∀y∈names,y.2 = .free→∃c,env.cells.lookup y.1 = some c)→
    (forIn names cs fun (p:Str×NameKind) (r:List (Str×Addr))=>match p with | (name,kind)=>if (kind == .free) = true then do let c←cellOf env name;pure (ForInStep.yield ((name,c) :: r)) else pure (ForInStep.yield r):Sem (List (Str×Addr))) = pure (closFrom env names cs)
  | [],cs,_=>rfl
  | (n, k) :: r,cs,h=>by
    rw [List.forIn_cons]
    cases hk:k == NameKind.free with
    | true=>
      obtain⟨c,hc⟩:=h (n,k) List.mem_cons_self (eq_of_beq hk)
      have e1:cellOf env n = pure c:=by unfold cellOf;rw [hc]
      have e2:closFrom env ((n,k) :: r) cs = closFrom env r ((n,c) :: cs):=by
        show closFrom env r (if (k == .free) = true then (n,(env.cells.lookup n).getD 0) :: cs else cs) = _
        rw [hk,if_pos rfl,hc];rfl
      rw [e2,←clos_eq r ((n,c) :: cs) fun y hy=>h y (List.mem_cons_of_mem _ hy)]
      dsimp only
      rw [if_pos hk,e1]
      rfl
    | false=>
      have e2:closFrom env ((n,k) :: r) cs = closFrom env r cs:=by
        show closFrom env r (if (k == .free) = true then (n,(env.cells.lookup n).getD 0) :: cs else cs) = _
        rw [hk,if_neg Bool.false_ne_true]
      rw [e2,←clos_eq r cs fun y hy=>h y (List.mem_cons_of_mem _ hy)]
      dsimp only
      rw [if_neg (by rw [hk];exact Bool.false_ne_true)]
      rfl
theorem closFrom_mem {env:Env} {y:Str×Addr}:∀(names:List (Str×NameKind)) (cs:List (Str×Addr)),y∈closFrom env names cs→y∈cs∨∃k∈names,k.2 = .free∧k.1 = y.1∧y.2 = (env.cells.lookup y.1).getD 0
  | [],cs,h=> .inl h
  | (n, k) :: r,cs,h=>by
    rcases closFrom_mem r _ h with z | ⟨p,hp,e⟩
    · cases hk:k == NameKind.free with
      | true=>
        rw [hk,if_pos rfl] at z
        rcases List.mem_cons.mp z with z | z
        · exact .inr ⟨(n,k),List.mem_cons_self,eq_of_beq hk,by rw [z],by rw [z]⟩
        · exact .inl z
      | false=>
        rw [hk,if_neg Bool.false_ne_true] at z
        exact .inl z
    · exact .inr ⟨p,List.mem_cons_of_mem _ hp,e⟩
theorem lookup_some_of_mem {y:Str} {c:Addr}:∀{l:List (Str×Addr)},(y,c)∈l→∃d,l.lookup y = some d
  | [],h=>by simp at h
  | (n, d) :: r,h=>by
    rw [List.lookup_cons]
    cases e:y == n with
    | true=>exact⟨d,rfl⟩
    | false=>
      rcases List.mem_cons.mp h with z | z
      · have:y = n:=(Prod.mk.inj z).1
        rw [this,beq_self_eq_true] at e;cases e
      · exact lookup_some_of_mem z
theorem mem_closFrom {env:Env} {y:Str}:∀(names:List (Str×NameKind)) (cs:List (Str×Addr)),((y,NameKind.free)∈names∨∃c,(y,c)∈cs)→∃c,(y,c)∈closFrom env names cs
  | [],cs,h=>by
    rcases h with h | h
    · simp at h
    · exact h
  | (n, k) :: r,cs,h=>by
    refine mem_closFrom r _ ?_
    rcases h with h | ⟨c,h⟩
    · rcases List.mem_cons.mp h with z | z
      · obtain⟨e1,e2⟩:=Prod.mk.inj z
        subst e1 e2
        exact .inr ⟨(env.cells.lookup y).getD 0,by rw [if_pos (beq_self_eq_true _)];exact List.mem_cons_self⟩
      · exact .inl z
    · refine .inr ⟨c,?_⟩
      split
      · exact List.mem_cons_of_mem _ h
      · exact h
def compOk (scope:Scope) (env:Env) (x:Str):Bool:=scope.names.all fun y=>(y.2 != .local || ((y.1 == x || y.1 == ".0") && scope.names.lookup y.1 == some .local)) && y.2 != .cell && (y.2 != .free || env.kindOf y.1 == some .cell || env.kindOf y.1 == some .free)
theorem compScope_of (ok:X.Ok) (hk:scope.kind = .function) (hx:scope.names.lookup x = some .local) (hall:compOk scope X.env x = true) (nd:((".0":Str) :: x :: subN X.N ix).Nodup):CompScope X scope (closFrom X.env scope.names []) x ix:=by
  have all:∀y∈scope.names,(y.2 = .local→(y.1 = x∨y.1 = ".0")∧scope.names.lookup y.1 = some .local)∧y.2≠ .cell∧(y.2 = .free→(X.env.kindOf y.1 = some .cell∨X.env.kindOf y.1 = some .free)):=fun y hy=>by
    have z:=List.all_eq_true.mp hall y hy
    simp only [Bool.and_eq_true,Bool.or_eq_true,bne_iff_ne,beq_iff_eq,ne_eq] at z
    refine⟨fun e=>z.1.1.resolve_left fun q=>q e,z.1.2,fun e=>?_⟩
    rcases z.2 with (q | q) | q
    · exact absurd e q
    · exact .inl q
    · exact .inr q
  have cells:∀y∈scope.names,y.2 = .free→∃c,X.env.cells.lookup y.1 = some c:=fun y hy e=>ok.has y.1 ((all y hy).2.2 e)
  refine⟨?_,hk,hx,fun y hy e=>((all y hy).1 e).1,fun y hy e=>((all y hy).1 e).2,fun y hy=>(all y hy).2.1,fun y hy=>(all y hy).2.2,fun y hy e=>?_,fun y hy=>?_,nd⟩
  · have q:=clos_eq scope.names [] cells
    unfold closureFor
    have q2:(forIn scope.names [] fun (p:Str×NameKind) (r:List (Str×Addr))=>match p with | (name,kind)=>if (kind == .free) = true then do let c←cellOf X.env name;pure (ForInStep.yield ((name,c) :: r)) else pure (ForInStep.yield r):Sem (List (Str×Addr))) >>= (fun cs=>pure cs) = pure (closFrom X.env scope.names []):=by
      rw [q];rfl
    exact q2
  · obtain⟨n,k⟩:=y
    have e':k = .free:=e
    subst e'
    obtain⟨c,hc⟩:=mem_closFrom (env:=X.env) scope.names [] (.inl hy)
    exact lookup_some_of_mem hc
  · rcases closFrom_mem scope.names [] hy with z | ⟨p,hp,e1,e2,e3⟩
    · simp at z
    · obtain⟨c,hc⟩:=cells p hp e1
      rw [e2] at hc
      rw [e3,hc];rfl
theorem pe_comp (hc:X.calm = true) (hi:PI X (.Name x px) iter wi) (ht:∀C fp s H,CompAt X C fp s H→PTs (cxComp X scope (closFrom X.env scope.names []) x ix C fp s H) ifs tt) (he:∀C fp s H,CompAt X C fp s H→PE (cxComp X scope (closFrom X.env scope.names []) x ix C fp s H) elt te)
    (hk:scope.kind = .function) (hx:scope.names.lookup x = some .local) (hall:compOk scope X.env x = true) (nd:((".0":Str) :: x :: subN X.N ix).Nodup)
    (hs:∀x,foldedSetIterable iter X.env x = pure x:=by intro _;rfl):PE X (.ListComp elt [⟨.Name x px,iter,ifs,0⟩] scope pos) (tComp ix wi tt te):=by
  intro pins s σ H Q I h
  have S:CompScope X scope (closFrom X.env scope.names []) x ix:=compScope_of I.ok hk hx hall nd
  rw [eval_ListComp]
  refine wpAny_comprehension_free (use:=none) rfl hs S.clos S.kind S.locs (thn (hi pins s σ H _ I h) fun v s1 h1=>thn h1 fun itv s2 h2=>?_)
  refine comp_block S hc ht he h2 (fun D C H' s' m J hn hCn hCle hp hL hcl hs0 q=>?_) fun D C e s' z=>z
  exact⟨m,hn,fun h' sb=>⟨.ref D,H',J.turned (t':=s'.toks) (fun b o hb e=>sb.extBut b o hb e) hCn (Ne.symm hL) (.inr hs0) hcl hp,rfl,q⟩⟩
theorem ps_setComp {j:Nat} {y:Str} {py spos:Pos} (hN:X.N.Nodup) (hj:X.N[j]? = some y) (hy:X.env.scope.names.lookup y = some .local) (hc:X.calm = true) (hi:PI X (.Name x px) iter wi)
    (ht:∀C fp s H,CompAt X C fp s H→PTs (cxComp X scope (closFrom X.env scope.names []) x ix C fp s H) ifs tt) (he:∀C fp s H,CompAt X C fp s H→PE (cxComp X scope (closFrom X.env scope.names []) x ix C fp s H) elt te)
    (hk:scope.kind = .function) (hx:scope.names.lookup x = some .local) (hall:compOk scope X.env x = true) (nd:((".0":Str) :: x :: subN X.N ix).Nodup)
    (hsw:swapsWith (.ListComp elt [⟨.Name x px,iter,ifs,0⟩] scope pos) (some (.Name y py)) spos.line X.env = pure true:=by rfl) (hs:∀x,foldedSetIterable iter X.env x = pure x:=by intro _;rfl) :
    PS X (.Assign [.Name y py] (.ListComp elt [⟨.Name x px,iter,ifs,0⟩] scope pos) spos) (tAsg (tComp ix wi tt te) (gName j)):=by
  intro pins s σ H D I h
  have S:CompScope X scope (closFrom X.env scope.names []) x ix:=compScope_of I.ok hk hx hall nd
  rw [exec_Assign_Name_used _ _ _ _ hsw]
  refine wpAny_bind (wpAny_standAt (wpAny_bind ?_))
  show wpAny _ _ (do let _←comprehension (.ListComp elt [⟨.Name x px,iter,ifs,0⟩] scope pos) scope X.env _ (newList []) false (eval iter X.env) (some (assign (.Name y py) X.env))) _ _ s
  refine wpAny_bind (wpAny_mono (wpAny_comprehension_free (use:=some (assign (.Name y py) X.env)) (Q:=fun _ s'=>SP X pins D .next s') rfl hs S.clos S.kind S.locs
    (thn (hi pins s σ H _ I h) fun v s1 h1=>thn h1 fun itv s2 h2=>?_)) (fun _ s' hq=>wpAny_pure (wpAny_pure hq)) fun _ _ e=>e)
  refine comp_block (Q:=fun v H1=>D.nx (σ.set j (some v)) H1) S hc ht he h2 (fun D' C H' s' m J hn hCn hCle hp hL hcl hs0 q=>?_) fun D' C e s' z=>z
  show wpAny _ _ (assign (.Name y py) X.env (.ref D')) _ _ _
  refine wpAny_assign_Name (store_ok2 J hN hj (.inl hy) (v:= .ref D') rfl (fun s'' J' ⟨a,sb,ha⟩=>?_) (.inr hy))
  have hCa:C≠a:=by
    rcases ha with e | e
    · rw [e];exact Ne.symm hL
    · exact Ne.symm (hcl y a e)
  exact⟨m,hn.sameBut sb hCa,fun h' sb'=>⟨σ.set j (some (.ref D')),H',J'.turned (t':=s''.toks) (fun b o hb e=>sb'.extBut b o hb e) hCn (Ne.symm hL) (.inr hs0) hcl hp,q⟩⟩
end
theorem comp_range {lo:Int} {n:Nat} {tt:TT} {te:TE} {σc:V→St} {H:Hp} {Q:VK} (Pv:Nat→List V→Hp→Prop) (hn:∀i ys H,i≤n→Pv i ys H→ys.length < sizeLine) (h0:Pv 0 [] H)
    (hs:∀i ys H,i < n→Pv i ys H→tt (σc (.int (lo + i))) H fun b H3=>if b = true then te (σc (.int (lo + i))) H3 fun y H4=>Pv (i + 1) (ys ++ [y]) H4 else Pv (i + 1) ys H3)
    (hd:∀ys H,Pv n ys H→∀p,H p = none→Q (.ref p) (upd H p (.lst ys))):cWord (Itr lo n) tt te σc H Q:=by
  refine⟨fun i m ys H=>m = n - i∧i≤n∧Pv i ys H,⟨n,by simp,Nat.zero_le _,h0⟩,?_⟩
  rintro i m ys H ⟨rfl,hi,p⟩
  refine⟨hn i ys H hi p,?_⟩
  by_cases hlt:i < n
  · refine .inr ⟨hlt,Pv (i + 1),fun ys' H' q=>⟨n - (i + 1),by omega,rfl,hlt,q⟩,fun x H' y=>?_⟩
    obtain⟨e,y⟩:=y
    subst e y
    exact hs i ys _ hlt p
  · have e:i = n:=by omega
    subst e
    exact .inl ⟨Nat.le_refl _,hd ys H p⟩
theorem comp_list {K:PySem.W.Frag} {a:Addr} {xs:List V} {tt:TT} {te:TE} {σc:V→St} {H:Hp} {Q:VK} (Pv:Nat→List V→Hp→Prop) (hn:∀i ys H,i≤xs.length→Pv i ys H→ys.length < sizeLine) (h0:Pv 0 [] H)
    (hl:∀i ys H,i≤xs.length→Pv i ys H→SqL K H a xs)
    (hs:∀i x ys H,xs[i]? = some x→Pv i ys H→tt (σc x) H fun b H3=>if b = true then te (σc x) H3 fun y H4=>Pv (i + 1) (ys ++ [y]) H4 else Pv (i + 1) ys H3)
    (hd:∀ys H,Pv xs.length ys H→∀p,H p = none→Q (.ref p) (upd H p (.lst ys))):cWord (Itl K a) tt te σc H Q:=by
  refine⟨fun i m ys H=>m = xs.length - i∧i≤xs.length∧Pv i ys H,⟨xs.length,by simp,Nat.zero_le _,h0⟩,?_⟩
  rintro i m ys H ⟨rfl,hi,p⟩
  have q:=hl i ys H hi p
  refine⟨hn i ys H hi p,?_⟩
  by_cases hlt:i < xs.length
  · refine .inr ⟨⟨xs,xs[i],q,by simp [hlt]⟩,Pv (i + 1),fun ys' H' q=>⟨xs.length - (i + 1),by omega,rfl,hlt,q⟩,fun x H' y=>?_⟩
    obtain⟨e,y⟩:=y
    subst e
    exact hs i x ys _ (y xs q) p
  · have e:i = xs.length:=by omega
    subst e
    exact .inl ⟨⟨xs,q,Nat.le_refl _⟩,hd ys H p⟩
end L2
namespace L2
open PySem PySem.Spec PyProof.Rows PySem.W PySem.Builtin PySem.Builtin.ObjectAttr PySem.Builtin.Getset_descriptor
section
variable {prog:Program} {w:World} {A:Around} {E:Value→Shared→Prop} {K:PySem.W.Frag} {a C:Addr}
structure ExcC (K:PySem.W.Frag) (C:Addr):Prop where
  cd:(PySem.W.clsIn K C).isSome = true
  ga:PySem.W.findIn K (.ref C) "__getattribute__" = some (some (.builtin "BaseException.__getattribute__"))
  hk:PySem.W.findIn K (.ref C) "__getattr__" = some none
  cl:PySem.W.findIn K (.ref C) "__class__" = some (some (.builtin "object.__class__"))
  gt:PySem.W.specialIn K (.builtin "object.__class__") "__get__" = some (some (.builtin "getset_descriptor.__get__"))
  tk:PySem.W.takesIn K (.builtin "object.__class__") = some true
  ob:PySem.W.mroIn K C (.type "object") = some true
  ba:PySem.W.mroIn K C (.type "BaseException") = some true
end
section
variable {X:Cx}
end
end L2
namespace L2
open PySem PySem.Spec PyProof.Rows
mutual
inductive DV (K:PySem.W.Frag) (H:Hp):V→PyData→Prop
  | non:DV K H .non .none
  | bl (b:Bool):DV K H (.bl b) (.bool b)
  | int (i:Int):DV K H (.int i) (.int i)
  | str (x:Str):DV K H (.str x) (.str x)
  | lst {a:Addr} {xs:List V} {ds:List PyData}:SqL K H a xs→DVs K H xs ds→DV K H (.ref a) (.list ds)
  | tup {a:Addr} {xs:List V} {ds:List PyData}:SqT K H a xs→DVs K H xs ds→DV K H (.ref a) (.tuple ds)
inductive DVs (K:PySem.W.Frag) (H:Hp):List V→List PyData→Prop
  | nil:DVs K H [] []
  | cons {x:V} {xs:List V} {d:PyData} {ds:List PyData}:DV K H x d→DVs K H xs ds→DVs K H (x :: xs) (d :: ds)
end
theorem DVs.ints {K:PySem.W.Frag} {H:Hp}:∀ns:List Int,DVs K H (ns.map V.int) (ns.map PyData.int)
  | []=> .nil
  | n :: r=> .cons (.int n) (DVs.ints r)
theorem DV.ints {K:PySem.W.Frag} {H:Hp} {a:Addr} {ns:List Int} (h:SqL K H a (ns.map V.int)):DV K H (.ref a) (.list (ns.map .int)):= .lst h (DVs.ints ns)
section
variable {X:Cx} {pins:List (Addr×Obj)} {σ:St} {H:Hp} {s:Shared}
mutual
theorem Inv.reads (I:Inv X pins σ H s):∀{x:V} {d:PyData} {u:Value},DV X.K H x d→RelV x u→∃as,Reads s.heap u d as
  | _,_,_,.non,r=>by cases r;exact⟨_,Reads.none⟩
  | _,_,_,.bl b,r=>by cases r;exact⟨_,Reads.bool b⟩
  | _,_,_,.int i,r=>by obtain⟨t,rfl⟩:=r;exact⟨_,Reads.int i t⟩
  | _,_,_,.str x,r=>by obtain⟨t,rfl⟩:=r;exact⟨_,Reads.str x t⟩
  | _,_,_,.lst h r,rr=>by
    cases rr
    obtain⟨its,rv,⟨o,n,e,c,_,dt⟩,_⟩:=I.list h
    obtain⟨as,q⟩:=Inv.readsAll I r rv
    exact⟨_,reads_list_at e c dt (by simpa using q)⟩
  | _,_,_,.tup h r,rr=>by
    cases rr
    obtain⟨its,rv,⟨o,e,c,n,dt⟩,_⟩:=I.tuple h
    obtain⟨as,q⟩:=Inv.readsAll I r rv
    exact⟨_,reads_tuple_at e c dt (by simpa using q)⟩
theorem Inv.readsAll (I:Inv X pins σ H s):∀{xs:List V} {ds:List PyData} {us:List Value},DVs X.K H xs ds→Vals xs us→∃as,ReadsAll s.heap us ds as
  | _,_,_,.nil,.nil=>⟨_,ReadsAll.nil⟩
  | _,_,_,.cons h r,.cons q p=>by
    obtain⟨as,q1⟩:=Inv.reads I h q
    obtain⟨bs,q2⟩:=Inv.readsAll I r p
    exact⟨_,ReadsAll.cons q1 q2⟩
end
end
section
variable {X:Cx}
theorem z_eqD (hu:X.A.units + 64 < cLine):OpR X (compareOp .Eq) (fun x y H Q=>∃d e,DV X.K H x d∧DV X.K H y e∧SeqAt.shaped d = true∧SeqAt.shaped e = true∧Q (.bl (PyData.eqv d e)) H):=by
  intro pins s σ H x y v u Q I rx ry h
  obtain⟨d,e,hd,he,sd,se,q⟩:=h
  obtain⟨as,ra⟩:=I.reads hd rx
  obtain⟨bs,rb⟩:=I.reads he ry
  exact eq_dataH ra rb sd se hu ⟨.bl _,H,I,rfl,q⟩
theorem z_neD (hu:X.A.units + 64 < cLine):OpR X (compareOp .NotEq) (fun x y H Q=>∃d e,DV X.K H x d∧DV X.K H y e∧SeqAt.shaped d = true∧SeqAt.shaped e = true∧Q (.bl (!PyData.eqv d e)) H):=by
  intro pins s σ H x y v u Q I rx ry h
  obtain⟨d,e,hd,he,sd,se,q⟩:=h
  obtain⟨as,ra⟩:=I.reads hd rx
  obtain⟨bs,rb⟩:=I.reads he ry
  exact ne_dataH ra rb sd se hu ⟨.bl _,H,I,rfl,q⟩
theorem z_eqS (hu:X.A.units + 64 < cLine):OpR X (compareOp .Eq) (fun x y H Q=>∃d,DV X.K H x d∧DV X.K H y d∧SeqAt.shaped d = true∧Q (.bl true) H):=(z_eqD hu).imp fun x y H Q ⟨d,h1,h2,h3,q⟩=>⟨d,d,h1,h2,h3,h3,by rw [SeqAt.eqv_refl d (SeqAt.canLay_of_shaped h3)];exact q⟩
theorem z_neS (hu:X.A.units + 64 < cLine):OpR X (compareOp .NotEq) (fun x y H Q=>∃d,DV X.K H x d∧DV X.K H y d∧SeqAt.shaped d = true∧Q (.bl false) H):=(z_neD hu).imp fun x y H Q ⟨d,h1,h2,h3,q⟩=>⟨d,d,h1,h2,h3,h3,by rw [SeqAt.eqv_refl d (SeqAt.canLay_of_shaped h3)];exact q⟩
def mEqL (K:PySem.W.Frag):R2:=fun x y H Q=>vR x fun a=>vR y fun b=>∃ns ms:List Int,SqL K H a (ns.map V.int)∧SqL K H b (ms.map V.int)∧Q (.bl (decide (ns = ms))) H
def mNeL (K:PySem.W.Frag):R2:=fun x y H Q=>vR x fun a=>vR y fun b=>∃ns ms:List Int,SqL K H a (ns.map V.int)∧SqL K H b (ms.map V.int)∧Q (.bl (!decide (ns = ms))) H
theorem z_neL (hu:X.A.units + 64 < cLine):OpR X (compareOp .NotEq) (mNeL X.K):=by
  intro pins s σ H x y v u Q I rx ry h
  obtain⟨a,rfl,hh⟩:=vR.ex h
  clear h
  obtain⟨b,rfl,ns,ms,h1,h2,q⟩:=vR.ex hh
  cases rx;cases ry
  obtain⟨its,rv,pl,_⟩:=I.list h1
  obtain⟨jts,rw',pl',_⟩:=I.list h2
  exact PySem.W.ne_intsK pl.isList (intsAre_of rv) pl'.isList (intsAre_of rw') hu ⟨.bl _,H,I,rfl,q⟩
end
theorem shapedL {ds:List PyData} (h:∀d∈ds,d.canLay0 = true∧d.depth≤60):SeqAt.shaped (.list ds) = true:=by
  have all:∀ds:List PyData,(∀d∈ds,d.canLay0 = true∧d.depth≤60)→PyData.canLayAll0 ds = true∧PyData.depthAll ds≤60:=by
    intro ds
    induction ds with
    | nil=>intro _;simp [PyData.canLayAll0,PyData.depthAll]
    | cons d r ih=>
      intro h
      have h1:=h d List.mem_cons_self
      have h2:=ih fun z hz=>h z (List.mem_cons_of_mem _ hz)
      simp only [PyData.canLayAll0,PyData.depthAll,h1.1,h2.1,Bool.and_self,true_and]
      have:=h1.2;have:=h2.2;omega
  have z:=all ds h
  unfold SeqAt.shaped
  rw [Bool.and_eq_true]
  refine⟨by simp only [PyData.canLay0];exact z.1,decide_eq_true ?_⟩
  simp only [PyData.depth]
  have:=z.2;omega
theorem lay_ints (ns:List Int):(PyData.list (ns.map .int)).canLay0 = true∧(PyData.list (ns.map .int)).depth≤60:=by
  refine⟨by simp only [PyData.canLay0];exact PySem.W.canLayAll0_ints ns,?_⟩
  have:=PySem.W.depthAll_ints ns
  simp only [PyData.depth];omega
end L2
namespace L2
open PySem PySem.Spec PyProof.Rows
section
variable {X:Cx}
def mSum (K:PySem.W.Frag):List V→Hp→VK→Prop:=fun xs H Q=>l1 xs fun x=>vR x fun p=>∃ns:List Int,SqL K H p (ns.map V.int)∧Q (.int ns.sum) H
def mBest (K:PySem.W.Frag) (lt:Int→Int→Prop):List V→Hp→VK→Prop:=fun xs H Q=>l1 xs fun x=>vR x fun p=>∃ns:List Int,SqL K H p (ns.map V.int)∧ns≠ []∧∀m,m∈ns→(∀z∈ns,lt m z)→Q (.int m) H
def mCat:R2:=fun x y H Q=>vR x fun l=>vR y fun b=>∃xs zs,H l = some (.lst xs)∧H b = some (.lst zs)∧xs.length + zs.length≤sizeLine∧∀p,H p = none→Q (.ref p) (upd H p (.lst (xs ++ zs)))
end
end L2
namespace L2
open PySem PySem.Spec PyProof.Rows
def l3 (vs:List V) (k:V→V→V→Prop):Prop:=@List.rec V (fun _=>Prop) False (fun x r _=>l2 r fun y z=>k x y z) vs
theorem l3.ex {vs:List V} {k:V→V→V→Prop} (h:l3 vs k):∃x y z,vs = [x,y,z]∧k x y z:=by
  match vs,h with
  | [x,y,z],h=>exact⟨x,y,z,rfl,h⟩
def Itrc (lo c:Int) (n:Nat):It:=⟨fun i _=>i < n,fun i H x H'=>H' = H∧x = .int (lo + i * c),fun i _=>n≤i⟩
theorem turn_rangec {P:Program} {w:World} {K:PySem.W.Frag} {tg:Expr} (it:Addr) (lo c:Int) (n:Nat):Turn P w K tg (Itrc lo c n) [it] it (fun i h=>IsRangeIter h it (lo + (i:Nat) * c) ((n:Int) - (i:Nat)) c) where
  mem:=by simp
  obj :=fun i h st b hb=>by
    have e:b = it:=by simpa using hb
    subst e
    exact⟨_,st,fun v z=>by
      have z':Data.fields _ = Data.cell v:=z
      cases z'⟩
  keep:=fun i h h' st k=>k it (by simp) _ st
  item:=by
    intro X hP hw hK hc i pins s σ H E I hf st hg
    subst hP hw hK
    obtain⟨f0,f1,f2,f3,f4,f5⟩:=hf it (by simp)
    have W:=Walks.range (prog:=X.prog) (w:=X.w) (I.ok.hd hc) it lo c n
    refine W.item i s _ _ hg st fun v h' tk hv st' kk=>?_
    obtain⟨t,rfl⟩:=hv
    have I1:Inv X pins σ H { s with heap:=h',toks:=tk }:=I.turned (fun b o hb e=>kk b o (by simpa using hb) e) f0 f1 f3 f4 f5
    exact⟨_,rfl,go_of (s:={ s with heap:=h',toks:=tk }) (n:="range_iterator") st' rfl rfl (by decide) ⟨.int (lo + i * c),H,I1,⟨t,rfl⟩,⟨rfl,rfl⟩,st',fun b hb=>(hf b hb).1⟩⟩
  done:=by
    intro X hP hw hK hc i pins s σ H E I hf st hg
    subst hP hw hK
    obtain⟨f0,f1,f2,f3,f4,f5⟩:=hf it (by simp)
    exact wpAny_pyNext_range_end (I.ok.hd hc) st (by have:n≤i:=hg;omega) fun h' eb=>⟨rfl,I.turned (t':=s.toks) (fun b o hb e=>eb b o hb e) f0 f1 f3 f4 f5⟩
  self:=fun _ _ _ _ _ st h=>wpAny_pyIter_rangeiter st h
section
variable {X:Cx} {tg:Expr}
def dRng3 (ta:TA):TI:=fun σ H R=>ta σ H fun vs H1=>l3 vs fun x y z=>vI x fun i=>vI y fun j=>vI z fun c=>c≠0∧Builtin.divisionGoesByPylong (j - i) c = false∧∃n:Nat,Builtin.Range.small i j c = true∧Builtin.Range.rangeSize i j c = (n:Int)∧R (Itrc i c n) H1
theorem mi_range3 {a b c:Expr} {ta:TA} {p pos:Pos} (hg:Gl X "range") (hm:X.mg "range" = none) (ha:PA X [a,b,c] ta) (hs:starEach [a,b,c] X.env = (false,eval a X.env) :: starEach [b,c] X.env:=by rfl) (hs2:(backTo pos (starEach [b,c] X.env)).any (·.1) = false:=by rfl) :
    PI X tg (.Call (.Name "range" p) [a,b,c] [] pos) (dRng3 ta):=by
  intro pins s σ H R I h
  refine Call_ (ld_blt I hg hm boot_range (PyProof.Rows.callWith_type1 (thn (ha pos pins s σ H _ I h) fun us s1 ⟨vs,H1,I1,r1,q1⟩=>?_) hs hs2))
  obtain⟨x,y,z,rfl,q2⟩:=l3.ex q1
  obtain⟨i,rfl,q3⟩:=vI.ex q2
  obtain⟨j,rfl,q4⟩:=vI.ex q3
  obtain⟨c,rfl,hc,hp,n,hsm,hn,q⟩:=vI.ex q4
  cases r1 with
  | cons r rr=>
    cases rr with
    | cons r' rr=>
      cases rr with
      | cons r'' rr=>
        cases rr
        obtain⟨t,rfl⟩:=r
        obtain⟨t',rfl⟩:=r'
        obtain⟨t'',rfl⟩:=r''
        refine call_range_3 hc ?_ (.inl hp)
        refine wpAny_pyIter_range (IsRange.new ..) hsm ?_
        have I2:Inv X pins σ H1 { s1 with heap:=s1.heap.push { cls:= .type "range",data:= .fields #[.int i t,.int j t',.int c t''] },toks:=s1.toks }:=I1.kept fun b o e=>Heap.get?_push_of_some _ e
        refine⟨(s1.heap.push { cls:= .type "range",data:= .fields #[.int i t,.int j t',.int c t''] }).objs.size, [(s1.heap.push { cls:= .type "range",data:= .fields #[.int i t,.int j t',.int c t''] }).objs.size],_,_,H1,rfl,
          I2.kept (t':=s1.toks) fun b o e=>Heap.get?_push_of_some _ e,turn_rangec _ i c n,?_,fun b hb=>?_,q⟩
        · show IsRangeIter _ _ (i + ((0:Nat):Int) * c) ((n:Int) - ((0:Nat):Int)) c
          have e1:i + ((0:Nat):Int) * c = i:=by simp
          have e2:(n:Int) - ((0:Nat):Int) = Builtin.Range.rangeSize i j c:=by rw [hn];simp
          rw [e1,e2]
          exact Heap.get?_push_size _ rfl
        · have e:b = (s1.heap.push { cls:= .type "range",data:= .fields #[.int i t,.int j t',.int c t''] }).objs.size:=by simpa using hb
          subst e
          exact I2.fpOk (Nat.le_refl _) (I2.hok.fresh (Nat.le_refl _))
end
theorem for_rangec {lo c:Int} {n:Nat} {g:TG} {tb:TS} {D:Ends} {σ:St} {H:Hp} (Pv:Nat→St→Hp→Prop) (h0:Pv 0 σ H)
    (hs:∀i σ H,i < n→Pv i σ H→g (.int (lo + i * c)) σ H fun σ2 H2=>tb { D with nx:=Pv (i + 1),ct:=Pv (i + 1),bk:=D.nx } σ2 H2) (hd:∀σ H,Pv n σ H→D.nx σ H) :
    ∃ W:Nat→Nat→St→Hp→Prop,(∃m,W 0 m σ H)∧∀i m σ H,W i m σ H→
      ((Itrc lo c n).stop i H∧D.nx σ H)∨((Itrc lo c n).go i H∧∃N:St→Hp→Prop,(∀σ' H',N σ' H'→∃m',m' < m∧W (i + 1) m' σ' H')∧∀x H',(Itrc lo c n).yld i H x H'→g x σ H' fun σ2 H2=>tb { D with nx:=N,ct:=N,bk:=D.nx } σ2 H2):=by
  refine⟨fun i m σ H=>m = n - i∧i≤n∧Pv i σ H,⟨n,by simp,Nat.zero_le _,h0⟩,?_⟩
  rintro i m σ H ⟨rfl,hi,p⟩
  by_cases hlt:i < n
  · refine .inr ⟨hlt,Pv (i + 1),fun σ' H' p'=>⟨n - (i + 1),by omega,rfl,hlt,p'⟩,fun x H' y=>?_⟩
    obtain⟨e,y⟩:=y
    subst e y
    exact hs i σ _ hlt p
  · have e:i = n:=by omega
    subst e
    exact .inl ⟨Nat.le_refl _,hd σ H p⟩
section
variable {X:Cx}
def kinds (ns:List Int):Nat:=(firstMet (fun i=>ns.getD i 0) ns.length).length
def mSetOf (K:PySem.W.Frag):List V→Hp→VK→Prop:=fun xs H Q=>l1 xs fun x=>vR x fun p=>∃ns:List Int,SqL K H p (ns.map V.int)∧ns.length≤1000∧∀l S,H l = none→Q (.ref l) (upd H l (.set S (kinds ns)))
def mLenSet:List V→Hp→VK→Prop:=fun xs H Q=>l1 xs fun x=>vR x fun p=>∃S n,H p = some (.set S n)∧Q (.int (n:Nat)) H
end
end L2
namespace L2
open PySem PySem.Spec PyProof.Rows
section
variable {X:Cx} {a b c:Expr} {ta tb tc:TE} {pos:Pos}
def dChain (r r':R2) (ta tb tc:TE):TE:=fun σ H Q=>ta σ H fun x H1=>tb σ H1 fun y H2=>r x y H2 fun z H3=>vB z fun k=>if k = true then tc σ H3 fun u H4=>r' y u H4 Q else Q (.bl false) H3
theorem dChain_eq (r r':R2) (ta tb tc:TE):dChain r r' ta tb tc = tChain r r' ta tb tc:=by
  funext σ H Q
  unfold dChain tChain
  simp only [vB_iff]
theorem mt_chain {op op':CmpOp} {r r':R2} (ho:OpR X (compareOp op) r) (ho':OpR X (compareOp op') r') (ha:PE X a ta) (hb:PE X b tb) (hc:PE X c tc)
    (hm:lastMarks [op,op'] [b,c] = false:=by with_unfolding_all rfl):PT X (.Compare a [op,op'] [b,c] pos) (dTest (dChain r r' ta tb tc)):=by
  rw [dChain_eq,dTest_eq];exact pt_chain ho ho' ha hb hc hm
def mInI (K:PySem.W.Frag) (f:Bool→Bool):R2:=fun x y H Q=>vI x fun z=>vR y fun p=>∃ns:List Int,SqA K H p (ns.map V.int)∧Q (.bl (f (decide (z∈ns)))) H
end
end L2
namespace L2
open PySem PySem.Spec PyProof.Rows
section
variable {X:Cx} {K:PySem.W.Frag}
theorem z_slLK (hK:X.K = K:=by rfl):SlR X (mSlL K):=by subst hK;exact z_slL
end
end L2
namespace L2
open PySem PySem.Spec PyProof.Rows
theorem bt_all:bootBuiltins "all" = some (.builtin "all"):=by decide +kernel
section
variable {X:Cx}
def mRep:R2:=fun x y H Q=>vR x fun l=>vI y fun k=>∃xs,H l = some (.lst xs)∧(-(2 ^ 63)≤k∧k < 2 ^ 63)∧xs.length * k.toNat≤sizeLine∧∀p,H p = none→Q (.ref p) (upd H p (.lst (List.replicate k.toNat xs).flatten))
theorem z_rep:OpR X (binaryOp .Mult) mRep:=op_rep.imp fun x y H Q h=>by
  obtain⟨l,rfl,h⟩:=vR.ex h
  obtain⟨k,rfl,xs,h1,h2,h3,h4⟩:=vI.ex h
  exact⟨l,k,xs,rfl,rfl,h1,h2.1,h2.2,h3,h4⟩
theorem rep_one {α:Type} (k:Nat) (x:α):(List.replicate k [x]).flatten = List.replicate k x:=by
  induction k with
  | zero=>rfl
  | succ k ih=>rw [List.replicate_succ,List.flatten_cons,ih,List.replicate_succ];rfl
def mInt:List V→Hp→VK→Prop:=fun xs H Q=>l1 xs fun x=>@V.rec (fun _=>Prop) False (fun b=>Q (.int (if b then 1 else 0)) H) (fun i=>Q (.int i) H) (fun _=>False) (fun _=>False) (fun _=>False) (fun _=>False) (fun _=>False) x
def mIsB:R2:=fun x y H Q=>vB x fun b=>vB y fun c=>Q (.bl (b == c)) H
section
variable {o e:Expr} {es:List Expr} {to:TE} {t:TA} {apos cpos:Pos}
def dExtend (to:TE) (t:TA):TE:=fun σ H Q=>to σ H fun x H1=>vR x fun l=>(∃xs,H1 l = some (.lst xs))∧t σ H1 fun vs H2=>l1 vs fun y=>vR y fun b=>∃xs zs,H2 l = some (.lst xs)∧H2 b = some (.lst zs)∧xs.length + zs.length≤sizeLine∧Q .non (upd H2 l (.lst (xs ++ zs)))
theorem md_extend (ho:PE X o to) (ha:PA X [e] t) (hbase:attributeBase o "extend" X.env (eval o X.env) = eval o X.env:=by rfl)
    (hfew:((backTo cpos (starEach [e] X.env)).all (fun x=>!x.1) && (backToKw cpos (keywordEach [] X.env)).all (fun x=>x.1.isSome)
      && decide (([e]:List Expr).length + ([]:List Keyword).length + (if ([]:List Keyword).isEmpty then 0 else 1) < 30)) = true:=by rfl)
    (hline:(apos.endLine == cpos.line) = true:=by rfl) (hs:starEach [e] X.env = (false,eval e X.env) :: starEach [] X.env:=by rfl) (hplain:(backTo cpos (starEach [] X.env)).any (·.1) = false:=by rfl) :
    PE X (.Call (.Attribute o "extend" apos) [e] [] cpos) (dExtend to t):=
  (pe_bm PySem.F.plainAttrs_list PySem.F.slot_list_extend PySem.F.type_list_extend mt_extend (pe_cut ho) (pa_cut ha) hbase hfew hline hs hplain).imp fun σ H Q h=>⟨_,h,fun x H1 q=>by
    obtain⟨l,rfl,⟨xs,q1⟩,q2⟩:=vR.ex q
    refine⟨.inl ⟨rfl,xs,SqL.of q1⟩,_,q2,fun vs H2 q3=>?_⟩
    obtain⟨y,rfl,q3⟩:=l1.ex q3
    obtain⟨b,rfl,xs,zs,h1,h2,h3,h4⟩:=vR.ex q3
    exact⟨l,b,xs,zs,rfl,rfl,h1,h2,h3,h4⟩⟩
def dPopAt (to:TE) (t:TA):TE:=fun σ H Q=>to σ H fun x H1=>vR x fun l=>(∃xs,H1 l = some (.lst xs))∧t σ H1 fun vs H2=>l1 vs fun y=>vI y fun i=>∃xs k y,H2 l = some (.lst xs)∧(-(2 ^ 63)≤i∧i < 2 ^ 63)∧seqIndex? i xs.length = some k∧xs[k]? = some y∧Q y (upd H2 l (.lst (xs.eraseIdx k)))
end
theorem vals_bools:∀{bs:List Bool} {us:List Value},Vals (bs.map V.bl) us→us = bs.map Value.bool
  | [],_,.nil=>rfl
  | b :: r,_,.cons h t=>by
    cases (show _ = Value.bool b from h)
    rw [vals_bools t];rfl
def mAll (K:PySem.W.Frag):List V→Hp→VK→Prop:=fun xs H Q=>l1 xs fun x=>vR x fun p=>∃bs:List Bool,SqL K H p (bs.map V.bl)∧Q (.bl (bs.all id)) H
theorem all_range (bs:List Bool):(List.range bs.length).all (fun i=>bs.getD i false) = bs.all id:=by
  have e:(List.range bs.length).map (fun i=>bs.getD i false) = bs:=by
    apply List.ext_getElem
    · simp
    · intro i h1 h2
      simp [List.getD_eq_getElem?_getD,h2]
  conv=>rhs;rw [←e,List.all_map]
  rfl
theorem z_all (hc:X.calm = true):CallR X (.builtin "all") (mAll X.K):=by
  intro pins s σ H xs us Q I r h
  obtain⟨x,rfl,h⟩:=l1.ex h
  obtain⟨p,rfl,bs,hS,q⟩:=vR.ex h
  obtain⟨u,rfl,ru⟩:=vals1 r
  cases ru
  obtain⟨its,rv,pl,_⟩:=I.list hS
  have ei:=vals_bools rv
  subst ei
  have hl:=pl.isList
  have hlt:p < s.heap.objs.size:=by obtain⟨_,e,_⟩:=hl;exact Heap.lt_size e
  refine call_all_walk (wpAny_pyIter_list hl ?_)
  refine⟨_,_,_,_,_,_,fun i=>bs.getD i false,rfl,Walks.list (A:=X.A.in1) (I.ok.hd hc) _ p (Nat.ne_of_lt hlt) _,⟨⟨_,Heap.get?_push_size _ rfl,rfl,rfl⟩,hl.push _⟩,?_,fun h' tk hk=>?_⟩
  · intro i v s' Q' E' hP hq
    have hv:(bs.map Value.bool)[i]? = some v:=by simpa using hP
    rw [List.getElem?_map] at hv
    obtain⟨b,hb,rfl⟩:=Option.map_eq_some_iff.mp hv
    have:bs.getD i false = b:=by rw [List.getD_eq_getElem?_getD,hb];rfl
    simp only [this] at hq
    exact wpAny_truthy_bool hq
  · have e:(bs.map Value.bool).toArray.size = bs.length:=by simp
    rw [e,all_range]
    exact⟨.bl _,H,I.kept (old_kept hk),rfl,q⟩
end
end L2
namespace L2
open PySem PySem.Spec PyProof.Rows
def Its (z:Str):It:=⟨fun i _=>i < z.cps.size,fun i H x H'=>H' = H∧∃c,z.cps[i]? = some c∧x = .str ⟨#[c]⟩,fun i _=>z.cps.size≤i⟩
section
variable {prog:Program} {w:World} {A:Around} {E:Value→Shared→Prop} {s:Shared} {it:Addr} {z:Str} {t:Tok} {i:Nat}
theorem next_text {c:Nat} {Q:Option Value→Shared→Prop} (hit:s.heap.IsStrIter it (strIterType z) z t i) (hx:z.cps[i]? = some c)
    (hQ:∀h',h'.IsStrIter it (strIterType z) z t (i + 1)→Heap.SameBut it s.heap h'→Q (some (.str ⟨#[c]⟩ s.toks)) { s with heap:=h',toks:=s.toks + 1 }):wpAny (model prog w) A (pyNext (.ref it)) Q E s:=by
  unfold strIterType at hit hQ
  split at hit
  · rename_i h;simp only [h] at hQ;exact wpAny_pyNext_ascii_item hit hx hQ
  · rename_i h;simp only [h] at hQ;exact wpAny_pyNext_wide_item hit hx hQ
theorem end_text {Q:Option Value→Shared→Prop} (hh:A.handled = none) (hit:s.heap.IsStrIter it (strIterType z) z t i) (hx:z.cps[i]? = none) (hQ:∀h',Heap.ExtBut it s.heap h'→Q none { s with heap:=h' }) :
    wpAny (model prog w) A (pyNext (.ref it)) Q E s:=by
  unfold strIterType at hit
  split at hit
  · exact wpAny_pyNext_ascii_end hh hit hx hQ
  · exact wpAny_pyNext_wide_end hh hit hx hQ
theorem self_text {Q:Value→Shared→Prop} (hit:s.heap.IsStrIter it (strIterType z) z t i) (h:Q (.ref it) s):wpAny (model prog w) A (pyIter (.ref it)) Q E s:=by
  unfold strIterType at hit
  split at hit
  · exact wpAny_pyIter_striter_ascii hit h
  · exact wpAny_pyIter_striter_wide hit h
end
theorem turn_text {P:Program} {w:World} {K:PySem.W.Frag} {tg:Expr} (z:Str) (t:Tok) (it:Addr):Turn P w K tg (Its z) [it] it (fun i h=>h.IsStrIter it (strIterType z) z t i) where
  mem:=by simp
  obj:=fun i h st b hb=>by
    have e:b = it:=by simpa using hb
    subst e
    obtain⟨o,e,_,d⟩:=st
    exact⟨o,e,fun v y=>by rw [d] at y;cases y⟩
  keep:=fun i h h' ⟨o,e,r⟩ k=>⟨o,k it (by simp) o e,r⟩
  item:=by
    intro X hP hw hK hc i pins s σ H E I hf st hg
    subst hP hw hK
    have hg':i < z.cps.size:=hg
    have hx:z.cps[i]? = some z.cps[i]:=Array.getElem?_eq_getElem hg'
    obtain⟨f0,f1,f2,f3,f4,f5⟩:=hf it (by simp)
    refine next_text st hx fun h' st' sb=>?_
    have I1:Inv X pins σ H { s with heap:=h',toks:=s.toks + 1 }:=I.turned (fun b o hb e=>(sb.2 b hb).trans e) f0 f1 f3 f4 f5
    obtain⟨o,e,c,d⟩:=id st'
    refine⟨_,rfl,go_of (s:={ s with heap:=h',toks:=s.toks + 1 }) (n:=strIterType z) e c d ?_ ⟨.str ⟨#[z.cps[i]]⟩,H,I1,⟨_,rfl⟩,⟨rfl,_,hx,rfl⟩,st',fun b hb=>(hf b hb).1⟩⟩
    unfold strIterType
    split <;> decide
  done:=by
    intro X hP hw hK hc i pins s σ H E I hf st hg
    subst hP hw hK
    have hg':z.cps.size≤i:=hg
    obtain⟨f0,f1,f2,f3,f4,f5⟩:=hf it (by simp)
    exact end_text (I.ok.hd hc) st (Array.getElem?_eq_none hg') fun h' eb=>⟨rfl,I.turned (t':=s.toks) (fun b o hb e=>eb b o hb e) f0 f1 f3 f4 f5⟩
  self:=fun _ _ _ _ _ st h=>self_text st h
section
variable {X:Cx} {tg:Expr}
def iText (tl:TE):TI:=fun σ H R=>tl σ H fun x H1=>vS x fun z=>R (Its z) H1
theorem mi_text {l:Expr} {tl:TE} (hl:PE X l tl):PI X tg l (iText tl):=by
  intro pins s σ H R I h
  refine thn (hl pins s σ H _ I h) fun v s1 ⟨x,H1,I1,r1,q1⟩=>?_
  obtain⟨z,rfl,q⟩:=vS.ex q1
  obtain⟨t,rfl⟩:=(show ∃t,v = Value.str z t from r1)
  refine wpAny_pyIter_strU ?_
  refine⟨s1.heap.objs.size, [s1.heap.objs.size],_,_,H1,rfl,I1.kept (t':=s1.toks) fun b o e=>Heap.get?_push_of_some _ e,turn_text z t _,⟨_,Heap.get?_push_size _ rfl,rfl,rfl⟩,fun b hb=>?_,q⟩
  have e:b = s1.heap.objs.size:=by simpa using hb
  subst e
  exact I1.fpOk (Nat.le_refl _) (I1.hok.fresh (Nat.le_refl _))
end
theorem comp_text {z:Str} {tt:TT} {te:TE} {σc:V→St} {H:Hp} {Q:VK} (Pv:Nat→List V→Hp→Prop) (hn:∀i ys H,i≤z.cps.size→Pv i ys H→ys.length < sizeLine) (h0:Pv 0 [] H)
    (hs:∀i c ys H,z.cps[i]? = some c→Pv i ys H→tt (σc (.str ⟨#[c]⟩)) H fun b H3=>if b = true then te (σc (.str ⟨#[c]⟩)) H3 fun y H4=>Pv (i + 1) (ys ++ [y]) H4 else Pv (i + 1) ys H3)
    (hd:∀ys H,Pv z.cps.size ys H→∀p,H p = none→Q (.ref p) (upd H p (.lst ys))):cWord (Its z) tt te σc H Q:=by
  refine⟨fun i m ys H=>m = z.cps.size - i∧i≤z.cps.size∧Pv i ys H,⟨z.cps.size,by simp,Nat.zero_le _,h0⟩,?_⟩
  rintro i m ys H ⟨rfl,hi,p⟩
  refine⟨hn i ys H hi p,?_⟩
  by_cases hlt:i < z.cps.size
  · refine .inr ⟨hlt,fun ys' H'=>Pv (i + 1) ys' H',fun ys' H' q=>⟨_,by omega,rfl,hlt,q⟩,?_⟩
    rintro x H' ⟨rfl,c,hc,rfl⟩
    exact hs i c ys _ hc p
  · have e:i = z.cps.size:=by omega
    subst e
    exact .inl ⟨Nat.le_refl _,hd ys H p⟩
end L2
namespace L2
open PySem PySem.Spec PyProof.Rows Builtin Builtin.Str
def txt (l:List Nat):PySem.Str:=⟨l.toArray⟩
theorem txt_len (l:List Nat):(txt l).length = l.length:=by simp [txt,PySem.Str.length]
theorem txt_cps (l:List Nat):(txt l).cps.toList = l:=by simp [txt]
theorem txt_of (z:PySem.Str):txt z.cps.toList = z:=by cases z;simp [txt]
theorem txt_add (l m:List Nat):txt l ++ txt m = txt (l ++ m):=by
  show (⟨l.toArray ++ m.toArray⟩:PySem.Str) = ⟨(l ++ m).toArray⟩
  simp
theorem idx_lo (h:Option Int) (n:Nat):strSliceIndices none h 1 n = strSliceIndices (some ((0:Nat):Int)) h 1 n:=by
  have e:max (0:Int) (min 0 (n:Int)) = 0:=by omega
  simp [strSliceIndices,e]
theorem idx_hi (l:Option Int) (n:Nat):strSliceIndices l none 1 n = strSliceIndices l (some (n:Int)) 1 n:=by
  have h:¬ ((n:Int) < 0):=by omega
  have e:max (0:Int) (min (n:Int) (n:Int)) = n:=by omega
  simp [strSliceIndices,h,e]
section
variable {X:Cx}
def mSlS:V→Option Int→Option Int→Hp→VK→Prop:=fun x lo hi H Q=>vS x fun z=>∃a b:Nat,(a≤b∧b≤z.length∧z.length≤sizeLine)∧(lo = none∧a = 0∨lo = some (a:Int))∧(hi = none∧b = z.length∨hi = some (b:Int))∧Q (.str (txt ((z.cps.toList.drop a).take (b - a)))) H
theorem z_slS:SlR X mSlS:=by
  intro pins s σ H x v vl vu lo hi sl Q I rx hs pl pu h
  obtain⟨z,rfl,a,b,⟨hab,hb,hz⟩,ha',hb',q⟩:=vS.ex h
  obtain⟨t,rfl⟩:=(show ∃t,v = Value.str z t from rx)
  refine⟨"str",_,F.slot_str_getitem.lookup,typeIs_str _ _ _,?_⟩
  have key:∀l u:Option (Int×Tok),vl = partValue l→vu = partValue u→l.map (·.1) = lo→u.map (·.1) = hi→wpAny (model X.prog X.w) X.A (getItem (.str z t) (.ref sl)) (EP X pins σ Q) X.xe s:=by
    intro l u e1 e2 e3 e4
    subst e1 e2
    obtain⟨o,ho,hc,hd⟩:=hs
    refine wpAny_getItem_str_slice (l:=l) (u:=u) (st:=none) ⟨o,ho,hc,hd⟩ rfl ?_
    have hp:((slicePicked z l u none).filterMap (z.cps[·]?)) = (z.cps.toList.drop a).take (b - a):=by
      unfold slicePicked
      rw [e3,e4]
      show (strSliceIndices lo hi 1 z.length).filterMap _ = _
      rcases ha' with ⟨rfl,rfl⟩ | rfl
      · rcases hb' with ⟨rfl,rfl⟩ | rfl
        · rw [idx_lo,idx_hi];exact StrLaws.sliced_plain z hab hb
        · rw [idx_lo];exact StrLaws.sliced_plain z hab hb
      · rcases hb' with ⟨rfl,rfl⟩ | rfl
        · rw [idx_hi];exact StrLaws.sliced_plain z hab hb
        · exact StrLaws.sliced_plain z hab hb
    have hl:(slicePicked z l u none).length = b - a:=by
      unfold slicePicked
      rw [e3,e4]
      show (strSliceIndices lo hi 1 z.length).length = _
      rcases ha' with ⟨rfl,rfl⟩ | rfl
      · rcases hb' with ⟨rfl,rfl⟩ | rfl
        · rw [idx_lo,idx_hi,StrLaws.strSliceIndices_plain hab hb];simp
        · rw [idx_lo,StrLaws.strSliceIndices_plain hab hb];simp
      · rcases hb' with ⟨rfl,rfl⟩ | rfl
        · rw [idx_hi,StrLaws.strSliceIndices_plain hab hb];simp
        · rw [StrLaws.strSliceIndices_plain hab hb];simp
    unfold sliceMade
    split
    · rename_i hw
      have hw2:(slicePicked z l u none).length = z.length:=by
        simp only [Bool.and_eq_true,beq_iff_eq] at hw
        exact hw.2
      rw [hl] at hw2
      have a0:a = 0:=by omega
      have b0:b = z.length:=by omega
      subst a0 b0
      have ez:txt ((z.cps.toList.drop 0).take (z.length - 0)) = z:=by
        rw [List.drop_zero,List.take_of_length_le (by simp [PySem.Str.length]),txt_of]
      rw [ez] at q
      exact⟨.str z,H,I,⟨_,rfl⟩,q⟩
    · rw [hp]
      refine⟨?_,⟨.str _,H,I.tok _,⟨_,rfl⟩,q⟩⟩
      have:((z.cps.toList.drop a).take (b - a)).length≤b - a:=List.length_take_le ..
      show (((z.cps.toList.drop a).take (b - a)).toArray).size≤sizeLine
      rw [List.size_toArray]
      omega
  cases pl with
  | none=>
    cases pu with
    | none=>exact key none none rfl rfl rfl rfl
    | int j u=>exact key none (some (j,u)) rfl rfl rfl rfl
  | int i u=>
    cases pu with
    | none=>exact key (some (i,u)) none rfl rfl rfl rfl
    | int j u'=>exact key (some (i,u)) (some (j,u')) rfl rfl rfl rfl
def mAddS:R2:=fun x y H Q=>vS x fun i=>vS y fun j=>i.length + j.length≤sizeLine∧Q (.str (i ++ j)) H
theorem z_addS:OpR X (binaryOp .Add) mAddS:=op_add_str.imp fun x y H Q h=>by
  obtain⟨i,rfl,h1⟩:=vS.ex h
  obtain⟨j,rfl,h2,q⟩:=vS.ex h1
  exact⟨i,j,rfl,rfl,h2,q⟩
theorem strs_of:∀{ts:List PySem.Str} {us:List Value},Vals (ts.map V.str) us→∃l:List (PySem.Str×Tok),us = strValues l∧l.map (·.1) = ts
  | [],_,h=>by cases h;exact⟨[],rfl,rfl⟩
  | z :: r,_,h=>by
    cases h with
    | cons a b=>
      obtain⟨t,rfl⟩:=(show ∃t,_ = Value.str z t from a)
      obtain⟨l,rfl,e⟩:=strs_of b
      exact⟨(z,t) :: l,rfl,by rw [List.map_cons,e]⟩
def rJoin:V→List V→Hp→VK→Prop:=fun x vs H Q=>∃z l ts,x = .str z∧vs = [.ref l]∧H l = some (.lst (ts.map V.str))∧JoinOk z ts = true∧Q (.str (Txt.join z ts)) H
theorem mt_join:MtM X "str.join" rJoin:=by
  intro pins s σ H x vs v us Q I rx rv h
  obtain⟨z,l,ts,rfl,rfl,hH,hok,q⟩:=h
  obtain⟨t,rfl⟩:=(show ∃t,v = Value.str z t from rx)
  obtain⟨u,rfl,ru⟩:=rv.one
  cases ru
  obtain⟨hz,its,n,r,hl,e⟩:=I.lstM hH
  obtain⟨ps,rfl,e2⟩:=strs_of r
  exact SC.join ⟨_,e,rfl,_,rfl⟩ e2 hok fun t' k=>⟨.str _,H,I.tok k,⟨_,rfl⟩,q⟩
end
section
variable {X:Cx} {o e:Expr} {to:TE} {t:TA} {apos cpos:Pos}
def dJoin (to:TE) (t:TA):TE:=fun σ H Q=>to σ H fun x H1=>vS x fun z=>t σ H1 fun vs H2=>l1 vs fun y=>vR y fun l=>∃ts,H2 l = some (.lst (ts.map V.str))∧JoinOk z ts = true∧Q (.str (Txt.join z ts)) H2
theorem md_join (ho:PE X o to) (ha:PA X [e] t) (hbase:attributeBase o "join" X.env (eval o X.env) = eval o X.env:=by rfl)
    (hfew:((backTo cpos (starEach [e] X.env)).all (fun x=>!x.1) && (backToKw cpos (keywordEach [] X.env)).all (fun x=>x.1.isSome)
      && decide (([e]:List Expr).length + ([]:List Keyword).length + (if ([]:List Keyword).isEmpty then 0 else 1) < 30)) = true:=by rfl)
    (hline:(apos.endLine == cpos.line) = true:=by rfl) (hs:starEach [e] X.env = (false,eval e X.env) :: starEach [] X.env:=by rfl) (hplain:(backTo cpos (starEach [] X.env)).any (·.1) = false:=by rfl) :
    PE X (.Call (.Attribute o "join" apos) [e] [] cpos) (dJoin to t):=
  (pe_bm PySem.F.plainAttrs_str PySem.F.slot_str_join PySem.F.type_str_join mt_join (pe_cut ho) (pa_cut ha) hbase hfew hline hs hplain).imp fun σ H Q h=>⟨_,h,fun x H1 q=>by
    obtain⟨z,rfl,q2⟩:=vS.ex q
    refine⟨rfl,_,q2,fun vs H2 q3=>?_⟩
    obtain⟨y,rfl,q4⟩:=l1.ex q3
    obtain⟨l,rfl,ts,h1,h2,h3⟩:=vR.ex q4
    exact⟨z,l,ts,rfl,rfl,h1,h2,h3⟩⟩
end
theorem glue_empty:∀(ls:List (List Nat)) (acc:Array Nat),(ls.map txt).foldl (fun acc p=>acc ++ (txt []).cps ++ p.cps) acc = acc ++ ls.flatten.toArray
  | [],acc=>by simp
  | l :: r,acc=>by
    rw [List.map_cons,List.foldl_cons,glue_empty r]
    simp [txt,Array.append_assoc]
theorem join_empty (ls:List (List Nat)):Txt.join (txt []) (ls.map txt) = txt ls.flatten:=by
  unfold Txt.join glued
  cases ls with
  | nil=>rfl
  | cons l r=>
    show (⟨_⟩:PySem.Str) = _
    rw [List.map_cons,List.drop_one,List.tail_cons,List.headD_cons,glue_empty r]
    simp [txt]
end L2
namespace L2
open PySem PySem.Spec PyProof.Rows
section
variable {X:Cx} {o e value:Expr} {es:List Expr} {to ta tv:TE} {t:TA} {apos cpos pos pos':Pos} {C:Addr} {f m:Str}
def dClear (to:TE):TE:=fun σ H Q=>to σ H fun x H1=>vR x fun l=>∃xs,H1 l = some (.lst xs)∧Q .non (upd H1 l (.lst []))
theorem md_clear (ho:PE X o to) (hbase:attributeBase o "clear" X.env (eval o X.env) = eval o X.env:=by rfl) (hline:(apos.endLine == cpos.line) = true:=by rfl):PE X (.Call (.Attribute o "clear" apos) [] [] cpos) (dClear to):=
  (pe_bm0 PySem.F.plainAttrs_list PySem.F.slot_list_clear PySem.F.type_list_clear mt_clear (pe_cut ho) hbase hline).imp fun σ H Q h=>⟨_,h,fun x H1 q=>by
    obtain⟨l,rfl,xs,h1,h2⟩:=vR.ex q
    exact⟨.inl ⟨rfl,xs,SqL.of h1⟩,l,xs,rfl,rfl,h1,h2⟩⟩
def dFld (C:Addr) (ta:TE) (f:Str):TE:=fun σ H Q=>ta σ H fun x H1=>vR x fun a=>∃dx fs v,H1 a = some (.ins C dx fs)∧fs.lookup f = some v∧Q v H1
def dSet (C:Addr) (ta tv:TE) (f:Str):TS:=fun D σ H=>tv σ H fun y H1=>ta σ H1 fun x H2=>vR x fun a=>∃dx fs,H2 a = some (.ins C dx fs)∧fs.length < 1000∧D.nx σ (upd H2 a (.ins C dx (putF f y fs)))
variable {CX:CXT} {k:Nat} {fa:Addr} {fd:FuncData} {ps:List Str} {sp:Sp} {dvs:List V} {ds:List Value} {E:XK}
def dMeth (C:Addr) (m:Str) (sp:Sp) (dvs:List V) (E:XK) (ta:TE) (t:TA):TE:=fun σ H Q=>ta σ H fun x H1=>vR x fun a=>(∃dx fs,H1 a = some (.ins C dx fs)∧fs.lookup m = none)∧t σ H1 fun vs H2=>sp (.ref a :: (vs ++ dvs)) H2 Q E
end
end L2
namespace L2
open PySem PySem.Spec PyProof.Rows
theorem bt_enumerate:bootBuiltins "enumerate" = some (.type "enumerate"):=by decide +kernel
section
variable {X:Cx} {pins:List (Addr×Obj)} {σ:St} {H:Hp} {s:Shared}
theorem Inv.turnedT {h':Heap} {t':Nat} {fp:List Addr} {T:Addr} {xs:List V} (I:Inv X pins σ H s) (hf:∀b∈fp,FpOk X pins H b) (k:∀b o,b∉fp→s.heap.get? b = some o→h'.get? b = some o) (hT:s.heap.objs.size≤T)
    (new:ObjOk X.prog X.w (upd H T (.tup xs)) h' T (.tup xs)):Inv X pins σ (upd H T (.tup xs)) { s with heap:=h',toks:=t' }:=by
  have hN:H T = none:=I.hok.fresh hT
  have neT:∀b o,s.heap.get? b = some o→b≠T:=fun b o e z=>by
    have:=Heap.lt_size e
    rw [z] at this
    exact absurd (Nat.lt_of_lt_of_le this hT) (Nat.lt_irrefl _)
  have up:∀b u,H b = some u→upd H T (.tup xs) b = some u:=fun b u e=>by rw [upd_ne (ne_of_none e hN)];exact e
  have nit:∀b u,H b = some u→b∉fp:=fun b u e z=>by rw [(hf b z).1] at e;cases e
  refine I.step (g':=s.gens) (d':=s.drawn) (ch:=fp) (fun b hb=>?_) (fun b o _ _ hc e _=>k b o hc e) (fun b o _ _ hc e _=>⟨o.slots,k b o hc e⟩) (fun b o _ e n=>by rw [upd_ne (neT b o e)];exact n)
    (fun b o hc e=>⟨o,k b o hc e⟩) (fun b _ e=>up b _ e) (fun b _ _ e=>up b _ e) (fun b ps e=>⟨#[],by rw [up b _ e];simp⟩) (fun m hm=>?_) (fun b u e=>?_) I.bare
  · obtain⟨f0,f1,f2,f3,f4,f5⟩:=hf b hb
    exact⟨f3,f1,f4,f5⟩
  · obtain⟨o,es,ep,ho,r⟩:=hm
    exact⟨o,es,ep,k _ o (fun z=>(hf _ z).2.1 rfl) ho,r⟩
  · by_cases hb:b = T
    · subst hb
      rw [upd_same] at e
      cases e
      exact new
    · rw [upd_ne hb] at e
      refine(I.hok b u e).stay (fun c v hc q=>k c v ?_ q) (fun _ q=>up _ _ q) fun _ _ q=>up _ _ q
      rcases hc with z | z
      · rw [z];exact nit b u e
      · exact nit c _ z
end
def Ite (K:PySem.W.Frag) (a:Addr):It:=
  ⟨fun i H=>∃xs x,SqL K H a xs∧xs[i]? = some x,fun i H v H'=>∃p x,H p = none∧v = .ref p∧(∀xs,SqL K H a xs→xs[i]? = some x)∧H' = upd H p (.tup [.int ((i:Nat):Int),x]),fun i H=>∃xs,SqL K H a xs∧xs.length≤i⟩
theorem turn_enum {P:Program} {w:World} {K:PySem.W.Frag} {elts:List Expr} {k':Nat} {pos:Pos} (a e it:Addr) (hei:e≠it) :
    Turn P w K (.Tuple elts k' pos) (Ite K a) [e,it] e (fun i h=>(∃old,IsEnum h e it ((i:Nat):Int) old)∧h.IsListIter it a i) where
  mem:=by simp
  obj := fun i h st b hb=>by
    obtain⟨⟨old,he⟩,o,e1,c,d⟩:=st
    simp only [List.mem_cons,List.not_mem_nil,or_false] at hb
    rcases hb with rfl | rfl
    · exact⟨_,he,fun v z=>by
        have z':Data.fields _ = Data.cell v:=z
        cases z'⟩
    · exact⟨o,e1,fun v z=>by rw [d] at z;cases z⟩
  keep:=fun i h h' st k=>by
    obtain⟨⟨old,he⟩,hit⟩:=st
    exact⟨⟨old,k e (by simp) _ he⟩,hit.at fun o x=>k it (by simp) o x⟩
  item :=by
    intro X hP hw hK hc i pins s σ H E I hf st hg
    subst hP hw hK
    obtain⟨⟨old,he⟩,hit⟩:=st
    obtain⟨xs,x,hq,hx⟩:=hg
    obtain⟨its,rv,p,hz⟩:=I.list hq
    obtain⟨u,hu,ru⟩:=rv.get hx
    refine wpAny_pyNext_enum_item he hit p.isList (x:=u) (by simpa using hu) hei fun h1 ho hit1 hT hsz hk=>?_
    refine⟨_,rfl,wpAny_letOwnedTupleGo_enum (s:={ s with heap:=h1,toks:=s.toks + 1 }) ho fun h2 he2 hs2=>?_⟩
    have hs2':Heap.SameBut e h1 h2:=hs2
    have eT:e≠s.heap.objs.size:=Nat.ne_of_lt (Heap.lt_size he)
    have iT:it≠s.heap.objs.size:=by obtain⟨o,e1,_⟩:=hit;exact Nat.ne_of_lt (Heap.lt_size e1)
    have hN:H s.heap.objs.size = none:=I.hok.fresh (Nat.le_refl _)
    refine⟨.ref s.heap.objs.size,upd H s.heap.objs.size (.tup [.int ((i:Nat):Int),x]),I.turnedT hf (fun b o hb q=>?_) (Nat.le_refl _) ?_,rfl,⟨_,x,hN,rfl,fun ys hy=>by rw [I.list_inj hy hq];exact hx,rfl⟩,⟨⟨u,?_⟩,?_⟩,fun b hb=>?_⟩
    · have b1:b≠e:=fun z=>hb (by simp [z])
      have b2:b≠it:=fun z=>hb (by simp [z])
      exact(hs2'.2 b b1).trans (hk b o b1 b2 q)
    · exact⟨(by show 2≤sizeLine;decide), [.int ((i:Nat):Int) s.toks,u],.cons ⟨_,rfl⟩ (.cons ru .nil),⟨_,(hs2'.2 _ (Ne.symm eT)).trans hT,rfl,_,rfl⟩⟩
    · have:((i + 1:Nat):Int) = ((i:Nat):Int) + 1:=by push_cast;rfl
      rw [this];exact he2
    · exact hit1.at fun o y=>(hs2'.2 it (Ne.symm hei)).trans y
    · have h1:=(hf b hb).1
      have:b≠s.heap.objs.size:=by
        simp only [List.mem_cons,List.not_mem_nil,or_false] at hb
        rcases hb with rfl | rfl
        · exact eT
        · exact iT
      rw [upd_ne this];exact h1
  done:=by
    intro X hP hw hK hc i pins s σ H E I hf st hg
    subst hP hw hK
    obtain⟨⟨old,he⟩,hit⟩:=st
    obtain⟨xs,hq,hx⟩:=hg
    obtain⟨its,rv,p,hz⟩:=I.list hq
    obtain⟨f0,f1,f2,f3,f4,f5⟩:=hf it (by simp)
    have hl:=rv.length
    exact wpAny_pyNext_enum_end (I.ok.hd hc) he hit p.isList (Array.getElem?_eq_none (by simp;omega)) fun h' eb=>⟨rfl,I.turned (t':=s.toks) (fun b o hb e=>eb b o hb e) f0 f1 f3 f4 f5⟩
  self:=fun _ _ _ _ _ st h=>by
    obtain⟨⟨old,he⟩,_⟩:=st
    exact wpAny_pyIter_enum he h
section
variable {X:Cx}
def dEnum (K:PySem.W.Frag) (ta:TA):TI:=fun σ H R=>ta σ H fun vs H1=>l1 vs fun x=>vR x fun a=>(∃xs,SqL K H1 a xs)∧R (Ite K a) H1
theorem mi_enum {a:Expr} {ta:TA} {p pos tpos:Pos} {elts:List Expr} {k':Nat} (hg:Gl X "enumerate") (hm:X.mg "enumerate" = none) (ha:PA X [a] ta) (hs:starEach [a] X.env = [(false,eval a X.env)]:=by rfl) :
    PI X (.Tuple elts k' tpos) (.Call (.Name "enumerate" p) [a] [] pos) (dEnum X.K ta):=by
  intro pins s σ H R I h
  refine Call_ (ld_blt I hg hm bt_enumerate (PyProof.Rows.callWith_type1 (thn (ha pos pins s σ H _ I h) fun us s1 ⟨vs,H1,I1,r1,q1⟩=>?_) hs rfl))
  obtain⟨x,rfl,q1⟩:=l1.ex q1
  obtain⟨l,rfl,⟨xs,hq⟩,q⟩:=vR.ex q1
  obtain⟨u,rfl,ru⟩:=vals1 r1
  cases ru
  obtain⟨its,rv,pl,hz⟩:=I1.list hq
  refine call_enumerate_list pl.isList fun h' he hit hsz hk=>?_
  refine wpAny_pyIter_enum (s:={ s1 with heap:=h' }) he ?_
  have I2:Inv X pins σ H1 { s1 with heap:=h' }:=I1.kept (t':=s1.toks) hk
  refine⟨s1.heap.objs.size + 1, [s1.heap.objs.size + 1,s1.heap.objs.size],_,_,H1,rfl,I2,turn_enum l _ _ (Nat.succ_ne_self _),⟨⟨_,he⟩,hit⟩,fun b hb=>?_,q⟩
  simp only [List.mem_cons,List.not_mem_nil,or_false] at hb
  rcases hb with rfl | rfl
  · exact I1.fpOk (Nat.le_succ _) (I1.hok.fresh (Nat.le_succ _))
  · exact I1.fpOk (Nat.le_refl _) (I1.hok.fresh (Nat.le_refl _))
end
def gT2 (K:PySem.W.Frag) (i j:Nat):TG:=fun v σ H Q=>vR v fun a=>∃x y,SqT K H a [x,y]∧Q ((σ.set i (some x)).set j (some y)) H
theorem mg2 {X:Cx} {tg:Expr} {i j:Nat} (h:PG X tg (gTup X.K 2 (gCons (gName i) (gCons (gName j) gNil)))):PG X tg (gT2 X.K i j):=by
  intro pins s σ H v u Q I r q
  obtain⟨a,rfl,x,y,h1,h2⟩:=vR.ex q
  exact h pins s σ H _ u Q I r ⟨a,_,rfl,h1,rfl,_,_,rfl,_,_,rfl,rfl,h2⟩
theorem for_enum {K:PySem.W.Frag} {a:Addr} {xs:List V} {g:TG} {tb:TS} {D:Ends} {σ:St} {H:Hp} (Pv:Nat→St→Hp→Prop) (h0:Pv 0 σ H) (hl:∀i σ H,i≤xs.length→Pv i σ H→SqL K H a xs)
    (hs:∀i x σ H p,xs[i]? = some x→Pv i σ H→H p = none→g (.ref p) σ (upd H p (.tup [.int ((i:Nat):Int),x])) fun σ2 H2=>tb { D with nx:=Pv (i + 1),ct:=Pv (i + 1),bk:=D.nx } σ2 H2) (hd:∀σ H,Pv xs.length σ H→D.nx σ H) :
    ∃ W:Nat→Nat→St→Hp→Prop,(∃m,W 0 m σ H)∧∀i m σ H,W i m σ H→
      ((Ite K a).stop i H∧D.nx σ H)∨((Ite K a).go i H∧∃N:St→Hp→Prop,(∀σ' H',N σ' H'→∃m',m' < m∧W (i + 1) m' σ' H')∧∀x H',(Ite K a).yld i H x H'→g x σ H' fun σ2 H2=>tb { D with nx:=N,ct:=N,bk:=D.nx } σ2 H2):=by
  refine⟨fun i m σ H=>m = xs.length - i∧i≤xs.length∧Pv i σ H,⟨xs.length,by simp,Nat.zero_le _,h0⟩,?_⟩
  rintro i m σ H ⟨rfl,hi,p⟩
  have q:=hl i σ H hi p
  by_cases hlt:i < xs.length
  · refine .inr ⟨⟨xs,xs[i],q,by simp [hlt]⟩,Pv (i + 1),fun σ' H' p'=>⟨xs.length - (i + 1),by omega,rfl,hlt,p'⟩,?_⟩
    rintro v H' ⟨t,x,ht,rfl,hx,rfl⟩
    exact hs i x σ H t (hx xs q) p ht
  · have e:i = xs.length:=by omega
    subst e
    exact .inl ⟨⟨xs,q,Nat.le_refl _⟩,hd σ H p⟩
end L2
namespace L2
open PySem PySem.Spec PyProof.Rows
section
variable {X:Cx}
noncomputable def eDat (h:Heap) (d:PyData):Value→Bool:=by
  classical
  exact fun y=>if g:∃d' as,Reads h y d' as then PyData.eqv g.choose d else false
def mInD (K:PySem.W.Frag) (f:Bool→Bool):R2:=fun x y H Q=>vR y fun p=>∃d ds xs,DV K H x d∧SqL K H p xs∧DVs K H xs ds∧SeqAt.shaped d = true∧(∀e∈ds,SeqAt.shaped e = true)∧Q (.bl (f (ds.any fun e=>PyData.eqv e d))) H
end
def prD (p:Int×Int):PyData:= .tuple [.int p.1,.int p.2]
inductive PrsQ (K:PySem.W.Frag) (H:Hp):List Addr→List (Int×Int)→Prop
  | nil:PrsQ K H [] []
  | cons {q:Addr} {p:Int×Int} {qs:List Addr} {ps:List (Int×Int)}:SqT K H q [.int p.1,.int p.2]→PrsQ K H qs ps→PrsQ K H (q :: qs) (p :: ps)
section
variable {X:Cx}
def mInP (K:PySem.W.Frag) (f:Bool→Bool):R2:=fun x y H Q=>vR x fun t=>vR y fun l=>∃(p:Int×Int) (ps:List (Int×Int)) (qs:List Addr),SqT K H t [.int p.1,.int p.2]∧SqL K H l (qs.map V.ref)∧PrsQ K H qs ps∧Q (.bl (f (decide (p∈ps)))) H
end
end L2
namespace L2
open PySem
end L2
namespace L2
open PySem
def TupK (K:PySem.W.Frag) (a:Addr) (ns:List Int):Prop:=∃(o:Obj) (its:Array Value) (n:Nat),K.lookup a = some o∧o.cls = .type "tuple"∧o.data = .seq its n∧its.size≤sizeLine∧Vals (ns.map V.int) its.toList
end L2
namespace L2
open PySem PySem.Spec PyProof.Rows
theorem ps_dead {X:Cx} {s:Stmt}:PS X s (fun _ _ _=>False):=fun _ _ _ _ _ _ h=>h.elim
end L2
namespace L2
open PySem PySem.Spec PyProof.Rows
def mNotB:R2:=fun x y H Q=>vB x fun b=>vB y fun c=>Q (.bl (b != c)) H
end L2
namespace L2
open PySem PySem.Spec PyProof.Rows
section
variable {X:Cx} {o e:Expr} {to:TE} {t:TA} {apos cpos:Pos}
def rZfill:V→List V→Hp→VK→Prop:=fun x vs H Q=>∃z i,x = .str z∧vs = [.int i]∧PadOk i = true∧Q (.str (Txt.zfill z i)) H
theorem mt_zfill:MtM X "str.zfill" rZfill:=by
  intro pins s σ H x vs v us Q I rx rv h
  obtain⟨z,i,rfl,rfl,hok,q⟩:=h
  obtain⟨t,rfl⟩:=(show ∃t,v = Value.str z t from rx)
  obtain⟨u,rfl,ru⟩:=rv.one
  obtain⟨t2,rfl⟩:=(show ∃t,u = Value.int i t from ru)
  exact SC.zfill hok fun t' k=>⟨.str _,H,I.tok k,⟨_,rfl⟩,q⟩
def dZfill (to:TE) (t:TA):TE:=fun σ H Q=>to σ H fun x H1=>vS x fun z=>t σ H1 fun vs H2=>l1 vs fun y=>vI y fun i=>PadOk i = true∧Q (.str (Txt.zfill z i)) H2
theorem md_zfill (ho:PE X o to) (ha:PA X [e] t) (hbase:attributeBase o "zfill" X.env (eval o X.env) = eval o X.env:=by rfl)
    (hfew:((backTo cpos (starEach [e] X.env)).all (fun x=>!x.1) && (backToKw cpos (keywordEach [] X.env)).all (fun x=>x.1.isSome)
      && decide (([e]:List Expr).length + ([]:List Keyword).length + (if ([]:List Keyword).isEmpty then 0 else 1) < 30)) = true:=by rfl)
    (hline:(apos.endLine == cpos.line) = true:=by rfl) (hs:starEach [e] X.env = (false,eval e X.env) :: starEach [] X.env:=by rfl) (hplain:(backTo cpos (starEach [] X.env)).any (·.1) = false:=by rfl) :
    PE X (.Call (.Attribute o "zfill" apos) [e] [] cpos) (dZfill to t):=
  (pe_bm PySem.F.plainAttrs_str PySem.F.slot_str_zfill PySem.F.type_str_zfill mt_zfill (pe_cut ho) (pa_cut ha) hbase hfew hline hs hplain).imp fun σ H Q h=>⟨_,h,fun x H1 q=>by
    obtain⟨z,rfl,q2⟩:=vS.ex q
    refine⟨rfl,_,q2,fun vs H2 q3=>?_⟩
    obtain⟨y,rfl,q4⟩:=l1.ex q3
    obtain⟨i,rfl,h1,h2⟩:=vI.ex q4
    exact⟨z,i,rfl,rfl,h1,h2⟩⟩
def rIdxS:V→List V→Hp→VK→Prop:=fun x vs H Q=>∃z y i rest,x = .str z∧vs = [.str y]∧Builtin.Str.occurrences z y 0 z.length 1 = i :: rest∧Q (.int ((i:Nat):Int)) H
theorem mt_idxS:MtM X "str.index" rIdxS:=by
  intro pins s σ H x vs v us Q I rx rv h
  obtain⟨z,y,i,rest,rfl,rfl,hok,q⟩:=h
  obtain⟨t,rfl⟩:=(show ∃t,v = Value.str z t from rx)
  obtain⟨u,rfl,ru⟩:=rv.one
  obtain⟨t2,rfl⟩:=(show ∃t,u = Value.str y t from ru)
  exact SC.index hok ⟨.int _,H,I.tok _,⟨_,rfl⟩,q⟩
def dIdxS (to:TE) (t:TA):TE:=fun σ H Q=>to σ H fun x H1=>vS x fun z=>t σ H1 fun vs H2=>l1 vs fun y=>vS y fun y=>∃i rest,Builtin.Str.occurrences z y 0 z.length 1 = i :: rest∧Q (.int ((i:Nat):Int)) H2
theorem md_idxS (ho:PE X o to) (ha:PA X [e] t) (hbase:attributeBase o "index" X.env (eval o X.env) = eval o X.env:=by rfl)
    (hfew:((backTo cpos (starEach [e] X.env)).all (fun x=>!x.1) && (backToKw cpos (keywordEach [] X.env)).all (fun x=>x.1.isSome)
      && decide (([e]:List Expr).length + ([]:List Keyword).length + (if ([]:List Keyword).isEmpty then 0 else 1) < 30)) = true:=by rfl)
    (hline:(apos.endLine == cpos.line) = true:=by rfl) (hs:starEach [e] X.env = (false,eval e X.env) :: starEach [] X.env:=by rfl) (hplain:(backTo cpos (starEach [] X.env)).any (·.1) = false:=by rfl) :
    PE X (.Call (.Attribute o "index" apos) [e] [] cpos) (dIdxS to t):=
  (pe_bm PySem.F.plainAttrs_str PySem.F.slot_str_index PySem.F.type_str_index mt_idxS (pe_cut ho) (pa_cut ha) hbase hfew hline hs hplain).imp fun σ H Q h=>⟨_,h,fun x H1 q=>by
    obtain⟨z,rfl,q2⟩:=vS.ex q
    refine⟨rfl,_,q2,fun vs H2 q3=>?_⟩
    obtain⟨y,rfl,q4⟩:=l1.ex q3
    obtain⟨y,rfl,i,rest,h1,h2⟩:=vS.ex q4
    exact⟨z,y,i,rest,rfl,rfl,h1,h2⟩⟩
def mInS:R2:=fun x y H Q=>vS x fun i=>vS y fun j=>Q (.bl (!(Builtin.Str.occurrences j i 0 j.length 1).isEmpty)) H
theorem z_inS:OpR X (compareOp .In) mInS:=op_in_str.imp fun x y H Q h=>by
  obtain⟨i,rfl,h1⟩:=vS.ex h
  obtain⟨j,rfl,q⟩:=vS.ex h1
  exact⟨i,j,rfl,rfl,q⟩
def mIntS:List V→Hp→VK→Prop:=fun xs H Q=>l1 xs fun x=>vS x fun z=>∃n,PySem.intText? z = some n∧z.length≤640∧Q (.int n) H
theorem z_intS:CallR X (.type "int") mIntS:=by
  intro pins s σ H xs us Q I r h
  obtain⟨x,rfl,h⟩:=l1.ex h
  obtain⟨z,rfl,n,h1,h2,q⟩:=vS.ex h
  obtain⟨u,rfl,t,rfl⟩:=vals1 r
  exact PySem.W.KIN.call_text h1 h2 ⟨.int _,H,I.tok _,⟨_,rfl⟩,q⟩
def mStrI:List V→Hp→VK→Prop:=fun xs H Q=>l1 xs fun x=>vI x fun i=>i.natAbs.log2 < 1920∧Q (.str (toString i)) H
theorem z_strI:CallR X (.type "str") mStrI:=call_str_int.imp fun xs H Q h=>by
  obtain⟨x,rfl,h⟩:=l1.ex h
  obtain⟨i,rfl,h1,h2⟩:=vI.ex h
  exact⟨i,rfl,h1,h2⟩
end
def iTextA (tl:TE):TI:=fun σ H R=>tl σ H fun x H1=>vS x fun z=>True∧R (Its z) H1
theorem mi_textA {X:Cx} {tg l:Expr} {tl:TE} (hl:PE X l tl):PI X tg l (iTextA tl):=(mi_text (pe_cut hl)).imp fun σ H R h=>⟨_,h,fun x H1 q=>by
  obtain⟨z,rfl,_,q2⟩:=vS.ex q
  exact q2⟩
theorem comp_rangec {lo c:Int} {n:Nat} {tt:TT} {te:TE} {σc:V→St} {H:Hp} {Q:VK} (Pv:Nat→List V→Hp→Prop) (hn:∀i ys H,i≤n→Pv i ys H→ys.length < sizeLine) (h0:Pv 0 [] H)
    (hs:∀i ys H,i < n→Pv i ys H→tt (σc (.int (lo + i * c))) H fun b H3=>if b = true then te (σc (.int (lo + i * c))) H3 fun y H4=>Pv (i + 1) (ys ++ [y]) H4 else Pv (i + 1) ys H3)
    (hd:∀ys H,Pv n ys H→∀p,H p = none→Q (.ref p) (upd H p (.lst ys))):cWord (Itrc lo c n) tt te σc H Q:=by
  refine⟨fun i m ys H=>m = n - i∧i≤n∧Pv i ys H,⟨n,by simp,Nat.zero_le _,h0⟩,?_⟩
  rintro i m ys H ⟨rfl,hi,p⟩
  refine⟨hn i ys H hi p,?_⟩
  by_cases hlt:i < n
  · refine .inr ⟨hlt,Pv (i + 1),fun ys' H' q=>⟨n - (i + 1),by omega,rfl,hlt,q⟩,fun x H' y=>?_⟩
    obtain⟨e,y⟩:=y
    subst e y
    exact hs i ys _ hlt p
  · have e:i = n:=by omega
    subst e
    exact .inl ⟨Nat.le_refl _,hd ys H p⟩
end L2
namespace Bm
def bitI (n j:Nat):Int:=if n.testBit j then 1 else 0
def bitsI (n m:Nat):List Int:=(List.range m).map fun i=>bitI n (m - 1 - i)
def numI (bs:List Int):Int:=bs.foldl (fun x b=>x * 2 + b) 0
def Bits (bs:List Int):Prop:=∀b∈bs,b = 0∨b = 1
def left (n m k:Nat):Int:=((n / 2 ^ (m - k) * 2 ^ (m - k):Nat):Int)
end Bm
namespace My
open PySem L2
def top (i:Nat):Stmt:=PySem.Challenge.pw_bitrail_k80_bits_as_strips.main.body.getD i (.Pass ⟨0,0,0,0⟩)
abbrev s_strip_of:Stmt:=top 8
abbrev s_strips:Stmt:=top 7
abbrev s_turn_of:Stmt:=top 10
abbrev s_signs_of:Stmt:=top 11
abbrev s_read_strips:Stmt:=top 9
abbrev s__law_draw:Stmt:=top 13
abbrev s__law_figures:Stmt:=top 14
abbrev s_law:Stmt:=top 15
def spCellAt (K:PySem.W.Frag):Sp:=fun vs H Q _=>∃(a:Addr) (ns:List Int) (k:Nat),vs = [.ref a,.int k]∧SqL K H a (ns.map V.int)∧∀z:Int,Q (.int z) H
theorem same_new {H:Hp} {p:Addr} (h:H p = none) (o:HO):Same H (upd H p o):=fun b u q=>by rw [upd_ne (ne_of_none q h)];exact q
theorem small {n:Nat} (h:n≤1000):n≤sizeLine:=Nat.le_of_lt (small1000 h)
theorem small_lit {n:Nat} (h:decide (n≤1000) = true):n≤sizeLine:=small (of_decide_eq_true h)
theorem _root_.L2.Same.put {H H':Hp} {p:Addr} {o:HO} (g:Same H H') (h:H p = none):Same H (upd H' p o):=fun b u q=>by rw [upd_ne (ne_of_none q h)];exact g b u q
theorem _root_.L2.Same.none {H H':Hp} {x:Addr} (g:Same H H') (h:H' x = none):H x = none:=by
  cases e:H x with
  | none=>rfl
  | some o=>rw [g x o e] at h;cases h
open Bm
def fg:Nat→Nat→List Nat
  | 0,_=>[]
  | k + 1,n=>fg k (n / 10) ++ [48 + n % 10]
theorem fg_len:∀k n,(fg k n).length = k
  | 0,_=>rfl
  | k + 1,n=>by show (fg k (n / 10) ++ [_]).length = _;rw [List.length_append,fg_len k];rfl
theorem fg_dig:∀k n,∀c∈fg k n,48≤c∧c≤57
  | 0,_,_,h=>by cases h
  | k + 1,n,c,h=>by
    rcases List.mem_append.mp h with z | z
    · exact fg_dig k _ c z
    · rw [List.mem_singleton.mp z];omega
theorem fg_front:∀k n,fg (k + 1) n = (48 + n / 10 ^ k % 10) :: fg k n
  | 0,n=>by show [] ++ [48 + n % 10] = [48 + n / 10 ^ 0 % 10];rw [Nat.pow_zero,Nat.div_one];rfl
  | k + 1,n=>by
    show fg (k + 1) (n / 10) ++ [48 + n % 10] = _ :: (fg k (n / 10) ++ [48 + n % 10])
    rw [fg_front k (n / 10),Nat.div_div_eq_div_mul,←Nat.pow_succ']
    rfl
theorem fg_zero:∀k,fg k 0 = List.replicate k 48
  | 0=>rfl
  | k + 1=>by show fg k (0 / 10) ++ [48 + 0 % 10] = _;rw [Nat.zero_div,fg_zero k,List.replicate_succ']
abbrev dgs (m:Nat):List Nat:=(Nat.toDigits 10 m).map Char.toNat
theorem digit_48:∀d:Nat,d < 10→(Nat.digitChar d).toNat = 48 + d:=by decide
theorem dgs_lo {m:Nat} (h:m < 10):dgs m = [48 + m]:=by
  unfold dgs
  rw [Nat.toDigits_of_lt_base h]
  show [(Nat.digitChar m).toNat] = _
  rw [digit_48 m h]
theorem dgs_hi {m:Nat} (h:¬ m < 10):dgs m = dgs (m / 10) ++ [48 + m % 10]:=by
  have hm:m % 10 < 10:=Nat.mod_lt m (by decide)
  have t:Nat.toDigits 10 (m / 10) ++ Nat.toDigits 10 (m % 10) = Nat.toDigits 10 (10 * (m / 10) + m % 10):=Nat.toDigits_append_toDigits (by decide) (by omega) hm
  rw [Nat.div_add_mod] at t
  unfold dgs
  rw [←t,List.map_append,Nat.toDigits_of_lt_base hm]
  show _ ++ [(Nat.digitChar (m % 10)).toNat] = _
  rw [digit_48 _ hm]
theorem dgs_fg:∀k m,1≤k→m < 10 ^ k→(dgs m).length≤k∧1≤(dgs m).length∧List.replicate (k - (dgs m).length) 48 ++ dgs m = fg k m:=by
  intro k
  induction k with
  | zero=>intro m h _;cases h
  | succ k ih=>
    intro m _ hm
    by_cases c:m < 10
    · rw [dgs_lo c]
      refine⟨by show 1≤k + 1;omega,Nat.le_refl _,?_⟩
      show List.replicate (k + 1 - 1) 48 ++ [48 + m] = fg k (m / 10) ++ [48 + m % 10]
      rw [Nat.add_sub_cancel,Nat.div_eq_of_lt c,Nat.mod_eq_of_lt c,fg_zero]
    · have hk:1≤k:=by
        cases k with
        | zero=>omega
        | succ k=>omega
      have h1:m / 10 < 10 ^ k:=by
        rw [Nat.pow_succ] at hm
        exact Nat.div_lt_of_lt_mul (by rw [Nat.mul_comm];exact hm)
      obtain⟨i1,i2,i3⟩:=ih (m / 10) hk h1
      rw [dgs_hi c,List.length_append]
      refine⟨by show _ + 1≤k + 1;omega,by show 1≤_ + 1;omega,?_⟩
      show List.replicate (k + 1 - (_ + 1)) 48 ++ (dgs (m / 10) ++ [48 + m % 10]) = fg k (m / 10) ++ [48 + m % 10]
      rw [Nat.add_sub_add_right,←List.append_assoc,i3]
theorem num_txt (m:Nat):(PySem.Str.ofString (toString ((m:Nat):Int))) = txt (dgs m):=by
  rw [←txt_of (PySem.Str.ofString (toString ((m:Nat):Int))),PySem.W.KIN.signs_num]
theorem zfill_fg {m:Nat} (h:m < 10 ^ 6):Txt.zfill (PySem.Str.ofString (toString ((m:Nat):Int))) 6 = txt (fg 6 m):=by
  obtain⟨h1,h2,h3⟩:=dgs_fg 6 m (by decide) h
  rw [num_txt]
  unfold Txt.zfill
  rw [txt_len]
  by_cases c:(6:Int)≤(((dgs m).length:Nat):Int)
  · rw [if_pos c]
    have:6 - (dgs m).length = 0:=by omega
    rw [this,List.replicate_zero,List.nil_append] at h3
    rw [h3]
  · rw [if_neg c]
    have hd:∀x∈dgs m,48≤x∧x≤57:=fun x hx=>fg_dig 6 m x (by rw [←h3];exact List.mem_append_right _ hx)
    obtain⟨x,r,e⟩:∃x r,dgs m = x :: r:=by
      cases hq:dgs m with
      | nil=>rw [hq] at h2;cases h2
      | cons x r=>exact⟨x,r,rfl⟩
    have hx:=hd x (by rw [e];exact List.mem_cons_self)
    have hz:zfilled (txt (dgs m)) ((6:Int).toNat - (dgs m).length) = Builtin.Str.padded (txt (dgs m)) ((6:Int).toNat - (dgs m).length) 0 48:=by
      unfold zfilled
      have e0:(txt (dgs m)).cps[0]? = some x:=by rw [e];rfl
      rw [e0]
      split
      · rename_i heq;injection heq with heq;omega
      · rename_i heq;injection heq with heq;omega
      · rfl
    rw [hz,←h3]
    unfold Builtin.Str.padded
    simp [txt]
def sgn (b:Int):Nat:=if b = 0 then 95 else 45
def stl (n:Nat) (bs:List Int):List Nat:=fg 6 n ++ [32] ++ bs.map sgn
abbrev pcs (bs:List Int) (i:Nat):List Int:=(bs.drop (40 * i)).take 40
def nS (bs:List Int):Nat:=(bs.length + 39) / 40
def stps (f:Nat) (bs:List Int):List Str:=(List.range (nS bs)).map fun i=>txt (stl (f + 40 * i) (pcs bs i))
theorem size40 (n:Nat):Builtin.Range.rangeSize 0 ((n:Nat):Int) 40 = (((n + 39) / 40:Nat):Int):=by
  unfold Builtin.Range.rangeSize
  rw [if_pos (by decide)]
  split
  · omega
  · omega
theorem join1 {ls:List (List Nat)} (h:∀l∈ls,l.length = 1) (hl:ls.length≤450):JoinOk (txt []) (ls.map txt) = true:=by
  unfold JoinOk
  rw [StrLaws.joinFits (B:=1)]
  · rfl
  · intro y hy
    obtain⟨l,hl2,rfl⟩:=List.mem_map.mp hy
    rw [txt_len,h l hl2];exact Nat.le_refl _
  · rw [List.length_map,txt_len]
    simp only [List.length_nil,Nat.mul_zero,Nat.add_zero,Nat.mul_one]
    omega
theorem get_int {bs:List Int} {i:Nat} {x:V} (hx:(bs.map V.int)[i]? = some x):∃h:i < bs.length,x = .int bs[i]:=by
  have hi:i < bs.length:=by
    have:=(List.getElem?_eq_some_iff.mp hx).1
    rwa [List.length_map] at this
  refine⟨hi,?_⟩
  rw [List.getElem?_map,List.getElem?_eq_getElem hi] at hx
  exact(Option.some.inj hx).symm
theorem flat_sgn (bs:List Int):(bs.map fun b=>[sgn b]).flatten = bs.map sgn:=by
  induction bs with
  | nil=>rfl
  | cons a r ih=>rw [List.map_cons,List.flatten_cons,ih];rfl
theorem log_lt {i:Int} (h0:0≤i) (h:i < 2 ^ 40):i.natAbs.log2 < 1920:=by
  have:i.natAbs.log2 < 40:=by
    by_cases c:i.natAbs = 0
    · rw [c];decide
    · exact(Nat.log2_lt c).mpr (by omega)
  omega
def spStripOf (K:PySem.W.Frag):Sp:=fun vs H Q _=>∃(a:Addr) (bs:List Int) (n:Nat),vs = [.ref a,.int ((n:Nat):Int)]∧SqL K H a (bs.map V.int)∧Bits bs∧bs.length≤40∧n < 10 ^ 6∧∀H',Same H H'→Q (.str (txt (stl n bs))) H'
def spStrips (K:PySem.W.Frag):Sp:=fun vs H Q _=>∃(a:Addr) (bs:List Int) (f:Nat),vs = [.ref a,.int ((f:Nat):Int)]∧SqL K H a (bs.map V.int)∧Bits bs∧bs.length≤2000∧f≤20000∧∀p H',H p = none→Same H H'→H' p = some (.lst ((stps f bs).map V.str))→Q (.ref p) H'
theorem fits {z:Int} (h0:0≤z) (h:z≤100000):Builtin.Range.rangeFitsLong z = true:=by
  unfold Builtin.Range.rangeFitsLong
  rw [Bool.and_eq_true]
  exact⟨decide_eq_true (by omega),decide_eq_true (by omega)⟩
theorem small40 {n:Nat} (h:n≤3000):Builtin.Range.small 0 ((n:Nat):Int) 40 = true:=by
  unfold Builtin.Range.small
  rw [size40,if_pos (by decide),fits (by decide) (by decide),fits (by omega) (by omega),fits (by decide) (by decide),fits (by omega) (by omega),fits (by omega) (by omega),Bool.or_true]
  rfl
theorem szl {n:Nat} (h:n≤9000):n≤sizeLine:=Nat.le_trans h (by decide)
theorem szl1 {n:Nat} (h:n≤9000):n < sizeLine:=Nat.lt_of_le_of_lt h (by decide)
theorem cut_ab {bs:List Int} {a b:Nat} (h:a≤b):cutV (bs.map V.int) (some (a:Int)) (some (b:Int)) = ((bs.drop a).take (b - a)).map V.int:=by
  unfold cutV
  have e1:HT.sIx (bs.map V.int).length 0 (some (a:Int)) = min a bs.length:=by
    show (if (a:Int) < 0 then ((a:Int) + ((bs.map V.int).length:Int)).toNat else min (a:Int).toNat (bs.map V.int).length) = _
    rw [if_neg (by omega),List.length_map,Int.toNat_natCast]
  have e2:HT.sIx (bs.map V.int).length (bs.map V.int).length (some (b:Int)) = min b bs.length:=by
    show (if (b:Int) < 0 then ((b:Int) + ((bs.map V.int).length:Int)).toNat else min (b:Int).toNat (bs.map V.int).length) = _
    rw [if_neg (by omega),List.length_map,Int.toNat_natCast]
  rw [e1,e2,List.map_take,List.map_drop]
  by_cases c:a≤bs.length
  · rw [Nat.min_eq_left c]
    by_cases d:b≤bs.length
    · rw [Nat.min_eq_left d]
    · rw [Nat.min_eq_right (by omega),List.take_of_length_le (by rw [List.length_drop,List.length_map];exact Nat.le_refl _),List.take_of_length_le (by rw [List.length_drop,List.length_map];omega)]
  · rw [Nat.min_eq_right (by omega),Nat.min_eq_right (by omega),Nat.sub_self,List.take_zero,List.drop_of_length_le (by rw [List.length_map];omega),List.take_nil]
theorem pcs_len (bs:List Int) (i:Nat):(pcs bs i).length≤40:=by unfold pcs;rw [List.length_take];omega
theorem pcs_bits {bs:List Int} (h:Bits bs) (i:Nat):Bits (pcs bs i):=fun z hz=>h z (List.mem_of_mem_drop (List.mem_of_mem_take hz))
theorem stl_len (n:Nat) (bs:List Int):(stl n bs).length = 7 + bs.length:=by unfold stl;rw [List.length_append,List.length_append,fg_len,List.length_map];rfl
theorem stl_six (n:Nat) (bs:List Int):(stl n bs).take 6 = fg 6 n:=by unfold stl;rw [List.append_assoc,List.take_append_of_le_length (by rw [fg_len];exact Nat.le_refl _),List.take_of_length_le (by rw [fg_len];exact Nat.le_refl _)]
theorem stl_blank (n:Nat) (bs:List Int):((stl n bs).drop 6).take 1 = [32]:=by
  have e:stl n bs = fg 6 n ++ (32 :: bs.map sgn):=by unfold stl;rw [List.append_assoc];rfl
  rw [e,List.drop_left' (fg_len 6 n)]
  rfl
theorem stl_signs (n:Nat) (bs:List Int):(stl n bs).drop 7 = bs.map sgn:=by
  unfold stl
  exact List.drop_left' (by rw [List.length_append,fg_len];rfl)
theorem val_fg : ∀ k n,n < 10 ^ k→PySem.NumText.digitsVal (fg k n) = n
  | 0, n, h => by have:n = 0:=by omega
                  rw [this];rfl
  | k + 1,n,h=>by
    show PySem.NumText.digitsVal (fg k (n / 10) ++ [48 + n % 10]) = n
    have h1:n / 10 < 10 ^ k:=by
      rw [Nat.pow_succ] at h
      exact Nat.div_lt_of_lt_mul (by rw [Nat.mul_comm];exact h)
    rw [PySem.NumText.digitsVal_snoc,val_fg k _ h1]
    omega
theorem int_fg {n:Nat} (h:n < 10 ^ 6):PySem.intText? (txt (fg 6 n)) = some ((n:Nat):Int):=by
  have e:=PySem.intText_digits (x:=txt (fg 6 n)) (by rw [txt_cps];exact fg_dig 6 n) (by rw [txt_cps];intro z;have:=fg_len 6 n;rw [z] at this;cases this) (by rw [txt_len,fg_len];decide)
  rw [txt_cps,val_fg 6 n h] at e
  exact e
theorem dig_in {c:Nat} (h:48≤c∧c≤57):(!(Builtin.Str.occurrences ("0123456789":Str) (⟨#[c]⟩:Str) 0 ("0123456789":Str).length 1).isEmpty) = true:=by
  have:c = 48∨c = 49∨c = 50∨c = 51∨c = 52∨c = 53∨c = 54∨c = 55∨c = 56∨c = 57:=by omega
  rcases this with rfl | rfl | rfl | rfl | rfl | rfl | rfl | rfl | rfl | rfl <;> decide +kernel
theorem sgn_in (b:Int):(!(Builtin.Str.occurrences ("_-":Str) (⟨#[sgn b]⟩:Str) 0 ("_-":Str).length 1).isEmpty) = true:=by
  unfold sgn
  split <;> decide +kernel
theorem sgn_inm {c:Nat} {bs:List Int} (h:c∈bs.map sgn):(!(Builtin.Str.occurrences ("_-":Str) (⟨#[c]⟩:Str) 0 ("_-":Str).length 1).isEmpty) = true:=by
  obtain⟨b,_,rfl⟩:=List.mem_map.mp h
  exact sgn_in b
theorem sgn_at {b:Int} (h:b = 0∨b = 1):∃rest,Builtin.Str.occurrences ("_-":Str) (⟨#[sgn b]⟩:Str) 0 ("_-":Str).length 1 = b.toNat :: rest:=by
  rcases h with rfl | rfl
  · exact⟨[],by decide +kernel⟩
  · exact⟨[],by decide +kernel⟩
def spTurnOf:Sp:=fun vs H Q _=>∃(n:Nat) (bs:List Int),vs = [.str (txt (stl n bs))]∧n < 10 ^ 6∧bs.length≤40∧∀H',Same H H'→Q (.int ((n:Nat):Int)) H'
def spSignsOf:Sp:=fun vs H Q _=>∃(n:Nat) (bs:List Int),vs = [.str (txt (stl n bs))]∧1≤bs.length∧bs.length≤40∧∀H',Same H H'→Q (.str (txt (bs.map sgn))) H'
def spReadS (K:PySem.W.Frag):Sp:=fun vs H Q _=>∃(a:Addr) (f:Nat) (bs:List Int),vs = [.ref a]∧SqL K H a ((stps f bs).map V.str)∧Bits bs∧bs.length≤2000∧f≤20000∧∀t q_ H',H t = none→H q_ = none→t≠q_→Same H H'→H' t = some (.tup [.int (if bs = [] then 0 else ((f:Nat):Int)),.ref q_])→H' q_ = some (.lst (bs.map V.int))→Q (.ref t) H'
theorem dig_at {d:Nat} (h:d < 10):atI ("0123456789":Str).cps.toList ((d:Nat):Int) = some (48 + d):=by
  have:∀d:Nat,d < 10→atI ("0123456789":Str).cps.toList ((d:Nat):Int) = some (48 + d):=by decide +kernel
  exact this d h
def spFig:Sp:=fun vs H Q _=>∃n:Nat,vs = [.int ((n:Nat):Int)]∧n < 10 ^ 6∧Q (.str (txt (fg 6 n))) H
theorem DVs.strs {K:PySem.W.Frag} {H:Hp}:∀ts:List Str,DVs K H (ts.map V.str) (ts.map PyData.str)
  | []=> .nil
  | n :: r=> .cons (.str n) (DVs.strs r)
theorem shaped_strs {ts:List Str} (h:∀x∈ts,PyData.strOk x = true):SeqAt.shaped (.list (ts.map PyData.str)) = true:=shapedL fun d hd=>by
  obtain⟨x,hx,rfl⟩:=List.mem_map.mp hd
  refine⟨?_,by simp [PyData.depth]⟩
  simp only [PyData.canLay0]
  exact h x hx
theorem shaped_back (x:Int) (bs:List Int):SeqAt.shaped (.tuple [.int x,.list (bs.map .int)]) = true:=by
  have h:=lay_ints bs
  have h3:=PySem.W.depthAll_ints bs
  unfold SeqAt.shaped
  rw [Bool.and_eq_true]
  refine⟨?_,decide_eq_true ?_⟩
  · simp only [PyData.canLay0,PyData.canLayAll0,Bool.true_and,Bool.and_true]
    have:=h.1
    simp only [PyData.canLay0] at this
    exact this
  · simp only [PyData.depth,PyData.depthAll]
    omega
theorem stps_ok (f:Nat) (bs:List Int):∀x∈stps f bs,PyData.strOk x = true:=fun x hx=>by
  obtain⟨i,_,rfl⟩:=List.mem_map.mp hx
  unfold PyData.strOk
  rw [←Array.all_toList,txt_cps,List.all_eq_true]
  intro c hc
  refine decide_eq_true ?_
  unfold stl at hc
  rcases List.mem_append.mp hc with h | h
  · rcases List.mem_append.mp h with h | h
    · have:=fg_dig 6 _ c h;omega
    · rw [List.mem_singleton.mp h];decide
  · obtain⟨b,_,rfl⟩:=List.mem_map.mp h
    unfold sgn
    split <;> decide
section
variable {P:Program} {w:World} {K:PySem.W.Frag} {mg:Str→Option Value} {base:Heap}
theorem sc_strip_of:FnScope ["bits","turn"] ["bits","turn"] (defScope s_strip_of):=⟨rfl,rfl,rfl,by decide +kernel,rfl,by decide +kernel,by decide +kernel⟩
set_option maxHeartbeats 4000000 in
theorem ok_strip_of {a_strip_of:Addr} {d_strip_of:FuncData} {t_SIGNS:Tok} {t_FIGURES:Tok} (F_strip_of:Fun K "strip_of" "strip_of" s_strip_of a_strip_of d_strip_of) (m_SIGNS:mg "SIGNS" = some (.str "_-" t_SIGNS)) (m_FIGURES:mg "FIGURES" = some (.int 6 t_FIGURES)) (m_str:mg "str" = none) :
    FnOk P w K mg base CX0 1 a_strip_of d_strip_of ["bits","turn"] (spStripOf K):=by
  refine F_strip_of.ok sc_strip_of (fun vs H Q E h=>?_) (fun cdv A outer s H vs Q E hr h=>?_)
  · obtain⟨a,bs,n,rfl,_⟩:=h
    rfl
  obtain⟨a,bs,n,rfl,hS,hb,hl,hn,q⟩:=h
  have nd:=sc_strip_of.nd
  refine⟨_,(pss_one (ps_ret (pe_op z_addS (pe_op z_addS (md_zfill (pe_callTy z_strI rfl m_str bt_str (pa_cons (dv 1) pa_nil)) (pa_cons (pe_glob (v:= .int 6) rfl m_FIGURES ⟨_,rfl⟩) pa_nil)) pe_str) (md_join pe_str (pa_cons (pe_comp rfl (ix:=[]) (mi_list (dv 0)) (fun C fp s0 H0 at0=>pts_nil) (fun C fp s0 H0 at0=>(pe_ix z_ixS (pe_glob (v:= .str "_-") rfl m_SIGNS ⟨_,rfl⟩) (dv 0) (fun _ _=>rfl))) rfl rfl (by rfl) (show ([".0","bit"]:List Str).Nodup by decide +kernel)) pa_nil))))),?_⟩
  refine⟨log_lt (by omega) (by omega),by decide +kernel,?_⟩
  have ez:Txt.zfill (PySem.Str.ofString (toString ((n:Nat):Int))) 6 = txt (fg 6 n):=zfill_fg hn
  rw [ez]
  refine⟨by show (txt (fg 6 n)).length + 1≤sizeLine;rw [txt_len,fg_len];exact szl (by decide),?_⟩
  refine⟨⟨_,hS⟩,comp_list (xs:=bs.map V.int) (fun i ys H'=>ys = ((bs.take i).map fun b=>V.str (txt [sgn b]))∧H' = H) ?_ ⟨rfl,rfl⟩ (fun i ys H' _ z=>by rw [z.2];exact hS) ?_ ?_⟩
  · rintro i ys H' hi ⟨rfl,_⟩
    refine szl1 ?_
    rw [List.length_map,List.length_take]
    omega
  · rintro i x ys H' hx ⟨rfl,rfl⟩
    obtain⟨hi,rfl⟩:=get_int hx
    refine⟨sgn bs[i],szl (by decide),?_,?_,rfl⟩
    · rcases hb _ (List.getElem_mem hi) with e | e <;> rw [e] <;> rfl
    · rw [List.take_succ_eq_append_getElem hi,List.map_append]
      rfl
  rintro ys H' ⟨rfl,rfl⟩ p hp
  rw [List.length_map,List.take_of_length_le (Nat.le_refl _)]
  refine⟨(bs.map fun b=>[sgn b]).map txt,?_,join1 ?_ (by rw [List.length_map];omega),?_⟩
  · rw [upd_same,List.map_map,List.map_map];rfl
  · intro l hl2
    obtain⟨b,_,rfl⟩:=List.mem_map.mp hl2
    rfl
  have ej:Txt.join (txt []) ((bs.map fun b=>[sgn b]).map txt) = txt (bs.map sgn):=by rw [join_empty,flat_sgn]
  have eb:txt (fg 6 n) ++ (" ":Str) = txt (fg 6 n ++ [32]):=txt_add _ [32]
  show (_:Prop)∧_
  have el:(txt (fg 6 n) ++ (" ":Str)).length + (Txt.join (txt []) ((bs.map fun b=>[sgn b]).map txt)).length≤sizeLine:=by
    rw [eb,ej,txt_len,txt_len,List.length_append,fg_len,List.length_map]
    exact szl (by show 6 + 1 + _≤9000;omega)
  refine⟨el,?_⟩
  have ef:txt (fg 6 n) ++ (" ":Str) ++ Txt.join (txt []) ((bs.map fun b=>[sgn b]).map txt) = txt (stl n bs):=by rw [eb,ej,txt_add];rfl
  have qq:=q _ (same_new hp (.lst (bs.map fun b=>V.str (txt [sgn b]))))
  rw [←ef] at qq
  exact qq
theorem sc_strips:FnScope ["bits","first"] ["bits","first"] (defScope s_strips):=⟨rfl,rfl,rfl,by decide +kernel,rfl,by decide +kernel,by decide +kernel⟩
set_option maxHeartbeats 4000000 in
theorem ok_strips {a_strips:Addr} {d_strips:FuncData} {a_strip_of:Addr} {d_strip_of:FuncData} {t_STRIP_BITS:Tok} (F_strips:Fun K "strips" "strips" s_strips a_strips d_strips) (m_range:mg "range" = none) (m_STRIP_BITS:mg "STRIP_BITS" = some (.int 40 t_STRIP_BITS)) (m_len:mg "len" = none) (G_strip_of:FnOk P w K mg base CX0 1 a_strip_of d_strip_of ["bits","turn"] (spStripOf K)) (b_strip_of:Binds K d_strip_of ["bits","turn"] []) (k_strip_of:PySem.W.keepIn K (.ref a_strip_of) = true) (m_strip_of:mg "strip_of" = some (.ref a_strip_of)) :
    FnOk P w K mg base CX0 2 a_strips d_strips ["bits","first"] (spStrips K):=by
  refine F_strips.ok sc_strips (fun vs H Q E h=>?_) (fun cdv A outer s H vs Q E hr h=>?_)
  · obtain⟨a,bs,f,rfl,_⟩:=h
    rfl
  obtain⟨a,bs,f,rfl,hS,hb,hl,hf,q⟩:=h
  have nd:=sc_strips.nd
  refine⟨_,(pss_one (ps_ret (pe_comp rfl (ix:=[0,1]) (mi_range3 rfl m_range (pa_cons pe_int (pa_cons (pe_callB z_len rfl m_len bt_len (pa_cons (dv 0) pa_nil)) (pa_cons (pe_glob (v:= .int 40) rfl m_STRIP_BITS ⟨_,rfl⟩) pa_nil)))) (fun C fp s0 H0 at0=>pts_nil) (fun C fp s0 H0 at0=>(pe_call G_strip_of (hr.mono (by decide)) rfl m_strip_of k_strip_of b_strip_of .nil pass0 (pa_cons (pe_slice (z_slLK (K:=K)) (dv 1) (md_part (dv 0)) (md_part (pe_op z_add (dv 0) (pe_glob (v:= .int 40) rfl m_STRIP_BITS ⟨_,rfl⟩)))) (pa_cons (pe_op z_add (dv 2) (dv 0)) pa_nil)))) rfl rfl (by rfl) (show ([".0","start","bits","first"]:List Str).Nodup by decide +kernel)))),?_⟩
  refine⟨_,.inl hS,?_⟩
  rw [List.length_map]
  refine⟨by decide,PyProof.noPylong_small (by decide),nS bs,small40 (by omega),size40 bs.length,comp_rangec (fun i ys H'=>ys = (((List.range i).map fun i=>txt (stl (f + 40 * i) (pcs bs i))).map V.str)∧Same H H') ?_ ⟨rfl,Same.refl _⟩ ?_ ?_⟩
  · rintro i ys H' hi ⟨rfl,_⟩
    refine szl1 ?_
    rw [List.length_map,List.length_map,List.length_range]
    unfold nS at hi
    omega
  · rintro i ys H' hi ⟨rfl,g⟩
    refine⟨_,g.seq hS,fun p hp=>?_⟩
    have e1:(0:Int) + (i:Int) * 40 = ((40 * i:Nat):Int):=by omega
    have e2:(0:Int) + (i:Int) * 40 + 40 = ((40 * i + 40:Nat):Int):=by omega
    rw [e2,e1,cut_ab (by omega),show 40 * i + 40 - 40 * i = 40 by omega]
    have k1:=same_new hp (.lst ((pcs bs i).map V.int))
    have e3:=upd_same (H:=H') (a:=p) (o:= .lst ((pcs bs i).map V.int))
    generalize upd H' p _ = H1 at k1 e3
    have hi':i < nS bs:=hi
    unfold nS at hi'
    refine⟨p,pcs bs i,f + 40 * i,by show [V.ref p,V.int (((f:Nat):Int) + ((40 * i:Nat):Int))] = _;rw [←Int.natCast_add],SqL.of e3,pcs_bits hb i,pcs_len bs i,by omega,fun H2 g2=>?_⟩
    refine⟨?_,g.trans (k1.trans g2)⟩
    rw [List.range_succ,List.map_append,List.map_append]
    rfl
  rintro ys H' ⟨rfl,g⟩ p hp
  exact q p _ (g.none hp) (g.trans (same_new hp _)) upd_same
theorem sc_turn_of:FnScope ["strip","figures"] ["strip"] (defScope s_turn_of):=⟨rfl,rfl,rfl,by decide +kernel,rfl,by decide +kernel,by decide +kernel⟩
set_option maxHeartbeats 4000000 in
theorem ok_turn_of {a_turn_of:Addr} {d_turn_of:FuncData} {t_FIGURES:Tok} (F_turn_of:Fun K "turn_of" "turn_of" s_turn_of a_turn_of d_turn_of) (m_FIGURES:mg "FIGURES" = some (.int 6 t_FIGURES)) (m_all:mg "all" = none) (m_len:mg "len" = none) (m_int:mg "int" = none) :
    FnOk P w K mg base CX0 1 a_turn_of d_turn_of ["strip"] (spTurnOf):=by
  refine F_turn_of.ok sc_turn_of (fun vs H Q E h=>?_) (fun cdv A outer s H vs Q E hr h=>?_)
  · obtain⟨n,bs,rfl,_⟩:=h
    rfl
  obtain⟨n,bs,rfl,hn,hl,q⟩:=h
  have nd:=sc_turn_of.nd
  refine⟨_,(pss_cons (ps_set (i:=1) nd rfl (Or.inl rfl) (pe_slice z_slS (dv 0) po_none (md_part (pe_glob (v:= .int 6) rfl m_FIGURES ⟨_,rfl⟩)))) (pss_cons (ps_if (PW.pt (pw_or (md_cmp z_lt (pe_callB z_lenS rfl m_len bt_len (pa_cons (dv 1) pa_nil)) (pe_glob (v:= .int 6) rfl m_FIGURES ⟨_,rfl⟩) (nomark _)) (pw_or1 (pt_not (md_val (pe_callB (z_all rfl) rfl m_all bt_all (pa_cons (pe_comp rfl (ix:=[]) (mi_textA (dv 1)) (fun C fp s0 H0 at0=>pts_nil) (fun C fp s0 H0 at0=>(pe_cmpR z_inS (dv 0) pe_str rfl)) rfl rfl (by rfl) (show ([".0","sign"]:List Str).Nodup by decide +kernel)) pa_nil))))))) (pss_one ps_dead) pss_nil) (pss_one (ps_ret (pe_callTy z_intS rfl m_int bt_int (pa_cons (dv 1) pa_nil)))))),?_⟩
  have sl:=stl_len n bs
  refine⟨0,6,⟨by decide,by rw [txt_len];omega,by rw [txt_len];exact szl (by omega)⟩,.inl ⟨rfl,rfl⟩,.inr rfl,?_⟩
  rw [txt_cps,List.drop_zero,Nat.sub_zero,stl_six]
  refine⟨by rw [txt_len,fg_len];exact szl (by decide),?_⟩
  obtain⟨L,hL⟩:∃L,L = (txt (fg 6 n)).length:=⟨_,rfl⟩
  have hL6:L = 6:=by rw [hL,txt_len,fg_len]
  rw [←hL]
  conv=>whnf
  refine ite2 (fun c=>absurd (show ((L:Nat):Int) < 6 from dec_true c) (by omega)) (fun c=>?_)
  refine⟨trivial,comp_text (z:=txt (fg 6 n)) (fun i ys H'=>ys = (List.replicate i true).map V.bl∧H' = H) ?_ ⟨rfl,rfl⟩ ?_ ?_⟩
  · rintro i ys H' hi ⟨rfl,_⟩
    refine szl1 ?_
    have hi':i≤(txt (fg 6 n)).cps.size:=hi
    have:(txt (fg 6 n)).cps.size = (fg 6 n).length:=by show ((fg 6 n).toArray).size = _;rw [List.size_toArray]
    rw [List.length_map,List.length_replicate]
    rw [fg_len] at this;omega
  · rintro i c ys H' hc ⟨rfl,rfl⟩
    have hc':(fg 6 n)[i]? = some c:=by
      have:((fg 6 n).toArray)[i]? = some c:=hc
      rwa [List.getElem?_toArray] at this
    have hin:=List.mem_of_getElem? hc'
    refine⟨?_,rfl⟩
    have e:=dig_in (fg_dig 6 n c hin)
    rw [e,List.replicate_succ',List.map_append]
    rfl
  rintro ys H' ⟨rfl,rfl⟩ pz hpz
  have esz:(txt (fg 6 n)).cps.size = (fg 6 n).length:=by show ((fg 6 n).toArray).size = _;rw [List.size_toArray]
  rw [esz]
  refine⟨List.replicate (fg 6 n).length true,SqL.of upd_same,?_⟩
  have eall:(List.replicate (fg 6 n).length true).all id = true:=by rw [List.all_eq_true];intro x hx;rw [List.eq_of_mem_replicate hx];rfl
  rw [eall]
  conv=>whnf
  refine⟨_,int_fg hn,by rw [txt_len,fg_len];decide,?_⟩
  exact q _ (same_new hpz _)
theorem sc_signs_of:FnScope ["strip","signs"] ["strip"] (defScope s_signs_of):=⟨rfl,rfl,rfl,by decide +kernel,rfl,by decide +kernel,by decide +kernel⟩
set_option maxHeartbeats 4000000 in
theorem ok_signs_of {a_signs_of:Addr} {d_signs_of:FuncData} {t_FIGURES:Tok} {t_STRIP_BITS:Tok} {t_SIGNS:Tok} (F_signs_of:Fun K "signs_of" "signs_of" s_signs_of a_signs_of d_signs_of) (m_FIGURES:mg "FIGURES" = some (.int 6 t_FIGURES)) (m_len:mg "len" = none) (m_STRIP_BITS:mg "STRIP_BITS" = some (.int 40 t_STRIP_BITS)) (m_all:mg "all" = none) (m_SIGNS:mg "SIGNS" = some (.str "_-" t_SIGNS)) :
    FnOk P w K mg base CX0 1 a_signs_of d_signs_of ["strip"] (spSignsOf):=by
  refine F_signs_of.ok sc_signs_of (fun vs H Q E h=>?_) (fun cdv A outer s H vs Q E hr h=>?_)
  · obtain⟨n,bs,rfl,_⟩:=h
    rfl
  obtain⟨n,bs,rfl,h1,h40,q⟩:=h
  have nd:=sc_signs_of.nd
  refine⟨_,(pss_cons (ps_if (md_cmp z_ne (pe_slice z_slS (dv 0) (md_part (pe_glob (v:= .int 6) rfl m_FIGURES ⟨_,rfl⟩)) (md_part (pe_op z_add (pe_glob (v:= .int 6) rfl m_FIGURES ⟨_,rfl⟩) pe_int))) pe_str (nomark _)) (pss_one ps_dead) pss_nil) (pss_cons (ps_set (i:=1) nd rfl (Or.inl rfl) (pe_slice z_slS (dv 0) (md_part (pe_op z_add (pe_glob (v:= .int 6) rfl m_FIGURES ⟨_,rfl⟩) pe_int)) po_none)) (pss_cons (ps_if (pt_not (mt_chain z_le z_le pe_int (pe_callB z_lenS rfl m_len bt_len (pa_cons (dv 1) pa_nil)) (pe_glob (v:= .int 40) rfl m_STRIP_BITS ⟨_,rfl⟩))) (pss_one ps_dead) pss_nil) (pss_cons (ps_if (pt_not (md_val (pe_callB (z_all rfl) rfl m_all bt_all (pa_cons (pe_comp rfl (ix:=[]) (mi_textA (dv 1)) (fun C fp s0 H0 at0=>pts_nil) (fun C fp s0 H0 at0=>(pe_cmpR z_inS (dv 0) (pe_glob (v:= .str "_-") rfl m_SIGNS ⟨_,rfl⟩) rfl)) rfl rfl (by rfl) (show ([".0","sign"]:List Str).Nodup by decide +kernel)) pa_nil)))) (pss_one ps_dead) pss_nil) (pss_one (ps_ret (dv 1))))))),?_⟩
  have sl:=stl_len n bs
  refine⟨6,7,⟨by decide,by rw [txt_len];omega,by rw [txt_len];exact szl (by omega)⟩,.inr rfl,.inr rfl,?_⟩
  rw [txt_cps,show 7 - 6 = 1 from rfl,stl_blank]
  conv=>whnf
  refine⟨7,(stl n bs).length,⟨by omega,by rw [txt_len];exact Nat.le_refl _,by rw [txt_len];exact szl (by omega)⟩,.inr rfl,.inl ⟨rfl,by rw [txt_len]⟩,?_⟩
  have es:((stl n bs).drop 7).take ((stl n bs).length - 7) = bs.map sgn:=by rw [List.take_of_length_le (by rw [List.length_drop];exact Nat.le_refl _),stl_signs]
  rw [txt_cps,es]
  refine⟨by rw [txt_len,List.length_map];exact szl (by omega),?_⟩
  rw [txt_len,List.length_map]
  conv=>whnf
  refine ite2 (fun c=>?_) (fun c=>absurd (show (1:Int)≤((bs.length:Nat):Int) by omega) (dec_false c))
  conv=>whnf
  refine ite2 (fun c2=>?_) (fun c2=>?_)
  · have c3:(!decide (((bs.length:Nat):Int)≤40)) = true:=c2
    rw [decide_eq_true (by omega)] at c3
    cases c3
  refine⟨trivial,comp_text (z:=txt (bs.map sgn)) (fun i ys H'=>ys = (List.replicate i true).map V.bl∧H' = H) ?_ ⟨rfl,rfl⟩ ?_ ?_⟩
  · rintro i ys H' hi ⟨rfl,_⟩
    refine szl1 ?_
    have hi':i≤(txt (bs.map sgn)).cps.size:=hi
    have:(txt (bs.map sgn)).cps.size = (bs.map sgn).length:=by show ((bs.map sgn).toArray).size = _;rw [List.size_toArray]
    rw [List.length_map,List.length_replicate]
    rw [List.length_map] at this;omega
  · rintro i c ys H' hc ⟨rfl,rfl⟩
    have hc':(bs.map sgn)[i]? = some c:=by
      have:((bs.map sgn).toArray)[i]? = some c:=hc
      rwa [List.getElem?_toArray] at this
    have hin:=List.mem_of_getElem? hc'
    refine⟨?_,rfl⟩
    have e:=sgn_inm hin
    rw [e,List.replicate_succ',List.map_append]
    rfl
  rintro ys H' ⟨rfl,rfl⟩ pz hpz
  have esz:(txt (bs.map sgn)).cps.size = (bs.map sgn).length:=by show ((bs.map sgn).toArray).size = _;rw [List.size_toArray]
  rw [esz]
  refine⟨List.replicate (bs.map sgn).length true,SqL.of upd_same,?_⟩
  have eall:(List.replicate (bs.map sgn).length true).all id = true:=by rw [List.all_eq_true];intro x hx;rw [List.eq_of_mem_replicate hx];rfl
  rw [eall]
  conv=>whnf
  exact q _ (same_new hpz _)
theorem sc_read_strips:FnScope ["some","first","bits","number","strip","signs"] ["some"] (defScope s_read_strips):=⟨rfl,rfl,rfl,by decide +kernel,rfl,by decide +kernel,by decide +kernel⟩
set_option maxHeartbeats 4000000 in
theorem ok_read_strips {a_read_strips:Addr} {d_read_strips:FuncData} {a_turn_of:Addr} {d_turn_of:FuncData} {a_signs_of:Addr} {d_signs_of:FuncData} {t_STRIP_BITS:Tok} {t_SIGNS:Tok} (F_read_strips:Fun K "read_strips" "read_strips" s_read_strips a_read_strips d_read_strips) (m_len:mg "len" = none) (m_enumerate:mg "enumerate" = none) (m_STRIP_BITS:mg "STRIP_BITS" = some (.int 40 t_STRIP_BITS)) (m_SIGNS:mg "SIGNS" = some (.str "_-" t_SIGNS)) (G_turn_of:FnOk P w K mg base CX0 1 a_turn_of d_turn_of ["strip"] (spTurnOf)) (b_turn_of:Binds K d_turn_of ["strip"] []) (k_turn_of:PySem.W.keepIn K (.ref a_turn_of) = true) (m_turn_of:mg "turn_of" = some (.ref a_turn_of)) (G_signs_of:FnOk P w K mg base CX0 1 a_signs_of d_signs_of ["strip"] (spSignsOf)) (b_signs_of:Binds K d_signs_of ["strip"] []) (k_signs_of:PySem.W.keepIn K (.ref a_signs_of) = true) (m_signs_of:mg "signs_of" = some (.ref a_signs_of)) :
    FnOk P w K mg base CX0 2 a_read_strips d_read_strips ["some"] (spReadS K):=by
  refine F_read_strips.ok sc_read_strips (fun vs H Q E h=>?_) (fun cdv A outer s H vs Q E hr h=>?_)
  · obtain⟨a,f,bs,rfl,_⟩:=h
    rfl
  obtain⟨a,f,bs,rfl,hS,hb,hl,hf,q⟩:=h
  have nd:=sc_read_strips.nd
  refine⟨_,(pss_cons (ps_if (md_cmp z_eq (pe_callB z_len rfl m_len bt_len (pa_cons (dv 0) pa_nil)) pe_int (nomark _)) (pss_one (ps_ret (pe_tup (pa_cons pe_int (pa_cons (pe_lst pa_nil) pa_nil))))) pss_nil) (pss_cons (ps_set (i:=1) nd rfl (Or.inl rfl) (pe_call G_turn_of (hr.mono (by decide)) rfl m_turn_of k_turn_of b_turn_of .nil pass0 (pa_cons (pe_ix z_ixL (dv 0) pe_int (fun _ _=>rfl)) pa_nil))) (pss_cons (ps_set (i:=2) nd rfl (Or.inl rfl) (pe_lst pa_nil)) (pss_cons (ps_for PassesOwn.never rfl (mi_enum rfl m_enumerate (pa_cons (dv 0) pa_nil)) (mg2 (pg_tup rfl (pgs_cons (pg_name (i:=3) nd rfl (Or.inl rfl)) (pgs_cons (pg_name (i:=4) nd rfl (Or.inl rfl)) pgs_nil)))) (pss_cons (ps_cut (ps_if (md_cmp z_ne (pe_call G_turn_of (hr.mono (by decide)) rfl m_turn_of k_turn_of b_turn_of .nil pass0 (pa_cons (dv 4) pa_nil)) (pe_op z_add (dv 1) (pe_op z_mul (pe_glob (v:= .int 40) rfl m_STRIP_BITS ⟨_,rfl⟩) (dv 3))) (nomark _)) (pss_one ps_dead) pss_nil)) (pss_cons (ps_set (i:=5) nd rfl (Or.inl rfl) (pe_call G_signs_of (hr.mono (by decide)) rfl m_signs_of k_signs_of b_signs_of .nil pass0 (pa_cons (dv 4) pa_nil))) (pss_cons (ps_cut (ps_if (PW.pt (pw_and (md_cmp z_lt (dv 3) (pe_op z_sub (pe_callB z_len rfl m_len bt_len (pa_cons (dv 0) pa_nil)) pe_int) (nomark _)) (pw_and1 (md_cmp z_ne (pe_callB z_lenS rfl m_len bt_len (pa_cons (dv 5) pa_nil)) (pe_glob (v:= .int 40) rfl m_STRIP_BITS ⟨_,rfl⟩) (nomark _))))) (pss_one ps_dead) pss_nil)) (pss_one (ps_expr (md_extend (dv 2) (pa_cons (pe_comp rfl (ix:=[]) (mi_textA (dv 5)) (fun C fp s0 H0 at0=>pts_nil) (fun C fp s0 H0 at0=>(md_idxS (pe_glob (v:= .str "_-") rfl m_SIGNS ⟨_,rfl⟩) (pa_cons (dv 0) pa_nil))) rfl rfl (by rfl) (show ([".0","sign"]:List Str).Nodup by decide +kernel)) pa_nil)))))))) (pss_one (ps_ret (pe_tup (pa_cons (dv 1) (pa_cons (dv 2) pa_nil))))))))),?_⟩
  have ls:(stps f bs).length = nS bs:=by unfold stps;rw [List.length_map,List.length_range]
  have ln:nS bs = (bs.length + 39) / 40:=rfl
  refine⟨_,.inl hS,?_⟩
  rw [List.length_map,ls]
  refine ite2 (fun c=>?_) (fun c=>?_)
  · have c1:((nS bs:Nat):Int) = 0:=dec_true c
    have hb0:bs = []:=List.eq_nil_of_length_eq_zero (by omega)
    refine⟨small_lit rfl,fun q_ hq=>⟨small_lit rfl,fun t ht=>?_⟩⟩
    have k1:=same_new hq (.lst [])
    have k2:=same_new ht (.tup [.int 0,.ref q_])
    refine q t q_ _ (k1.none ht) hq (fun z=>by rw [z,upd_same] at ht;cases ht) (k1.trans k2) (by rw [upd_same,if_pos hb0]) (by rw [hb0];exact k2 _ _ upd_same)
  have c1:¬ ((nS bs:Nat):Int) = 0:=dec_false c
  have hne:¬ bs = []:=fun z=>by rw [ln,z] at c1;exact c1 rfl
  have hget:∀i,i < nS bs→((stps f bs).map V.str)[i]? = some (.str (txt (stl (f + 40 * i) (pcs bs i)))):=fun i hi=>by
    unfold stps
    rw [List.getElem?_map,List.getElem?_map,List.getElem?_range hi]
    rfl
  have hat0:atI ((stps f bs).map V.str) 0 = some (.str (txt (stl (f + 40 * 0) (pcs bs 0)))):=atI_nat (j:=0) (hget 0 (by omega))
  refine⟨_,_,hS,hat0,f + 40 * 0,pcs bs 0,rfl,by omega,pcs_len bs 0,fun H1 g1=>?_⟩
  rw [Nat.mul_zero,Nat.add_zero]
  refine⟨small_lit rfl,fun q_ hq=>?_⟩
  have k1:=same_new hq (.lst [])
  have e1:=upd_same (H:=H1) (a:=q_) (o:= .lst [])
  generalize upd H1 q_ _ = H2 at k1 e1
  have fq:=g1.none hq
  have gs:=g1.trans k1
  refine⟨⟨_,gs.seq hS⟩,for_enum (xs:=(stps f bs).map V.str) (fun i σ H'=>(∃x y z,σ = [some (.ref a),some (.int ((f:Nat):Int)),some (.ref q_),x,y,z])∧Same H H'∧H' q_ = some (.lst ((bs.take (40 * i)).map V.int))) ⟨⟨_,_,_,rfl⟩,gs,e1⟩ (fun i σ H' _ z=>z.2.1.seq hS) ?_ ?_⟩
  · rintro i x σ H' t hx ⟨⟨x1,x2,x3,rfl⟩,g,eq_⟩ ht
    have hi:i < nS bs:=by
      have:=(List.getElem?_eq_some_iff.mp hx).1
      rwa [List.length_map,ls] at this
    rw [hget i hi] at hx
    cases hx
    refine⟨_,_,SqT.of upd_same,?_⟩
    have k3:=same_new ht (.tup [.int ((i:Nat):Int),.str (txt (stl (f + 40 * i) (pcs bs i)))])
    have eq3:=k3 _ _ eq_
    generalize upd H' t _ = H3 at k3 eq3
    have g3:=g.trans k3
    have pl:(pcs bs i).length = min 40 (bs.length - 40 * i):=by unfold pcs;rw [List.length_take,List.length_drop]
    refine⟨fun σ' H''=>σ' = [some (.ref a),some (.int ((f:Nat):Int)),some (.ref q_),some (.int ((i:Nat):Int)),some (.str (txt (stl (f + 40 * i) (pcs bs i)))),x3]∧Same H3 H'',?_,?_⟩
    · refine⟨f + 40 * i,pcs bs i,rfl,by omega,pcs_len bs i,fun H4 g4=>?_⟩
      refine⟨⟨by decide,big64 (by omega) (by omega)⟩,?_⟩
      have et:(((f + 40 * i:Nat)):Int) = ((f:Nat):Int) + 40 * ((i:Nat):Int):=by omega
      refine ite2 (fun c=>?_) (fun c=>⟨rfl,g4⟩)
      have c2:(!decide ((((f + 40 * i:Nat)):Int) = ((f:Nat):Int) + 40 * ((i:Nat):Int))) = true:=c
      rw [decide_eq_true et] at c2
      cases c2
    rintro σ' H4 ⟨rfl,g4⟩
    refine⟨f + 40 * i,pcs bs i,rfl,by omega,pcs_len bs i,fun H5 g5=>?_⟩
    have g35:=g4.trans g5
    refine⟨fun σ' H''=>σ' = [some (.ref a),some (.int ((f:Nat):Int)),some (.ref q_),some (.int ((i:Nat):Int)),some (.str (txt (stl (f + 40 * i) (pcs bs i)))),some (.str (txt ((pcs bs i).map sgn)))]∧H'' = H5,?_,?_⟩
    · refine⟨_,.inl ((g3.trans g35).seq hS),?_⟩
      rw [List.length_map,ls]
      conv=>whnf
      refine ite2 (fun c=>?_) (fun c=>⟨rfl,rfl⟩)
      have c2:((i:Nat):Int) < ((nS bs:Nat):Int) - 1:=dec_true c
      refine⟨by rw [txt_len,List.length_map];exact szl (by omega),?_⟩
      rw [txt_len,List.length_map]
      conv=>whnf
      refine ite2 (fun c3=>?_) (fun c3=>⟨rfl,rfl⟩)
      have c4:(!decide ((((pcs bs i).length:Nat):Int) = 40)) = true:=c3
      rw [decide_eq_true (by omega)] at c4
      cases c4
    rintro σ' H_ ⟨rfl,e_H⟩
    rw [e_H]
    clear e_H
    have eq5:=g35 _ _ eq3
    refine⟨⟨_,eq5⟩,trivial,comp_text (z:=txt ((pcs bs i).map sgn)) (fun j ys H'=>ys = ((pcs bs i).take j).map V.int∧H' = H5) ?_ ⟨rfl,rfl⟩ ?_ ?_⟩
    · rintro j ys H' hj ⟨rfl,_⟩
      refine szl1 ?_
      rw [List.length_map,List.length_take]
      omega
    · rintro j c ys H' hc ⟨rfl,rfl⟩
      have hc':((pcs bs i).map sgn)[j]? = some c:=by
        have:(((pcs bs i).map sgn).toArray)[j]? = some c:=hc
        rwa [List.getElem?_toArray] at this
      rw [List.getElem?_map] at hc'
      obtain⟨b,hb1,hb2⟩:∃b,(pcs bs i)[j]? = some b∧sgn b = c:=by
        cases e:(pcs bs i)[j]? with
        | none=>rw [e] at hc';cases hc'
        | some b=>rw [e] at hc';exact⟨b,rfl,Option.some.inj hc'⟩
      obtain⟨hj,hbj⟩:=List.getElem?_eq_some_iff.mp hb1
      have hbb:=pcs_bits hb i b (List.mem_of_getElem? hb1)
      obtain⟨rest,ho⟩:=sgn_at hbb
      rw [hb2] at ho
      refine⟨b.toNat,rest,ho,?_,rfl⟩
      rw [List.take_succ_eq_append_getElem hj,hbj,List.map_append]
      rw [show ((b.toNat:Nat):Int) = b by omega]
      rfl
    rintro ys H' ⟨rfl,rfl⟩ pz hpz
    have esz:(txt ((pcs bs i).map sgn)).cps.size = (pcs bs i).length:=by show (((pcs bs i).map sgn).toArray).size = _;rw [List.size_toArray,List.length_map]
    rw [esz,List.take_of_length_le (Nat.le_refl _)]
    have k6:=same_new hpz (.lst ((pcs bs i).map V.int))
    refine⟨_,_,k6 _ _ eq5,upd_same,szl (by rw [List.length_map,List.length_map,List.length_take];omega),⟨_,_,_,rfl⟩,?_,?_⟩
    · exact((g3.trans g35).trans k6).put fq
    · rw [upd_same,←List.map_append]
      have:bs.take (40 * (i + 1)) = bs.take (40 * i) ++ pcs bs i:=by
        rw [show 40 * (i + 1) = 40 * i + 40 by omega,List.take_add]
      rw [this]
  rintro σ H3 ⟨⟨x1,x2,x3,rfl⟩,g3,e3⟩
  rw [List.length_map,ls,List.take_of_length_le (by omega)] at e3
  refine⟨small_lit rfl,fun t ht=>?_⟩
  have k4:=same_new ht (.tup [.int ((f:Nat):Int),.ref q_])
  exact q t q_ _ (g3.none ht) fq (fun z=>by rw [z,e3] at ht;cases ht) (g3.trans k4) (by rw [upd_same,if_neg hne]) (k4 _ _ e3)
theorem sc__law_draw:FnScope ["_law_script","_law_k","_law_many","_law_cell","_law_seed"] ["_law_script","_law_k","_law_many"] (defScope s__law_draw):=⟨rfl,rfl,rfl,by decide +kernel,rfl,by decide +kernel,by decide +kernel⟩
set_option maxHeartbeats 4000000 in
theorem ok__law_draw {a__law_draw:Addr} {d__law_draw:FuncData} (F__law_draw:Fun K "_law_draw" "_law_draw" s__law_draw a__law_draw d__law_draw) (m_len:mg "len" = none) :
    FnOk P w K mg base CX0 1 a__law_draw d__law_draw ["_law_script","_law_k","_law_many"] (spDraw K):=by
  refine F__law_draw.ok sc__law_draw (fun vs H Q E h=>?_) (fun cdv A outer s H vs Q E hr h=>?_)
  · obtain⟨a,ns,k,m,rfl,_⟩:=h
    rfl
  obtain⟨a,ns,k,m,rfl,hS,h63,k0,k1,m0,q⟩:=h
  have nd:=sc__law_draw.nd
  refine⟨_,(pss_cons (ps_set (i:=3) nd rfl (Or.inl rfl) (pe_cut (pe_ifExp (md_cmp z_gt (pe_callB z_len rfl m_len bt_len (pa_cons (dv 0) pa_nil)) pe_int (nomark _)) (pe_ix z_ixL (dv 0) (pe_op z_mod (dv 1) (pe_callB z_len rfl m_len bt_len (pa_cons (dv 0) pa_nil))) (fun _ _=>rfl)) pe_int))) (pss_cons (ps_set (i:=4) nd rfl (Or.inl rfl) (pe_op z_add (pe_op z_add (pe_op z_mod (dv 3) pe_int) (pe_op z_mul (pe_op z_mul pe_int (dv 1)) (dv 1))) pe_int)) (pss_one (ps_ret (pe_op z_mod (pe_op z_mod (pe_op z_mul (pe_op z_mod (pe_op z_mul (dv 4) pe_int) pe_int) pe_int) pe_int) (dv 2)))))),?_⟩
  refine⟨fun x H'=>(∃v,x = .int v)∧H' = H,?_,?_⟩
  · have hlen:(ns.map V.int).length = ns.length:=List.length_map _
    refine⟨_,.inl hS,?_⟩
    conv=>whnf
    refine ite2 (fun c=>?_) (fun c=>⟨⟨_,rfl⟩,rfl⟩)
    have c1:(0:Int) < (((ns.map V.int).length:Nat):Int):=dec_true c
    obtain⟨v,hv⟩:=at_mod (ns:=ns) (k:=k) (by rw [hlen] at c1;omega)
    exact⟨_,.inl hS,c1,_,_,hS,hv,⟨v,rfl⟩,rfl⟩
  rintro x H' ⟨⟨v,rfl⟩,rfl⟩
  have k2:31 * k * k≤31 * 100000 * 100000:=Int.mul_le_mul (by omega) k1 k0 (by decide)
  have k3:0≤31 * k * k:=Int.mul_nonneg (by omega) k0
  refine⟨(by show (0:Int) < _;decide),⟨big64 (by decide) (by decide),big64 (by omega) (by omega)⟩,⟨big64 (by omega) (by omega),big64 (by omega) (by omega)⟩,?_⟩
  have s0:0≤v % 1000003:=Int.emod_nonneg _ (by decide)
  have s1:v % 1000003 < 1000003:=Int.emod_lt_of_pos _ (by decide)
  refine⟨⟨big64 (by omega) (by omega),big64 (by decide) (by decide)⟩,(by show (0:Int) < _;decide),?_⟩
  have t0:0≤(v % 1000003 + 31 * k * k + 1) * 48271 % 999983:=Int.emod_nonneg _ (by decide)
  have t1:(v % 1000003 + 31 * k * k + 1) * 48271 % 999983 < 999983:=Int.emod_lt_of_pos _ (by decide)
  refine⟨⟨big64 (by omega) (by omega),big64 (by decide) (by decide)⟩,(by show (0:Int) < _;decide),m0,?_⟩
  exact q _ (Int.emod_nonneg _ (by omega)) (Int.emod_lt_of_pos _ m0)
theorem sc__law_figures:FnScope ["_law_turn","_law_signs","_law_k"] ["_law_turn"] (defScope s__law_figures):=⟨rfl,rfl,rfl,by decide +kernel,rfl,by decide +kernel,by decide +kernel⟩
set_option maxHeartbeats 4000000 in
theorem ok__law_figures {a__law_figures:Addr} {d__law_figures:FuncData} (F__law_figures:Fun K "_law_figures" "_law_figures" s__law_figures a__law_figures d__law_figures) (m_range:mg "range" = none) :
    FnOk P w K mg base CX0 1 a__law_figures d__law_figures ["_law_turn"] (spFig):=by
  refine F__law_figures.ok sc__law_figures (fun vs H Q E h=>?_) (fun cdv A outer s H vs Q E hr h=>?_)
  · obtain⟨n,rfl,_⟩:=h
    rfl
  obtain⟨n,rfl,hn,q⟩:=h
  have nd:=sc__law_figures.nd
  refine⟨_,(pss_cons (ps_set (i:=1) nd rfl (Or.inl rfl) pe_str) (pss_cons (ps_for PassesOwn.never rfl (mi_range1 rfl m_range (pa_cons pe_int pa_nil)) (pg_name (i:=2) nd rfl (Or.inl rfl)) (pss_cons (ps_set (i:=1) nd rfl (Or.inl rfl) (pe_op z_addS (pe_ix z_ixS pe_str (pe_op z_mod (dv 0) pe_int) (fun _ _=>rfl)) (dv 1))) (pss_one (ps_set (i:=0) nd rfl (Or.inl rfl) (pe_op z_fdiv (dv 0) pe_int))))) (pss_one (ps_ret (dv 1))))),?_⟩
  refine⟨⟨by decide,by decide⟩,for_range (fun i σ H'=>(∃x,σ = [some (.int ((n / 10 ^ i:Nat):Int)),some (.str (txt (fg i n))),x])∧H' = H) ⟨⟨_,by rw [Nat.pow_zero,Nat.div_one];rfl⟩,rfl⟩ ?_ ?_⟩
  · rintro i σ H' hi ⟨⟨x,rfl⟩,rfl⟩
    have hi6:i < 6:=hi
    have em:((n / 10 ^ i:Nat):Int) % 10 = ((n / 10 ^ i % 10:Nat):Int):=by omega
    refine⟨(by show (0:Int) < 10;decide),48 + n / 10 ^ i % 10,szl (by decide),by rw [em];exact dig_at (by omega),?_⟩
    have ea:(⟨#[48 + n / 10 ^ i % 10]⟩:Str) ++ txt (fg i n) = txt (fg (i + 1) n):=by rw [fg_front];exact txt_add [48 + n / 10 ^ i % 10] _
    refine⟨by show (txt [48 + n / 10 ^ i % 10]).length + (txt (fg i n)).length≤sizeLine;rw [txt_len,txt_len,fg_len];exact szl (by show 1 + i≤9000;omega),?_⟩
    refine⟨⟨by decide,by decide⟩,⟨some (.int (0 + (i:Int))),?_⟩,rfl⟩
    have ed:((n / 10 ^ i:Nat):Int) / 10 = ((n / 10 ^ (i + 1):Nat):Int):=by rw [Nat.pow_succ,←Nat.div_div_eq_div_mul];omega
    show [some (V.int (((n / 10 ^ i:Nat):Int) / 10)),some (V.str ((⟨#[48 + n / 10 ^ i % 10]⟩:Str) ++ txt (fg i n))),_] = _
    rw [ed,ea]
  rintro σ H' ⟨⟨x,rfl⟩,rfl⟩
  exact q
theorem sc_law:FnScope ["_law_script","_law_size","_law_first","_law_bits","_law_due","_law_at","_law_signs","_law_handed","_law_found","_law_drawing","_law_back","_law_bit"] ["_law_script"] (defScope s_law):=⟨rfl,rfl,rfl,by decide +kernel,rfl,by decide +kernel,by decide +kernel⟩
set_option maxHeartbeats 4000000 in
theorem ok_law {a_law:Addr} {d_law:FuncData} {a__law_draw:Addr} {d__law_draw:FuncData} {a__law_figures:Addr} {d__law_figures:FuncData} {a_strips:Addr} {d_strips:FuncData} {a_read_strips:Addr} {d_read_strips:FuncData} (F_law:Fun K "law" "law" s_law a_law d_law) (m_range:mg "range" = none) (m_list:mg "list" = none) (m_isinstance:mg "isinstance" = none) (m_len:mg "len" = none) (m_tuple:mg "tuple" = none) (m_bool:mg "bool" = none) (G__law_draw:FnOk P w K mg base CX0 1 a__law_draw d__law_draw ["_law_script","_law_k","_law_many"] (spDraw K)) (b__law_draw:Binds K d__law_draw ["_law_script","_law_k","_law_many"] []) (k__law_draw:PySem.W.keepIn K (.ref a__law_draw) = true) (m__law_draw:mg "_law_draw" = some (.ref a__law_draw)) (G__law_figures:FnOk P w K mg base CX0 1 a__law_figures d__law_figures ["_law_turn"] (spFig)) (b__law_figures:Binds K d__law_figures ["_law_turn"] []) (k__law_figures:PySem.W.keepIn K (.ref a__law_figures) = true) (m__law_figures:mg "_law_figures" = some (.ref a__law_figures)) (G_strips:FnOk P w K mg base CX0 2 a_strips d_strips ["bits","first"] (spStrips K)) (b_strips:Binds K d_strips ["bits","first"] []) (k_strips:PySem.W.keepIn K (.ref a_strips) = true) (m_strips:mg "strips" = some (.ref a_strips)) (G_read_strips:FnOk P w K mg base CX0 2 a_read_strips d_read_strips ["some"] (spReadS K)) (b_read_strips:Binds K d_read_strips ["some"] []) (k_read_strips:PySem.W.keepIn K (.ref a_read_strips) = true) (m_read_strips:mg "read_strips" = some (.ref a_read_strips)) :
    FnOk P w K mg base CX0 4 a_law d_law ["_law_script"] (spLaw K):=by
  refine F_law.ok sc_law (fun vs H Q E h=>?_) (fun cdv A outer s H vs Q E hr h=>?_)
  · obtain⟨a,ns,rfl,_⟩:=h
    rfl
  obtain⟨a,ns,rfl,hS,h63,q⟩:=h
  have nd:=sc_law.nd
  refine⟨_,(pss_cons (ps_set (i:=1) nd rfl (Or.inl rfl) (pe_call G__law_draw (hr.mono (by decide)) rfl m__law_draw k__law_draw b__law_draw .nil pass0 (pa_cons (dv 0) (pa_cons pe_int (pa_cons pe_int pa_nil))))) (pss_cons (ps_cut (ps_if (md_cmp z_eq (pe_call G__law_draw (hr.mono (by decide)) rfl m__law_draw k__law_draw b__law_draw .nil pass0 (pa_cons (dv 0) (pa_cons pe_int (pa_cons pe_int pa_nil)))) pe_int (nomark _)) (pss_one (ps_set (i:=1) nd rfl (Or.inl rfl) (pe_ix z_ixL (pe_lst (pa_cons pe_int (pa_cons pe_int (pa_cons pe_int (pa_cons pe_int pa_nil))))) (pe_call G__law_draw (hr.mono (by decide)) rfl m__law_draw k__law_draw b__law_draw .nil pass0 (pa_cons (dv 0) (pa_cons pe_int (pa_cons pe_int pa_nil)))) (fun _ _=>rfl)))) (pss_one (ps_if (md_cmp z_eq (pe_call G__law_draw (hr.mono (by decide)) rfl m__law_draw k__law_draw b__law_draw .nil pass0 (pa_cons (dv 0) (pa_cons pe_int (pa_cons pe_int pa_nil)))) pe_int (nomark _)) (pss_one (ps_set (i:=1) nd rfl (Or.inl rfl) (pe_call G__law_draw (hr.mono (by decide)) rfl m__law_draw k__law_draw b__law_draw .nil pass0 (pa_cons (dv 0) (pa_cons pe_int (pa_cons pe_int pa_nil)))))) pss_nil)))) (pss_cons (ps_set (i:=2) nd rfl (Or.inl rfl) (pe_call G__law_draw (hr.mono (by decide)) rfl m__law_draw k__law_draw b__law_draw .nil pass0 (pa_cons (dv 0) (pa_cons pe_int (pa_cons pe_int pa_nil))))) (pss_cons (ps_cut (ps_if (md_cmp z_eq (pe_call G__law_draw (hr.mono (by decide)) rfl m__law_draw k__law_draw b__law_draw .nil pass0 (pa_cons (dv 0) (pa_cons pe_int (pa_cons pe_int pa_nil)))) pe_int (nomark _)) (pss_one (ps_set (i:=2) nd rfl (Or.inl rfl) (pe_op z_mul pe_int (pe_call G__law_draw (hr.mono (by decide)) rfl m__law_draw k__law_draw b__law_draw .nil pass0 (pa_cons (dv 0) (pa_cons pe_int (pa_cons pe_int pa_nil))))))) pss_nil)) (pss_cons (ps_setComp (j:=3) nd rfl rfl rfl (ix:=[0]) (mi_range1 rfl m_range (pa_cons (dv 1) pa_nil)) (fun C fp s0 H0 at0=>pts_nil) (fun C fp s0 H0 at0=>(pe_call G__law_draw (hr.mono (by decide)) rfl m__law_draw k__law_draw b__law_draw .nil pass0 (pa_cons (dv 1) (pa_cons (pe_op z_add pe_int (dv 0)) (pa_cons pe_int pa_nil))))) rfl rfl (by rfl) (show ([".0","_law_k","_law_script"]:List Str).Nodup by decide +kernel)) (pss_cons (ps_cut (ps_if (md_cmp z_eq (pe_call G__law_draw (hr.mono (by decide)) rfl m__law_draw k__law_draw b__law_draw .nil pass0 (pa_cons (dv 0) (pa_cons pe_int (pa_cons pe_int pa_nil)))) pe_int (nomark _)) (pss_one (ps_set (i:=3) nd rfl (Or.inl rfl) (pe_op z_rep (pe_lst (pa_cons (pe_call G__law_draw (hr.mono (by decide)) rfl m__law_draw k__law_draw b__law_draw .nil pass0 (pa_cons (dv 0) (pa_cons pe_int (pa_cons pe_int pa_nil)))) pa_nil)) (dv 1)))) pss_nil)) (pss_cons (ps_set (i:=4) nd rfl (Or.inl rfl) (pe_lst pa_nil)) (pss_cons (ps_for PassesOwn.never rfl (mi_range3 rfl m_range (pa_cons pe_int (pa_cons (dv 1) (pa_cons pe_int pa_nil)))) (pg_name (i:=5) nd rfl (Or.inl rfl)) (pss_cons (ps_setComp (j:=6) nd rfl rfl rfl (ix:=[]) (mi_list (pe_slice z_slL (dv 3) (md_part (dv 5)) (md_part (pe_op z_add (dv 5) pe_int)))) (fun C fp s0 H0 at0=>pts_nil) (fun C fp s0 H0 at0=>(pe_ix z_ixS pe_str (dv 0) (fun _ _=>rfl))) rfl rfl (by rfl) (show ([".0","_law_bit"]:List Str).Nodup by decide +kernel)) (pss_one (ps_expr (md_append (dv 4) (pa_cons (pe_op z_addS (pe_op z_addS (pe_call G__law_figures (hr.mono (by decide)) rfl m__law_figures k__law_figures b__law_figures .nil pass0 (pa_cons (pe_op z_add (dv 2) (dv 5)) pa_nil)) pe_str) (md_join pe_str (pa_cons (dv 6) pa_nil))) pa_nil)))))) (pss_cons (ps_set (i:=7) nd rfl (Or.inl rfl) (pe_callTy z_listOf rfl m_list bt_list (pa_cons (dv 3) pa_nil))) (pss_cons (ps_set (i:=8) nd rfl (Or.inl rfl) (pe_call G_strips (hr.mono (by decide)) rfl m_strips k_strips b_strips .nil pass0 (pa_cons (dv 7) (pa_cons (dv 2) pa_nil)))) (pss_cons (ps_if (PW.pt (pw_or (pt_not (md_val (pe_callB z_isi_list rfl m_isinstance bt_isinstance (pa_cons (dv 8) (pa_cons (pe_bltn (v:= .ty "list") rfl m_list bt_list rfl) pa_nil))))) (pw_or (md_cmp (z_neS hr.units) (dv 8) (dv 4) (nomark _)) (pw_or1 (md_cmp (z_neL hr.units) (dv 7) (dv 3) (nomark _)))))) (pss_one (ps_ret pe_bl)) pss_nil) (pss_cons (ps_expr (md_clear (dv 7))) (pss_cons (ps_set (i:=9) nd rfl (Or.inl rfl) (pe_callTy z_listOf rfl m_list bt_list (pa_cons (dv 4) pa_nil))) (pss_cons (ps_set (i:=10) nd rfl (Or.inl rfl) (pe_call G_read_strips (hr.mono (by decide)) rfl m_read_strips k_read_strips b_read_strips .nil pass0 (pa_cons (dv 9) pa_nil))) (pss_cons (ps_if (PW.pt (pw_or (pt_not (md_val (pe_callB z_isi_tuple rfl m_isinstance bt_isinstance (pa_cons (dv 10) (pa_cons (pe_bltn (v:= .ty "tuple") rfl m_tuple bt_tuple rfl) pa_nil))))) (pw_or (md_cmp z_ne (pe_callB z_len rfl m_len bt_len (pa_cons (dv 10) pa_nil)) pe_int (nomark _)) (pw_or (md_cmp (z_neS hr.units) (dv 9) (dv 4) (nomark _)) (pw_or1 (md_cmp (z_neS hr.units) (dv 8) (dv 4) (nomark _))))))) (pss_one (ps_ret pe_bl)) pss_nil) (pss_cons (ps_if (PW.pt (pw_or (md_val (pe_callB z_isi_bool rfl m_isinstance bt_isinstance (pa_cons (pe_ix z_ixT (dv 10) pe_int (fun _ _=>rfl)) (pa_cons (pe_bltn (v:= .ty "bool") rfl m_bool bt_bool rfl) pa_nil)))) (pw_or1 (pt_not (md_val (pe_callB z_isi_list rfl m_isinstance bt_isinstance (pa_cons (pe_ix z_ixT (dv 10) pe_int (fun _ _=>rfl)) (pa_cons (pe_bltn (v:= .ty "list") rfl m_list bt_list rfl) pa_nil)))))))) (pss_one (ps_ret pe_bl)) pss_nil) (pss_cons (ps_for PassesOwn.never rfl (mi_list (pe_ix z_ixT (dv 10) pe_int (fun _ _=>rfl))) (pg_name (i:=11) nd rfl (Or.inl rfl)) (pss_one (ps_if (md_val (pe_callB z_isi_bool rfl m_isinstance bt_isinstance (pa_cons (dv 11) (pa_cons (pe_bltn (v:= .ty "bool") rfl m_bool bt_bool rfl) pa_nil)))) (pss_one (ps_ret pe_bl)) pss_nil))) (pss_cons (ps_expr (md_append (dv 8) (pa_cons pe_str pa_nil))) (pss_cons (ps_if (PW.pt (pw_or (md_cmp (z_neS hr.units) (dv 10) (pe_tup (pa_cons (pe_cut (pe_cut (pe_ifExp (md_cmp z_gt (dv 1) pe_int (nomark _)) (dv 2) pe_int))) (pa_cons (dv 3) pa_nil))) (nomark _)) (pw_or1 (md_cmp (z_neS hr.units) (pe_call G_strips (hr.mono (by decide)) rfl m_strips k_strips b_strips .nil pass0 (pa_cons (pe_callTy z_listOf rfl m_list bt_list (pa_cons (dv 3) pa_nil)) (pa_cons (dv 2) pa_nil))) (dv 4) (nomark _))))) (pss_one (ps_ret pe_bl)) pss_nil) (pss_cons (ps_expr (md_append (pe_ix z_ixT (dv 10) pe_int (fun _ _=>rfl)) (pa_cons pe_int pa_nil))) (pss_one (ps_ret (pe_cmpR (z_eqS hr.units) (pe_call G_read_strips (hr.mono (by decide)) rfl m_read_strips k_read_strips b_read_strips .nil pass0 (pa_cons (pe_callTy z_listOf rfl m_list bt_list (pa_cons (dv 4) pa_nil)) pa_nil)) (pe_tup (pa_cons (pe_cut (pe_cut (pe_ifExp (md_cmp z_gt (dv 1) pe_int (nomark _)) (dv 2) pe_int))) (pa_cons (dv 3) pa_nil))) (nomark _)))))))))))))))))))))))),?_⟩
  refine⟨a,ns,0,131,rfl,hS,h63,by decide,by decide,by decide,fun m0 m0a m0b=>?_⟩
  refine⟨fun σ' H'=>∃m:Nat,σ' = [some (.ref a),some (.int ((m:Nat):Int)),none,none,none,none,none,none,none,none,none,none]∧Same H H'∧m≤2000,?_,?_⟩
  · refine⟨a,ns,1,6,rfl,hS,h63,by decide,by decide,by decide,fun x x0 x1=>?_⟩
    refine ite2 (fun c=>?_) (fun c=>?_)
    · refine⟨small_lit rfl,fun l hl=>?_⟩
      have k1:=same_new hl (.lst [.int 40,.int 80,.int 120,.int 2000])
      have e1:=upd_same (H:=H) (a:=l) (o:= .lst [.int 40,.int 80,.int 120,.int 2000])
      generalize upd H l _ = H1 at k1 e1
      refine⟨a,ns,0,4,rfl,k1.seq hS,h63,by decide,by decide,by decide,fun j j0 j1=>?_⟩
      have:j = 0∨j = 1∨j = 2∨j = 3:=by omega
      rcases this with rfl | rfl | rfl | rfl
      · exact⟨_,_,SqL.of e1,rfl,40,rfl,k1,by decide⟩
      · exact⟨_,_,SqL.of e1,rfl,80,rfl,k1,by decide⟩
      · exact⟨_,_,SqL.of e1,rfl,120,rfl,k1,by decide⟩
      · exact⟨_,_,SqL.of e1,rfl,2000,rfl,k1,by decide⟩
    · refine⟨a,ns,2,8,rfl,hS,h63,by decide,by decide,by decide,fun y y0 y1=>?_⟩
      refine ite2 (fun c2=>?_) (fun c2=>?_)
      · refine⟨a,ns,0,2001,rfl,hS,h63,by decide,by decide,by decide,fun m m1 m2=>?_⟩
        obtain⟨m,rfl⟩:=Int.eq_ofNat_of_zero_le m1
        exact⟨m,rfl,Same.refl _,by omega⟩
      · obtain⟨m,rfl⟩:=Int.eq_ofNat_of_zero_le m0a
        exact⟨m,rfl,Same.refl _,by omega⟩
  rintro σ' H1 ⟨m,rfl,g1,hm⟩
  refine⟨a,ns,3,20001,rfl,g1.seq hS,h63,by decide,by decide,by decide,fun f0 f0a f0b=>?_⟩
  refine⟨fun σ' H'=>∃f:Nat,σ' = [some (.ref a),some (.int ((m:Nat):Int)),some (.int ((f:Nat):Int)),none,none,none,none,none,none,none,none,none]∧H' = H1∧f≤20000,?_,?_⟩
  · refine⟨a,ns,4,5,rfl,g1.seq hS,h63,by decide,by decide,by decide,fun x x0 x1=>?_⟩
    refine ite2 (fun c=>?_) (fun c=>?_)
    · refine⟨a,ns,3,2,rfl,g1.seq hS,h63,by decide,by decide,by decide,fun y y0 y1=>?_⟩
      obtain⟨y,rfl⟩:=Int.eq_ofNat_of_zero_le y0
      refine⟨⟨by decide,big64 (by omega) (by omega)⟩,20000 * y,?_,rfl,by omega⟩
      rw [Int.natCast_mul];rfl
    · obtain⟨f,rfl⟩:=Int.eq_ofNat_of_zero_le f0a
      exact⟨f,rfl,rfl,by omega⟩
  rintro σ' H_ ⟨f,rfl,e_H,hf⟩
  rw [e_H]
  clear e_H
  have em:((m:Nat):Int).toNat = m:=Int.toNat_natCast m
  refine⟨⟨by omega,by omega⟩,comp_range (fun i ys H'=>∃bs:List Int,ys = bs.map V.int∧Bits bs∧bs.length = i∧H' = H1) ?_ ⟨[],rfl,(fun _ z=>by cases z),rfl,rfl⟩ ?_ ?_⟩
  · rintro i ys H' hi ⟨bs,rfl,_,hbl,_⟩
    rw [em] at hi
    refine szl1 ?_
    rw [List.length_map]
    omega
  · rintro i ys H' hi ⟨bs,rfl,hb,hbl,rfl⟩
    rw [em] at hi
    refine⟨a,ns,_,2,rfl,g1.seq hS,h63,by omega,by omega,by decide,fun d d0 d1=>?_⟩
    refine⟨bs ++ [d],by rw [List.map_append];rfl,fun z hz=>?_,by rw [List.length_append,hbl];rfl,rfl⟩
    rcases List.mem_append.mp hz with y | y
    · exact hb z y
    · rw [List.mem_singleton.mp y];omega
  rintro ys H_ ⟨bs0,rfl,hb0,hbl0,e_H⟩ p0 hp0
  rw [e_H] at hp0 ⊢
  clear e_H
  rw [em] at hbl0
  have k2:=same_new hp0 (.lst (bs0.map V.int))
  have e2:=upd_same (H:=H1) (a:=p0) (o:= .lst (bs0.map V.int))
  generalize upd H1 p0 _ = H2 at k2 e2
  have g2:=g1.trans k2
  refine⟨fun σ' H'=>∃(p:Addr) (bs:List Int),σ' = [some (.ref a),some (.int ((m:Nat):Int)),some (.int ((f:Nat):Int)),some (.ref p),none,none,none,none,none,none,none,none]∧Same H H'∧H' p = some (.lst (bs.map V.int))∧Bits bs∧bs.length = m,?_,?_⟩
  · refine⟨a,ns,5,5,rfl,g2.seq hS,h63,by decide,by decide,by decide,fun x x0 x1=>?_⟩
    refine ite2 (fun c=>?_) (fun c=>⟨p0,bs0,rfl,g2,e2,hb0,hbl0⟩)
    refine⟨a,ns,6,2,rfl,g2.seq hS,h63,by decide,by decide,by decide,fun d d0 d1=>?_⟩
    refine⟨small_lit rfl,fun l hl=>?_⟩
    have k3:=same_new hl (.lst [.int d])
    have e3:=upd_same (H:=H2) (a:=l) (o:= .lst [.int d])
    generalize upd H2 l _ = H3 at k3 e3
    refine⟨_,e3,⟨by omega,by omega⟩,szl (by show 1 * ((m:Nat):Int).toNat≤9000;omega),fun p hp=>?_⟩
    rw [rep_one,em]
    have k4:=same_new hp (.lst (List.replicate m (V.int d)))
    refine⟨p,List.replicate m d,rfl,g2.trans (k3.trans k4),by rw [upd_same,List.map_replicate],fun z hz=>by rw [List.eq_of_mem_replicate hz];omega,List.length_replicate⟩
  clear k2 e2 g2 hbl0 hb0 hp0 g1
  rintro σ' H2 ⟨p,bs,rfl,g2,ep,hb,hbl⟩
  refine⟨small_lit rfl,fun D hD=>?_⟩
  have fD:=g2.none hD
  have k3:=same_new hD (.lst [])
  have eD:=upd_same (H:=H2) (a:=D) (o:= .lst [])
  have pD:p≠D:=fun z=>by rw [←z,ep] at hD;cases hD
  have ep3:=k3 _ _ ep
  generalize upd H2 D _ = H3 at k3 eD ep3
  have g3:=g2.trans k3
  have esz:nS bs = (m + 39) / 40:=by unfold nS;rw [hbl]
  refine⟨by decide,PyProof.noPylong_small (by decide),(m + 39) / 40,small40 (by omega),size40 m,for_rangec (fun i σ H'=>(∃x y,σ = [some (.ref a),some (.int ((m:Nat):Int)),some (.int ((f:Nat):Int)),some (.ref p),some (.ref D),x,y,none,none,none,none,none])∧Same H H'∧H' p = some (.lst (bs.map V.int))∧H' D = some (.lst (((List.range i).map fun i=>txt (stl (f + 40 * i) (pcs bs i))).map V.str))) ⟨⟨_,_,rfl⟩,g3,ep3,eD⟩ ?_ ?_⟩
  · rintro i σ H' hi ⟨⟨x,y,rfl⟩,g,ep,eD⟩
    refine⟨_,SqL.of ep,fun p5 hp5=>?_⟩
    have e1:(0:Int) + (i:Int) * 40 = ((40 * i:Nat):Int):=by omega
    have e2:(0:Int) + (i:Int) * 40 + 40 = ((40 * i + 40:Nat):Int):=by omega
    rw [e2,e1,cut_ab (by omega),show 40 * i + 40 - 40 * i = 40 by omega]
    have k5:=same_new hp5 (.lst ((pcs bs i).map V.int))
    have e5:=upd_same (H:=H') (a:=p5) (o:= .lst ((pcs bs i).map V.int))
    generalize upd H' p5 _ = H5 at k5 e5
    refine⟨⟨_,SqL.of e5⟩,comp_list (xs:=(pcs bs i).map V.int) (fun j ys H''=>ys = (((pcs bs i).take j).map fun b=>V.str (txt [sgn b]))∧H'' = H5) ?_ ⟨rfl,rfl⟩ (fun j ys H'' _ z=>by rw [z.2];exact SqL.of e5) ?_ ?_⟩
    · rintro j ys H'' hj ⟨rfl,_⟩
      refine szl1 ?_
      have:=pcs_len bs i
      rw [List.length_map,List.length_take]
      omega
    · rintro j x ys H'' hx ⟨rfl,rfl⟩
      obtain⟨hj,rfl⟩:=get_int hx
      refine⟨sgn (pcs bs i)[j],szl (by decide),?_,?_,rfl⟩
      · rcases pcs_bits hb i _ (List.getElem_mem hj) with e | e <;> rw [e] <;> rfl
      · rw [List.take_succ_eq_append_getElem hj,List.map_append]
        rfl
    rintro ys H'' ⟨rfl,e_H⟩ p6 hp6
    rw [e_H] at hp6 ⊢
    clear e_H
    rw [List.length_map,List.take_of_length_le (Nat.le_refl _)]
    have k6:=same_new hp6 (.lst ((pcs bs i).map fun b=>V.str (txt [sgn b])))
    have e6:=upd_same (H:=H5) (a:=p6) (o:= .lst ((pcs bs i).map fun b=>V.str (txt [sgn b])))
    generalize upd H5 p6 _ = H6 at k6 e6
    have gk:=k5.trans k6
    have hi':i < (m + 39) / 40:=hi
    refine⟨⟨_,SqL.of (gk _ _ eD)⟩,f + 40 * i,by show [V.int (((f:Nat):Int) + ((40 * i:Nat):Int))] = _;rw [←Int.natCast_add],by omega,?_⟩
    refine⟨by show (txt (fg 6 (f + 40 * i))).length + 1≤sizeLine;rw [txt_len,fg_len];exact szl (by decide),?_⟩
    refine⟨((pcs bs i).map fun b=>[sgn b]).map txt,?_,join1 ?_ (by rw [List.length_map];have:=pcs_len bs i;omega),?_⟩
    · rw [e6,List.map_map,List.map_map];rfl
    · intro l hl2
      obtain⟨b,_,rfl⟩:=List.mem_map.mp hl2
      rfl
    have ej:Txt.join (txt []) (((pcs bs i).map fun b=>[sgn b]).map txt) = txt ((pcs bs i).map sgn):=by rw [join_empty,flat_sgn]
    have eb:txt (fg 6 (f + 40 * i)) ++ (" ":Str) = txt (fg 6 (f + 40 * i) ++ [32]):=txt_add _ [32]
    have el:(txt (fg 6 (f + 40 * i)) ++ (" ":Str)).length + (Txt.join (txt []) (((pcs bs i).map fun b=>[sgn b]).map txt)).length≤sizeLine:=by
      rw [eb,ej,txt_len,txt_len,List.length_append,fg_len,List.length_map]
      exact szl (by show 6 + 1 + _≤9000;have:=pcs_len bs i;omega)
    have ef:txt (fg 6 (f + 40 * i)) ++ (" ":Str) ++ Txt.join (txt []) (((pcs bs i).map fun b=>[sgn b]).map txt) = txt (stl (f + 40 * i) (pcs bs i)):=by rw [eb,ej,txt_add];rfl
    refine⟨el,_,gk _ _ eD,szl1 (by rw [List.length_map,List.length_map,List.length_range];omega),⟨_,_,rfl⟩,(g.trans gk).put fD,by rw [upd_ne pD];exact gk _ _ ep,?_⟩
    rw [upd_same,List.range_succ,List.map_append,List.map_append]
    exact congrArg (fun z=>some (HO.lst (_ ++ [V.str z]))) ef
  rintro σ Hb ⟨⟨x,y,rfl⟩,gb,ep,eD⟩
  have eD':Hb D = some (.lst ((stps f bs).map V.str)):=by rw [eD,←esz];rfl
  clear eD
  have hl:bs.length≤2000:=by omega
  have sh:=shaped_strs (stps_ok f bs)
  have dvS:∀{H':Hp} {l:Addr},H' l = some (.lst ((stps f bs).map V.str))→DV K H' (.ref l) (.list ((stps f bs).map PyData.str)):=fun e=> .lst (SqL.of e) (DVs.strs _)
  have dl:(stps f bs).length≤60:=by unfold stps nS;rw [List.length_map,List.length_range];omega
  refine⟨_,.inl (SqL.of ep),fun hn hhn=>?_⟩
  have k1:=same_new hhn (.lst (bs.map V.int))
  have e1:=upd_same (H:=Hb) (a:=hn) (o:= .lst (bs.map V.int))
  generalize upd Hb hn _ = H1 at k1 e1
  refine⟨hn,bs,f,rfl,SqL.of e1,hb,hl,hf,fun F H2 hF g2 eF=>?_⟩
  have b2:=k1.trans g2
  refine⟨rfl,⟨_,eF⟩,_,dvS eF,dvS (b2 _ _ eD'),sh,?_⟩
  conv=>whnf
  refine⟨bs,bs,SqL.of (g2 _ _ e1),SqL.of (b2 _ _ ep),?_⟩
  conv=>whnf
  refine iteNS rfl ?_
  refine⟨_,g2 _ _ e1,?_⟩
  have fF:Hb F = none:=k1.none hF
  have b3:=b2.put (o:= .lst []) hhn
  have eF3:upd H2 hn (.lst []) F = some (.lst ((stps f bs).map V.str)):=by rw [upd_ne (fun z=>by rw [z,e1] at hF;cases hF)];exact eF
  generalize upd H2 hn _ = H3 at b3 eF3
  refine⟨_,.inl (SqL.of (b3 _ _ eD')),fun dr hdr=>?_⟩
  have k4:=same_new hdr (.lst ((stps f bs).map V.str))
  have e4:=upd_same (H:=H3) (a:=dr) (o:= .lst ((stps f bs).map V.str))
  generalize upd H3 dr _ = H4 at k4 e4
  refine⟨dr,f,bs,rfl,SqL.of e4,hb,hl,hf,fun t q_ H5 ht hq htq g5 et eq_=>?_⟩
  have b5:=b3.trans (k4.trans g5)
  have eF5:=g5 _ _ (k4 _ _ eF3)
  refine⟨rfl,⟨_,et⟩,_,.inr (SqT.of et),?_⟩
  conv=>whnf
  refine⟨_,dvS (g5 _ _ e4),dvS (b5 _ _ eD'),sh,?_⟩
  conv=>whnf
  refine⟨_,dvS eF5,dvS (b5 _ _ eD'),sh,?_⟩
  conv=>whnf
  refine⟨_,_,SqT.of et,rfl,rfl,_,_,SqT.of et,rfl,rfl,⟨_,eq_⟩,?_⟩
  refine⟨_,_,SqT.of et,rfl,⟨_,SqL.of eq_⟩,for_list (xs:=bs.map V.int) (fun i σ H'=>(∃z,σ = [some (.ref a),some (.int ((m:Nat):Int)),some (.int ((f:Nat):Int)),some (.ref p),some (.ref D),x,y,some (.ref hn),some (.ref F),some (.ref dr),some (.ref t),z])∧H' = H5) ⟨⟨_,rfl⟩,rfl⟩ (fun i σ H' _ z=>by rw [z.2];exact SqL.of eq_) ?_ ?_⟩
  · rintro i v σ H' hx ⟨⟨y,rfl⟩,rfl⟩
    obtain⟨hi,rfl⟩:=get_int hx
    exact⟨rfl,⟨_,rfl⟩,rfl⟩
  rintro σ H_ ⟨⟨y,rfl⟩,e_H⟩
  rw [e_H]
  clear e_H
  refine⟨⟨_,SqL.of eF5⟩,_,eF5,szl1 (by rw [List.length_map];omega),?_⟩
  have nq:q_≠F:=fun z=>by rw [z,k4 _ _ eF3] at hq;cases hq
  have nt:t≠F:=fun z=>by rw [z,k4 _ _ eF3] at ht;cases ht
  have b6:=b5.put (o:= .lst ((stps f bs).map V.str ++ [.str ""])) fF
  have et6:upd H5 F (.lst ((stps f bs).map V.str ++ [.str ""])) t = some (.tup [.int (if bs = [] then 0 else ((f:Nat):Int)),.ref q_]):=by rw [upd_ne nt];exact et
  have eq6:upd H5 F (.lst ((stps f bs).map V.str ++ [.str ""])) q_ = some (.lst (bs.map V.int)):=by rw [upd_ne nq];exact eq_
  generalize upd H5 F _ = H6 at b6 et6 eq6
  have efs:∀H':Hp,(∀v H'',v = V.int (if bs = [] then 0 else ((f:Nat):Int))∧H'' = H'→True):=fun _ _ _ _=>trivial
  have hm0:(0 < m)↔¬ bs = []:=by
    constructor
    · intro z y;rw [y] at hbl;simp at hbl;omega
    · intro z
      cases m with
      | zero=>exact absurd (List.eq_nil_of_length_eq_zero hbl) z
      | succ m=>omega
  refine⟨fun v H'=>v = .int (if bs = [] then 0 else ((f:Nat):Int))∧H' = H6,?_,?_⟩
  · refine⟨fun v H'=>v = .int (if bs = [] then 0 else ((f:Nat):Int))∧H' = H6,?_,fun _ _ h=>h⟩
    conv=>whnf
    refine ite2 (fun c=>?_) (fun c=>?_)
    · have c1:(0:Int) < ((m:Nat):Int):=dec_true c
      exact⟨by rw [if_neg (hm0.mp (by omega))],rfl⟩
    · have c1:¬ (0:Int) < ((m:Nat):Int):=dec_false c
      exact⟨by rw [if_pos (Decidable.byContradiction fun z=>c1 (by have:=hm0.mpr z;omega))],rfl⟩
  rintro v_ H_ ⟨rfl,e_H⟩
  rw [e_H]
  clear e_H
  refine⟨small_lit rfl,fun t2 ht2=>?_⟩
  have k7:=same_new ht2 (.tup [.int (if bs = [] then 0 else ((f:Nat):Int)),.ref p])
  have e7:=upd_same (H:=H6) (a:=t2) (o:= .tup [.int (if bs = [] then 0 else ((f:Nat):Int)),.ref p])
  generalize upd H6 t2 _ = H7 at k7 e7
  have b7:=b6.trans k7
  refine⟨_,.tup (SqT.of (k7 _ _ et6)) (.cons (.int _) (.cons (DV.ints (SqL.of (k7 _ _ eq6))) .nil)),.tup (SqT.of e7) (.cons (.int _) (.cons (DV.ints (SqL.of (b7 _ _ ep))) .nil)),shaped_back _ _,?_⟩
  conv=>whnf
  refine⟨_,.inl (SqL.of (b7 _ _ ep)),fun l8 hl8=>?_⟩
  have k8:=same_new hl8 (.lst (bs.map V.int))
  have e8:=upd_same (H:=H7) (a:=l8) (o:= .lst (bs.map V.int))
  generalize upd H7 l8 _ = H8 at k8 e8
  refine⟨l8,bs,f,rfl,SqL.of e8,hb,hl,hf,fun F2 H9 hF2 g9 eF9=>?_⟩
  have b9:=b7.trans (k8.trans g9)
  refine⟨_,dvS eF9,dvS (b9 _ _ eD'),sh,?_⟩
  conv=>whnf
  have k79:=k7.trans (k8.trans g9)
  refine⟨_,_,SqT.of (k79 _ _ et6),rfl,⟨_,SqL.of (k79 _ _ eq6)⟩,_,k79 _ _ eq6,szl1 (by rw [List.length_map];omega),?_⟩
  have fq:Hb q_ = none:=(b3.trans k4).none hq
  have b10:=b9.put (o:= .lst (bs.map V.int ++ [.int 1])) fq
  generalize upd H9 q_ _ = H10 at b10
  refine⟨_,.inl (SqL.of (b10 _ _ eD')),fun d2 hd2=>?_⟩
  have k11:=same_new hd2 (.lst ((stps f bs).map V.str))
  have e11:=upd_same (H:=H10) (a:=d2) (o:= .lst ((stps f bs).map V.str))
  generalize upd H10 d2 _ = H11 at k11 e11
  refine⟨d2,f,bs,rfl,SqL.of e11,hb,hl,hf,fun t3 q3 H12 ht3 hq3 htq3 g12 et3 eq3=>?_⟩
  have b12:=b10.trans (k11.trans g12)
  refine⟨fun v H'=>v = .int (if bs = [] then 0 else ((f:Nat):Int))∧H' = H12,?_,?_⟩
  · refine⟨fun v H'=>v = .int (if bs = [] then 0 else ((f:Nat):Int))∧H' = H12,?_,fun _ _ h=>h⟩
    conv=>whnf
    refine ite2 (fun c=>?_) (fun c=>?_)
    · have c1:(0:Int) < ((m:Nat):Int):=dec_true c
      exact⟨by rw [if_neg (hm0.mp (by omega))],rfl⟩
    · have c1:¬ (0:Int) < ((m:Nat):Int):=dec_false c
      exact⟨by rw [if_pos (Decidable.byContradiction fun z=>c1 (by have:=hm0.mpr z;omega))],rfl⟩
  rintro v_ H_ ⟨rfl,e_H⟩
  rw [e_H]
  clear e_H
  refine⟨small_lit rfl,fun t4 ht4=>?_⟩
  have k13:=same_new ht4 (.tup [.int (if bs = [] then 0 else ((f:Nat):Int)),.ref p])
  have e13:=upd_same (H:=H12) (a:=t4) (o:= .tup [.int (if bs = [] then 0 else ((f:Nat):Int)),.ref p])
  generalize upd H12 t4 _ = H13 at k13 e13
  refine⟨_,.tup (SqT.of (k13 _ _ et3)) (.cons (.int _) (.cons (DV.ints (SqL.of (k13 _ _ eq3))) .nil)),.tup (SqT.of e13) (.cons (.int _) (.cons (DV.ints (SqL.of ((b12.trans k13) _ _ ep))) .nil)),shaped_back _ _,?_⟩
  exact q _
end
set_option maxHeartbeats 0 in
theorem all_mk {l:PySem.W.OpenLaw} {w:World} {K:PySem.W.Frag} {h:Heap} {mg:Str→Option Value} {fa:Addr} (X:K.In h) (G:h.Ns mainGlobals mg) (hfa:mg "law" = some (.ref fa))
    {f0:Addr} {od0 an0:Option Addr} {sl0:Array (Option Value)} {oc0 kV0 dc0 pm0 cd0 ct0:Value}
    {f1:Addr} {od1 an1:Option Addr} {sl1:Array (Option Value)} {oc1 kV1 dc1 pm1 cd1 ct1:Value}
    {f2:Addr} {od2 an2:Option Addr} {sl2:Array (Option Value)} {oc2 kV2 dc2 pm2 cd2 ct2:Value}
    {f3:Addr} {od3 an3:Option Addr} {sl3:Array (Option Value)} {oc3 kV3 dc3 pm3 cd3 ct3:Value}
    {f4:Addr} {od4 an4:Option Addr} {sl4:Array (Option Value)} {oc4 kV4 dc4 pm4 cd4 ct4:Value}
    {f5:Addr} {od5 an5:Option Addr} {sl5:Array (Option Value)} {oc5 kV5 dc5 pm5 cd5 ct5:Value}
    {f6:Addr} {od6 an6:Option Addr} {sl6:Array (Option Value)} {oc6 kV6 dc6 pm6 cd6 ct6:Value}
    {f7:Addr} {od7 an7:Option Addr} {sl7:Array (Option Value)} {oc7 kV7 dc7 pm7 cd7 ct7:Value}
    {tk0:Tok}
    {tk1:Tok}
    {tk4:Tok}
    (a0:PySem.W.nsIn K mainGlobals "strip_of" = some (some (.ref f0)))
    (l0:K.lookup f0 = some ⟨oc0,od0,.func (PySem.W.fnOf "strip_of" "strip_of" (defArgs s_strip_of) (defBody s_strip_of) (defScope s_strip_of) .none kV0 dc0 pm0 an0 cd0 ct0),sl0⟩) (c0:PySem.W.codeIn K cd0 "strip_of" = true) (k0:PySem.W.keepIn K (.ref f0) = true)
    (a1:PySem.W.nsIn K mainGlobals "strips" = some (some (.ref f1)))
    (l1:K.lookup f1 = some ⟨oc1,od1,.func (PySem.W.fnOf "strips" "strips" (defArgs s_strips) (defBody s_strips) (defScope s_strips) .none kV1 dc1 pm1 an1 cd1 ct1),sl1⟩) (c1:PySem.W.codeIn K cd1 "strips" = true) (k1:PySem.W.keepIn K (.ref f1) = true)
    (a2:PySem.W.nsIn K mainGlobals "turn_of" = some (some (.ref f2)))
    (l2:K.lookup f2 = some ⟨oc2,od2,.func (PySem.W.fnOf "turn_of" "turn_of" (defArgs s_turn_of) (defBody s_turn_of) (defScope s_turn_of) .none kV2 dc2 pm2 an2 cd2 ct2),sl2⟩) (c2:PySem.W.codeIn K cd2 "turn_of" = true) (k2:PySem.W.keepIn K (.ref f2) = true)
    (a3:PySem.W.nsIn K mainGlobals "signs_of" = some (some (.ref f3)))
    (l3:K.lookup f3 = some ⟨oc3,od3,.func (PySem.W.fnOf "signs_of" "signs_of" (defArgs s_signs_of) (defBody s_signs_of) (defScope s_signs_of) .none kV3 dc3 pm3 an3 cd3 ct3),sl3⟩) (c3:PySem.W.codeIn K cd3 "signs_of" = true) (k3:PySem.W.keepIn K (.ref f3) = true)
    (a4:PySem.W.nsIn K mainGlobals "read_strips" = some (some (.ref f4)))
    (l4:K.lookup f4 = some ⟨oc4,od4,.func (PySem.W.fnOf "read_strips" "read_strips" (defArgs s_read_strips) (defBody s_read_strips) (defScope s_read_strips) .none kV4 dc4 pm4 an4 cd4 ct4),sl4⟩) (c4:PySem.W.codeIn K cd4 "read_strips" = true) (k4:PySem.W.keepIn K (.ref f4) = true)
    (a5:PySem.W.nsIn K mainGlobals "_law_draw" = some (some (.ref f5)))
    (l5:K.lookup f5 = some ⟨oc5,od5,.func (PySem.W.fnOf "_law_draw" "_law_draw" (defArgs s__law_draw) (defBody s__law_draw) (defScope s__law_draw) .none kV5 dc5 pm5 an5 cd5 ct5),sl5⟩) (c5:PySem.W.codeIn K cd5 "_law_draw" = true) (k5:PySem.W.keepIn K (.ref f5) = true)
    (a6:PySem.W.nsIn K mainGlobals "_law_figures" = some (some (.ref f6)))
    (l6:K.lookup f6 = some ⟨oc6,od6,.func (PySem.W.fnOf "_law_figures" "_law_figures" (defArgs s__law_figures) (defBody s__law_figures) (defScope s__law_figures) .none kV6 dc6 pm6 an6 cd6 ct6),sl6⟩) (c6:PySem.W.codeIn K cd6 "_law_figures" = true) (k6:PySem.W.keepIn K (.ref f6) = true)
    (a7:PySem.W.nsIn K mainGlobals "law" = some (some (.ref f7)))
    (l7:K.lookup f7 = some ⟨oc7,od7,.func (PySem.W.fnOf "law" "law" (defArgs s_law) (defBody s_law) (defScope s_law) .none kV7 dc7 pm7 an7 cd7 ct7),sl7⟩) (c7:PySem.W.codeIn K cd7 "law" = true) (k7:PySem.W.keepIn K (.ref f7) = true)
    (z0:PySem.W.nsIn K mainGlobals "SIGNS" = some (some (.str "_-" tk0)))
    (z1:PySem.W.nsIn K mainGlobals "FIGURES" = some (some (.int 6 tk1)))
    (z2:PySem.W.nsIn K mainGlobals "str" = some none)
    (z3:PySem.W.nsIn K mainGlobals "range" = some none)
    (z4:PySem.W.nsIn K mainGlobals "STRIP_BITS" = some (some (.int 40 tk4)))
    (z5:PySem.W.nsIn K mainGlobals "len" = some none)
    (z6:PySem.W.nsIn K mainGlobals "all" = some none)
    (z7:PySem.W.nsIn K mainGlobals "int" = some none)
    (z8:PySem.W.nsIn K mainGlobals "enumerate" = some none)
    (z9:PySem.W.nsIn K mainGlobals "list" = some none)
    (z10:PySem.W.nsIn K mainGlobals "isinstance" = some none)
    (z11:PySem.W.nsIn K mainGlobals "tuple" = some none)
    (z12:PySem.W.nsIn K mainGlobals "bool" = some none)
    :∃fd:FuncData,(∀(s:Shared) (v:Value),BindsTo s fd ⟨[v], []⟩ [("_law_script",v)])∧∀base:Heap,K.In base→base.Ns mainGlobals mg→FnOk l.prog w K mg base CX0 4 fa fd ["_law_script"] (spLaw K):=by
  have e:=hfa.symm.trans (PySem.W.mg_of X G a7)
  cases e
  have F_strip_of:=fun_mk (st:=s_strip_of) l0 c0 k0
  have b_strip_of:=F_strip_of.binds (ps:=["bits","turn"]) fun _ _ _ _ _ _ us hl=>match us,hl with | [_,_],_=>rfl
  have m_strip_of:=PySem.W.mg_of X G a0
  have F_strips:=fun_mk (st:=s_strips) l1 c1 k1
  have b_strips:=F_strips.binds (ps:=["bits","first"]) fun _ _ _ _ _ _ us hl=>match us,hl with | [_,_],_=>rfl
  have m_strips:=PySem.W.mg_of X G a1
  have F_turn_of:=fun_mk (st:=s_turn_of) l2 c2 k2
  have b_turn_of:=F_turn_of.binds (ps:=["strip"]) fun _ _ _ _ _ _ us hl=>match us,hl with | [_],_=>rfl
  have m_turn_of:=PySem.W.mg_of X G a2
  have F_signs_of:=fun_mk (st:=s_signs_of) l3 c3 k3
  have b_signs_of:=F_signs_of.binds (ps:=["strip"]) fun _ _ _ _ _ _ us hl=>match us,hl with | [_],_=>rfl
  have m_signs_of:=PySem.W.mg_of X G a3
  have F_read_strips:=fun_mk (st:=s_read_strips) l4 c4 k4
  have b_read_strips:=F_read_strips.binds (ps:=["some"]) fun _ _ _ _ _ _ us hl=>match us,hl with | [_],_=>rfl
  have m_read_strips:=PySem.W.mg_of X G a4
  have F__law_draw:=fun_mk (st:=s__law_draw) l5 c5 k5
  have b__law_draw:=F__law_draw.binds (ps:=["_law_script","_law_k","_law_many"]) fun _ _ _ _ _ _ us hl=>match us,hl with | [_,_,_],_=>rfl
  have m__law_draw:=PySem.W.mg_of X G a5
  have F__law_figures:=fun_mk (st:=s__law_figures) l6 c6 k6
  have b__law_figures:=F__law_figures.binds (ps:=["_law_turn"]) fun _ _ _ _ _ _ us hl=>match us,hl with | [_],_=>rfl
  have m__law_figures:=PySem.W.mg_of X G a6
  have F_law:=fun_mk (st:=s_law) l7 c7 k7
  have b_law:=F_law.binds (ps:=["_law_script"]) fun _ _ _ _ _ _ us hl=>match us,hl with | [_],_=>rfl
  have m_law:=PySem.W.mg_of X G a7
  have m_SIGNS:=PySem.W.mg_of X G z0
  have m_FIGURES:=PySem.W.mg_of X G z1
  have m_str:=PySem.W.mg_none_of X G z2
  have m_range:=PySem.W.mg_none_of X G z3
  have m_STRIP_BITS:=PySem.W.mg_of X G z4
  have m_len:=PySem.W.mg_none_of X G z5
  have m_all:=PySem.W.mg_none_of X G z6
  have m_int:=PySem.W.mg_none_of X G z7
  have m_enumerate:=PySem.W.mg_none_of X G z8
  have m_list:=PySem.W.mg_none_of X G z9
  have m_isinstance:=PySem.W.mg_none_of X G z10
  have m_tuple:=PySem.W.mg_none_of X G z11
  have m_bool:=PySem.W.mg_none_of X G z12
  refine⟨PySem.W.fnOf "law" "law" (defArgs s_law) (defBody s_law) (defScope s_law) .none kV7 dc7 pm7 an7 cd7 ct7,fun s v=> .of_eq rfl,fun base _ _=>?_⟩
  have G_strip_of:=ok_strip_of (P:=l.prog) (w:=w) (mg:=mg) (base:=base) F_strip_of m_SIGNS m_FIGURES m_str
  have G_strips:=ok_strips (P:=l.prog) (w:=w) (mg:=mg) (base:=base) F_strips m_range m_STRIP_BITS m_len G_strip_of b_strip_of F_strip_of.kp m_strip_of
  have G_turn_of:=ok_turn_of (P:=l.prog) (w:=w) (mg:=mg) (base:=base) F_turn_of m_FIGURES m_all m_len m_int
  have G_signs_of:=ok_signs_of (P:=l.prog) (w:=w) (mg:=mg) (base:=base) F_signs_of m_FIGURES m_len m_STRIP_BITS m_all m_SIGNS
  have G_read_strips:=ok_read_strips (P:=l.prog) (w:=w) (mg:=mg) (base:=base) F_read_strips m_len m_enumerate m_STRIP_BITS m_SIGNS G_turn_of b_turn_of F_turn_of.kp m_turn_of G_signs_of b_signs_of F_signs_of.kp m_signs_of
  have G__law_draw:=ok__law_draw (P:=l.prog) (w:=w) (mg:=mg) (base:=base) F__law_draw m_len
  have G__law_figures:=ok__law_figures (P:=l.prog) (w:=w) (mg:=mg) (base:=base) F__law_figures m_range
  exact ok_law F_law m_range m_list m_isinstance m_len m_tuple m_bool G__law_draw b__law_draw F__law_draw.kp m__law_draw G__law_figures b__law_figures F__law_figures.kp m__law_figures G_strips b_strips F_strips.kp m_strips G_read_strips b_read_strips F_read_strips.kp m_read_strips
theorem walk {l:PySem.W.OpenLaw} {q:Program} {loose:List Str} {XP:(Str→Option Value)→Heap→Prop} {YP:World→Heap→Prop} {d:DefRec} {K:Params→PySem.W.Frag} (hn:l.most = some 63) (hdf:d.params.defaults = [])
    (hY:∀(w:World) (h:Heap),YP w h→(K w.params).In h)
    (F :∀(w:World) (mg:Str→Option Value) (fa:Addr) (h:Heap),(K w.params).In h→h.Ns mainGlobals mg→mg d.name = some (.ref fa)→
      ∃fd:FuncData,(∀(s:Shared) (u:Value),BindsTo s fd ⟨[u], []⟩ [("_law_script",u)])∧∀base:Heap,(K w.params).In base→base.Ns mainGlobals mg→FnOk l.prog w (K w.params) mg base CX0 4 fa fd ["_law_script"] (spLaw (K w.params))) :
    PySem.W.WalkO q loose XP YP l.row.toRowW d [] (fun f vs=>PySem.call f vs):=
  L2.walk_of (n:=63) (k:=4) (x:="_law_script") (CX:=fun _=>CX0) (sp:=fun w=>spLaw (K w.params)) hn (by decide) hdf ⟨rfl,by decide,by decide⟩ hY F (fun _ _ a ns hl _ hS=>⟨a,ns,rfl,hS,hl,fun _=>rfl⟩) fun _ _ _ _ _ z=>z
end My
open PySem PySem.W PyProof.Rows
set_option maxRecDepth 100000 in
set_option maxHeartbeats 0 in
theorem PySem.Challenge.cw_bitrail_k80_bits_as_strips_holds : PySem.Challenge.rw_bitrail_k80_bits_as_strips.Holds := by
  w_on;o_law;k_head;(case hw=>w_witness2)
  k_fill
  refine My.walk (l:=PySem.Challenge.rw_bitrail_k80_bits_as_strips) rfl rfl (fun w h Y=>PySem.W.kIn_of Y) ?F
  case F=>
    intro w mg fa h KX G hmg
    refine' My.all_mk KX G hmg ?a0 ?l0 ?c0 ?k0 ?a1 ?l1 ?c1 ?k1 ?a2 ?l2 ?c2 ?k2 ?a3 ?l3 ?c3 ?k3 ?a4 ?l4 ?c4 ?k4 ?a5 ?l5 ?c5 ?k5 ?a6 ?l6 ?c6 ?k6 ?a7 ?l7 ?c7 ?k7 ?z0 ?z1 ?z2 ?z3 ?z4 ?z5 ?z6 ?z7 ?z8 ?z9 ?z10 ?z11 ?z12
    (case a0=>k_is)
    (case l0=>k_is)
    (case c0=>k_is)
    (case k0=>k_is)
    (case a1=>k_is)
    (case l1=>k_is)
    (case c1=>k_is)
    (case k1=>k_is)
    (case a2=>k_is)
    (case l2=>k_is)
    (case c2=>k_is)
    (case k2=>k_is)
    (case a3=>k_is)
    (case l3=>k_is)
    (case c3=>k_is)
    (case k3=>k_is)
    (case a4=>k_is)
    (case l4=>k_is)
    (case c4=>k_is)
    (case k4=>k_is)
    (case a5=>k_is)
    (case l5=>k_is)
    (case c5=>k_is)
    (case k5=>k_is)
    (case a6=>k_is)
    (case l6=>k_is)
    (case c6=>k_is)
    (case k6=>k_is)
    (case a7=>k_is)
    (case l7=>k_is)
    (case c7=>k_is)
    (case k7=>k_is)
    (case z0=>k_is)
    (case z1=>k_is)
    (case z2=>k_is)
    (case z3=>k_is)
    (case z4=>k_is)
    (case z5=>k_is)
    (case z6=>k_is)
    (case z7=>k_is)
    (case z8=>k_is)
    (case z9=>k_is)
    (case z10=>k_is)
    (case z11=>k_is)
    (case z12=>k_is)
#print axioms PySem.Challenge.cw_bitrail_k80_bits_as_strips_holds
