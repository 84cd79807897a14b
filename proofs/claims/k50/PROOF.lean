import PyProof.Rows.All
import Wide.All
import OpenK.AllK
import Wide.FinOn
import PyProof.EqAt
import PyProof.EqKinds
import PyProof.TupleCall
import Lean
import PySem.Challenge.RW_bitrail_k50_an_ear
set_option Elab.async false
namespace Hd
open PySem PyProof.Rows
open PySem.W PySem.Calls
theorem end0 (t:Thread):(endAt 0 t).isSome = through t:=by
  obtain⟨cur,code,pos,st⟩:=t
  cases st with
  | nil=>cases cur with
    | pure f=>cases f <;> rfl
    | _=>rfl
  | cons a l=>cases cur <;> rfl
theorem top_of_seg {tb:String→Option Builtin} {p:Program} {w:World} {m:Nat} {ann:Option Value}:∀{n:Nat} {s s':Shared} {t:Thread} {f:Flow} {c:Code} {x:Pos},
    segRun tb p w m ann 0 n s t = some (f,s',c,x)→topRun tb p w m ann n s t = some s'
  | 0,_,_,_,_,_,_,h=>by simp [segRun] at h
  | n + 1,s,s',t,f,c,x,h=>by
    unfold segRun at h
    unfold topRun
    rw [←end0 t]
    cases he:endAt 0 t with
    | some g=>rw [he] at h;cases h;rfl
    | none=>
      rw [he] at h
      dsimp only [Option.isSome] at h ⊢
      cases k:stepOk m ann t with
      | false=>rw [k] at h;cases h
      | true=>
        rw [k] at h
        dsimp only at h ⊢
        cases g:step (denote tb) p w s t with
        | halt o z=>rw [g] at h;cases h
        | go z t'=>rw [g] at h;exact top_of_seg h
def lookT (T:BT) (n a:Nat):Option Obj:=match Nat.blt a n with
  | true=>(match T.get a with | some o=>alive o | none=>none)
  | false=>none
theorem lookT_get {T:BT} {n a:Nat} {life:Life} {o:Obj} (h:lookT T n a = some o):(absHeap T n life).get? a = some o:=by
  unfold lookT at h
  cases c:Nat.blt a n with
  | false=>rw [c] at h;cases h
  | true=>
    rw [c] at h
    dsimp only at h
    cases g:T.get a with
    | none=>rw [g] at h;cases h
    | some x=>
      rw [g] at h
      rw [abs_get (Nat.le_of_ble_eq_true c) g]
      exact h
theorem looks_get {T:BT} {n:Nat} {life:Life}:∀{as:List Addr} {os:List Obj},as.map (lookT T n) = os.map some→as.map (absHeap T n life).get? = os.map some
  | [], [],_=>rfl
  | [],_ :: _,h=>by cases h
  | _ :: _, [],h=>by cases h
  | a :: as,o :: os,h=>by
    rw [List.map_cons,List.map_cons] at h
    injection h with h1 h2
    rw [List.map_cons,List.map_cons,looks_get h2]
    exact congrArg (· :: os.map some) (lookT_get h1)
abbrev look (p q:Program) (loose:List Str) (Xt:Shared→Bool) (as:List Addr) (h:Heap) (s:SharedT):=
  (staticsOk (importedModules p.main.body) h s.abs.heap && namesBound p s.abs.heap && gensDone s.abs && laidKept h s.abs.heap,openSeen q loose (importedModules p.main.body) Xt true s.abs,as.map (lookT s.tree s.n))
theorem left_whole {p q:Program} {loose:List Str} {Xt:Shared→Bool} {as:List Addr} {os_:World→List Obj} {N m:Nat} {ann:Option Value} (S:World→OsState→SharedT)
    (op:∀w:World,(fencedOpening treeTable p w N).map (fun s=>(s.heap,s.gens,s.drawn,s.toks)) = some (boot_heap w.params,Array.mk [],boot_drawn,boot_toks))
    (size : ∀ w : World, ((boot_heap w.params).isNs mainGlobals, (boot_heap w.params).objs.size, (boot_heap w.params).nsMap mainGlobals "__annotations__") = (true, m, ann))
    (abs:∀w os,(S w os).abs = ⟨boot_heap w.params,Array.mk [],boot_drawn,boot_toks,os⟩)
    (whole:∀w:World,(fun os=>(segRunT treeTable p w m ann 0 N (S w os) (topStub p)).map fun r=>look p q loose Xt as (boot_heap w.params) r.2.1) = fun _=>some (true,openGood q loose,(os_ w).map some)):LeftO p q loose Xt (fun s=>as.map s.heap.get?) (fun w=>(os_ w).map some) N:=fun w=>by
  obtain⟨⟨h,gs,d,k,os⟩,e,e'⟩:=Option.map_eq_some_iff.mp (op w)
  obtain⟨rfl,rfl,rfl,rfl⟩:h = boot_heap w.params∧gs = Array.mk []∧d = boot_drawn∧k = boot_toks:=by simpa using e'
  obtain⟨y1,y2,y3⟩:_∧_∧_:=by simpa only [Prod.mk.injEq] using size w
  obtain⟨⟨f,s',c,x⟩,r1,r2⟩:=Option.map_eq_some_iff.mp (congrFun (whole w) os)
  obtain⟨l1,l2,l3⟩:_∧_∧_:=by simpa only [look,Prod.mk.injEq] using r2
  have l4:as.map s'.abs.heap.get? = (os_ w).map some:=looks_get l3
  have r:=top_of_seg (segRun_of r1)
  rw [abs] at r
  have t:topFrom treeTable p w N ⟨boot_heap w.params,Array.mk [],boot_drawn,boot_toks,os⟩ = some s'.abs:=by
    unfold topFrom
    dsimp only
    rw [y1,y2,y3,r]
    show (match staticsOk (importedModules p.main.body) (boot_heap w.params) s'.abs.heap && namesBound p s'.abs.heap && gensDone s'.abs && laidKept (boot_heap w.params) s'.abs.heap with | true=>_ | false=>_) = _
    rw [l1]
  unfold openEnds
  rw [e]
  refine(congrArg (Option.map _) t).trans ?_
  exact congrArg some (by show (_,as.map s'.abs.heap.get?) = (_,(os_ w).map some);rw [l2,l4])
abbrev r (a:Addr):Value:= .ref a
abbrev s (x:Str) (t:Tok):Value:= .str x t
abbrev i (x:Int) (t:Tok):Value:= .int x t
abbrev t (x:String):Value:= .type x
abbrev b (x:String):Value:= .builtin x
abbrev tp (l:List Value):Obj:=⟨.type "tuple",none,.seq l.toArray 0, #[]⟩
abbrev co (l:List Value):Obj:=⟨.type "code",none,.fields l.toArray, #[]⟩
abbrev fi (c:Value) (l:List Value):Obj:=⟨c,none,.fields l.toArray, #[]⟩
abbrev di (c:Value) (l:List DictEntry) (n:Nat):Obj:=⟨c,none,.dict l.toArray n, #[]⟩
abbrev e (P:Params) (x:Str) (t:Tok) (v:Value):DictEntry:=⟨PyData.keyHash P x,.str x t,v⟩
abbrev cl (c:ClassData) (l:List (Option Value)):Obj:=⟨.type "type",none,.cls c,l.toArray⟩
abbrev o (v:Value):Option Value:=some v
abbrev sf (p:Program) (k:Nat):Stmt:=p.main.body.getD k default
def sub (k:Nat):Stmt→Stmt
  | .ClassDef _ _ _ b _ _ _ _ _ _ _=>b.getD k default
  | x=>x
def fn (q:Str) (d kw doc md:Value) (c bl:Addr):Stmt→Obj
  | .FunctionDef n a b _ _ _ sc _ _ _=>⟨.type "function",none,.func { name:=n,qualname:=q,params:=a,body:= .stmts b,scope:=sc,globals:=3,closure:=[],defaults:=d,kwdefaults:=kw,doc:=doc,pyModule:=md,code:= .ref c,builtins:=bl }, #[]⟩
  | _=>default
def dr:Stmt→DefRec
  | .FunctionDef n a b _ _ _ sc _ _ x=>⟨n,a,b,sc,x⟩
  | _=>⟨"",⟨[], [],none, [], [],none, []⟩, [],default,default⟩
abbrev cc (nm qn:Str) (t l a fl x tb:Nat) (d v f:Value) (z n t':Nat):Obj:=co [s nm t,s qn (t + 1),s "/claim/cut.py" (t + 2),i l 0,i a 0,i 0 0,i 0 0,i fl 0,r x,.bool true,i 181 0,r tb,d,v,f,r z,i n 0,i l 0,s "/claim/cut.py" t']
abbrev fo (q md:Str) (t:Tok) (c:Addr) (x:Stmt):Obj:=fn q .none .none .none (s md t) c 0 x
noncomputable def tree (P:Params):BT:=(.node (boot_o_0 P) (.node (boot_o_1 P) (.node (boot_o_3 P) (.node (boot_o_7 P) .nil .nil) .nil) (.node (boot_o_5 P) (.node (boot_o_9 P) .nil .nil) .nil)) (.node (boot_o_2 P) (.node (boot_o_4 P) (.node (boot_o_8 P) .nil .nil) .nil) (.node (boot_o_6 P) (.node (boot_o_10 P) .nil .nil) .nil)))
noncomputable def S (w:World) (os:OsState):SharedT:=⟨tree w.params,11,(boot_heap w.params).life,Array.mk [],boot_drawn,boot_toks,os⟩
theorem S_abs (w:World) (os:OsState):(S w os).abs = ⟨boot_heap w.params,Array.mk [],boot_drawn,boot_toks,os⟩:=by kernel_rfl
end Hd
namespace Hd
open PySem PyProof.Rows
open PySem.W PySem.Calls
set_option maxRecDepth 100000
noncomputable section
abbrev p:Program:=PySem.Challenge.pw_bitrail_k50_an_ear
noncomputable def o2:Obj:=di .none [] 0
noncomputable def o3 (P : Params) : Obj := di (t "dict") [e P "__name__" 165 (s "law_bitrail_k50_an_ear" 199), e P "__doc__" 166 .none, e P "__package__" 167 .none, e P "__loader__" 168 (b "__main__.__loader__#opaque"), e P "__spec__" 169 .none, e P "__annotations__" 170 (r 6), e P "__builtins__" 171 (r 4), e P "__file__" 173 (s "/claim/cut.py" 172), e P "__cached__" 174 .none, e P "ear" 198 (r 21), e P "_law_draw" 211 (r 28), e P "_law_pairs" 222 (r 35), e P "_law_tells" 235 (r 42), e P "law" 250 (r 49)] 14
noncomputable def o6:Obj:=di (t "dict") [] 0
noncomputable def o15:Obj:=tp []
noncomputable def o17:Obj:=tp [s "wrong" 192,s "pair" 193,s "heard" 194]
noncomputable def o18:Obj:=tp [s "kept" 195]
noncomputable def o20:Obj:=cc "ear" "ear" 189 2 1 3 15 16 .none (r 17) (r 18) 19 196 197
noncomputable def o21:Obj:=fo "ear" "bitrail.ears" 187 20 (sf p 1)
noncomputable def o22:Obj:=tp []
noncomputable def o24:Obj:=tp [s "_law_script" 204,s "_law_k" 205,s "_law_many" 206,s "_law_cell" 207,s "_law_seed" 208]
noncomputable def o25:Obj:=tp []
noncomputable def o27:Obj:=cc "_law_draw" "_law_draw" 201 11 3 3 22 23 .none (r 24) (r 25) 26 209 210
noncomputable def o28:Obj:=fo "_law_draw" "law_bitrail_k50_an_ear" 199 27 (sf p 3)
noncomputable def o29:Obj:=tp []
noncomputable def o31:Obj:=tp [s "_law_script" 215,s "_law_base" 216,s "_law_pairs_here" 217,s "_law_k" 218,s "_law_turn" 219]
noncomputable def o32:Obj:=tp []
noncomputable def o34:Obj:=cc "_law_pairs" "_law_pairs" 212 15 2 3 29 30 .none (r 31) (r 32) 33 220 221
noncomputable def o35:Obj:=fo "_law_pairs" "law_bitrail_k50_an_ear" 199 34 (sf p 4)
noncomputable def o36:Obj:=tp []
noncomputable def o38:Obj:=tp [s "_law_hearing" 226,s "_law_pairs_here" 227,s "_law_post" 228,s "_law_turn" 229,s "_law_bit" 230,s "_law_due" 231,s "_law_found" 232]
noncomputable def o39:Obj:=tp []
noncomputable def o41:Obj:=cc "_law_tells" "_law_tells" 223 25 5 3 36 37 .none (r 38) (r 39) 40 233 234
noncomputable def o42:Obj:=fo "_law_tells" "law_bitrail_k50_an_ear" 199 41 (sf p 5)
noncomputable def o43:Obj:=tp []
noncomputable def o45:Obj:=tp [s "_law_script" 239,s "_law_pairs_here" 240,s "_law_handed" 241,s "_law_hearings" 242,s "_law_asked" 243,s "_law_k" 244,s "_law_again" 245,s "_law_side" 246,s "_law_bit" 247]
noncomputable def o46:Obj:=tp []
noncomputable def o48:Obj:=cc "law" "law" 236 31 1 3 43 44 .none (r 45) (r 46) 47 248 249
noncomputable def o49:Obj:=fo "law" "law_bitrail_k50_an_ear" 199 48 (sf p 6)
noncomputable def o4:Obj:=⟨.type "module",some builtinsNs,.plain, #[]⟩
noncomputable def o16:Obj:=fi .none []
noncomputable def K (P:Params):Frag:=(nat_lit 2,o2) :: (nat_lit 3,o3 P) :: (nat_lit 4,o4) :: (nat_lit 6,o6) :: (nat_lit 15,o15) :: (nat_lit 17,o17) :: (nat_lit 18,o18) :: (nat_lit 20,o20) :: (nat_lit 21,o21) :: (nat_lit 22,o22) :: (nat_lit 24,o24) :: (nat_lit 25,o25) :: (nat_lit 27,o27) :: (nat_lit 28,o28) :: (nat_lit 29,o29) :: (nat_lit 31,o31) :: (nat_lit 32,o32) :: (nat_lit 34,o34) :: (nat_lit 35,o35) :: (nat_lit 36,o36) :: (nat_lit 38,o38) :: (nat_lit 39,o39) :: (nat_lit 41,o41) :: (nat_lit 42,o42) :: (nat_lit 43,o43) :: (nat_lit 45,o45) :: (nat_lit 46,o46) :: (nat_lit 48,o48) :: (nat_lit 49,o49) :: []
noncomputable def KA (P:Params):Frag:=(nat_lit 16,o16) :: K P
noncomputable def as:List Addr:=16 :: 2 :: 3 :: 4 :: 6 :: 15 :: 17 :: 18 :: 20 :: 21 :: 22 :: 24 :: 25 :: 27 :: 28 :: 29 :: 31 :: 32 :: 34 :: 35 :: 36 :: 38 :: 39 :: 41 :: 42 :: 43 :: 45 :: 46 :: 48 :: 49 :: []
noncomputable def g0 (P:Params):List (Nat×Obj):=(2,o2) :: (3,o3 P) :: (4,o4) :: (6,o6) :: (15,o15) :: (17,o17) :: (18,o18) :: (20,o20) :: (21,o21) :: (22,o22) :: (24,o24) :: (25,o25) :: (27,o27) :: (28,o28) :: (29,o29) :: (31,o31) :: (32,o32) :: []
noncomputable def g1 (P:Params):List (Nat×Obj):=(34,o34) :: (35,o35) :: (36,o36) :: (38,o38) :: (39,o39) :: (41,o41) :: (42,o42) :: (43,o43) :: (45,o45) :: (46,o46) :: (48,o48) :: (49,o49) :: []
noncomputable def L (P:Params):List (Nat×Obj):=(16,o16) :: g0 P ++ (g1 P)
theorem K_L (P:Params):KA P = L P:=by kernel_rfl
theorem K_as (P:Params):as = (KA P).map (·.1):=by kernel_rfl
def qv:Program:=view p [6]
def loose:List Str:="ear" :: "_law_draw" :: "_law_pairs" :: "_law_tells" :: []
abbrev N:Nat:=600
theorem open_p:∀w:World,(fencedOpening treeTable p w N).map (fun s=>(s.heap,s.gens,s.drawn,s.toks)) = some (boot_heap w.params,Array.mk [],boot_drawn,boot_toks):=boot_open (by kernel_rfl) (by decide) (fun s=>by kernel_rfl)
def ann:Option Value:=some (.ref 6)
def whole (w:World) (os:OsState):=(segRunT treeTable p w 11 ann 0 N (S w os) (topStub p)).map fun r=>look p qv loose (xlAt qv []) as (boot_heap w.params) r.2.1
def good (w:World) (_:OsState):=some (true,openGood qv loose,((L w.params).map fun p=>p.2).map some)
def sz (w : World) := ((boot_heap w.params).isNs mainGlobals, (boot_heap w.params).objs.size, (boot_heap w.params).nsMap mainGlobals "__annotations__")
def sg (_:World):=(true,11,ann)
theorem whole_r:whole = whole:=rfl
theorem good_r:good = good:=rfl
theorem sz_r:sz = sz:=rfl
name_quick wq for whole by whole_r
name_quick gq for good by good_r
name_quick zq for sz by sz_r
theorem z_g (w:World):PySem.W.Fast.zq w = sg w:=by kernel_rfl
theorem w_g (w:World):PySem.W.Fast.wq w = PySem.W.Fast.gq w:=by kernel_rfl
theorem left0:LeftO p qv loose (xlAt qv []) (fun s=>as.map s.heap.get?) (fun w=>((L w.params).map fun p=>p.2).map some) N:=left_whole S open_p (fun w=>(congrFun PySem.W.Fast.zq_eq w).trans (z_g w)) S_abs fun w=>((congrFun PySem.W.Fast.wq_eq w).trans (w_g w)).trans (congrFun PySem.W.Fast.gq_eq w).symm
theorem left:LeftO p qv loose (xlAt qv []) (fun s=>as.map s.heap.get?) (fun w=>(KA w.params).map fun p=>some p.2) N:=fun w=>(left0 w).trans (by show some (_,((L w.params).map _).map _) = some (_,(KA w.params).map _);rw [K_L,List.map_map];rfl)
def tc:List (Addr×Addr):=[(20,16)]
theorem tabs (w:World) (h:Heap) (Y:InK KA w h):(K w.params).In h∧∀q∈tc,(K w.params).lookup q.2 = none∧h.get? q.2 = some (tabObj #[])∧codeHdIn (K w.params) q.1 q.2 = true:=by
  have n16:(K w.params).lookup 16 = none:=by kernel_rfl
  have t16:h.get? 16 = some (tabObj #[]):=Y 16 _ (by kernel_rfl)
  have c16:codeHdIn (K w.params) 20 16 = true:=by kernel_rfl
  refine⟨fun a o e=>Y a o ?_,fun q hq=>?_⟩
  · show List.lookup a (((16:Nat),o16) :: K w.params) = some o
    rw [List.lookup_cons]
    have e16:(a == 16) = false:=beq_eq_false_iff_ne.mpr fun z=>by rw [z,n16] at e;cases e
    rw [e16]
    exact e
  · have hq:q∈([(20,16)]:List (Addr×Addr)):=hq
    simp only [List.mem_cons,List.not_mem_nil,or_false] at hq
    subst hq
    exact⟨n16,t16,c16⟩
def dl:DefRec:=dr (sf p 6)
def da:=(defOf qv "law",p.theDef "law")
def db:=(some (dl,([]:List (Str×PySem.Expr))),some (dl.params,dl.body,dl.scope))
theorem da_r:da = da:=rfl
theorem db_r:db = db:=rfl
name_quick daq for da by da_r
name_quick dbq for db by db_r
theorem d_q:PySem.W.Fast.daq = PySem.W.Fast.dbq:=by kernel_rfl
theorem d_e:da = db:=PySem.W.Fast.daq_eq.trans (d_q.trans PySem.W.Fast.dbq_eq.symm)
theorem dl_1:defOf qv "law" = some (dl, []):=congrArg Prod.fst d_e
theorem dl_2:p.theDef "law" = some (dl.params,dl.body,dl.scope):=congrArg Prod.snd d_e
end
end Hd
set_option Elab.async false
set_option linter.all false
set_option maxRecDepth 100000
namespace L2
open PySem PySem.Spec PyProof.Rows
abbrev Key:=Sum Int Str
def keyIs:Key→Value→Bool
  | .inl k,v=>Value.isInt k v
  | .inr x,v=>Value.isStrOf x v
def keyH (w:World):Key→Int
  | .inl k=>hashInt k
  | .inr x=>hashStr w x
theorem keyIs_shape:∀{k:Key} {v:Value},keyIs k v = true→(∃i t,k = Sum.inl i∧v = Value.int i t)∨(∃x t,k = Sum.inr x∧v = Value.str x t)
  | .inl i,v,h=>by
    obtain⟨t,e⟩:=Value.isInt_shape (k:=i) (v:=v) h
    exact .inl ⟨i,t,rfl,e⟩
  | .inr x,v,h=>by
    obtain⟨t,e⟩:=Value.isStrOf_shape (x:=x) (v:=v) h
    exact .inr ⟨x,t,rfl,e⟩
theorem keyIs_int (i:Int) (t:Tok):keyIs (.inl i) (.int i t) = true:=by simp [keyIs,Value.isInt]
theorem keyIs_str (x:Str) (t:Tok):keyIs (.inr x) (.str x t) = true:=by simp [keyIs,Value.isStrOf]
theorem key_ll (a b:Int):decide ((Sum.inl a:Key) = Sum.inl b) = (a == b):=by
  by_cases e:a = b
  · subst e;simp
  · have h:¬ (Sum.inl a:Key) = Sum.inl b:=fun q=>e (Sum.inl.inj q)
    rw [decide_eq_false h]
    exact(beq_eq_false_iff_ne.mpr e).symm
theorem key_rr (a b:Str):decide ((Sum.inr a:Key) = Sum.inr b) = decide (a = b):=by
  by_cases e:a = b
  · subst e;simp
  · have h:¬ (Sum.inr a:Key) = Sum.inr b:=fun q=>e (Sum.inr.inj q)
    rw [decide_eq_false h,decide_eq_false e]
theorem key_lr (a:Int) (b:Str):decide ((Sum.inl a:Key) = Sum.inr b) = false:=decide_eq_false (fun q=>nomatch q)
theorem key_rl (a:Str) (b:Int):decide ((Sum.inr a:Key) = Sum.inl b) = false:=decide_eq_false (fun q=>nomatch q)
def mixKind (prog:Program) (w:World):PySem.KeyKind prog w Key where
  is:=keyIs
  hash:=keyH w
  inj :=fun v a b ha hb=>by
    rcases keyIs_shape ha with ⟨i,t,rfl,rfl⟩ | ⟨x,t,rfl,rfl⟩
    · rcases keyIs_shape hb with ⟨j,u,rfl,e⟩ | ⟨y,u,rfl,e⟩
      · injection e with e1 _;rw [e1]
      · exact nomatch e
    · rcases keyIs_shape hb with ⟨j,u,rfl,e⟩ | ⟨y,u,rfl,e⟩
      · exact nomatch e
      · injection e with e1 _;rw [e1]
  byValue:=fun k v h=>by
    rcases keyIs_shape h with ⟨i,t,rfl,rfl⟩ | ⟨x,t,rfl,rfl⟩ <;> rfl
  pyHash:=fun hv h=>by
    rcases keyIs_shape hv with ⟨i,t,rfl,rfl⟩ | ⟨x,t,rfl,rfl⟩
    · exact wpAny_pyHash_int h
    · exact wpAny_pyHash_str h
  eqBool:=fun hu hv h=>by
    rcases keyIs_shape hu with ⟨i,t,rfl,rfl⟩ | ⟨x,t,rfl,rfl⟩
    · rcases keyIs_shape hv with ⟨j,u,rfl,rfl⟩ | ⟨y,u,rfl,rfl⟩
      · rw [key_ll] at h;exact wpAny_eqBool_int h
      · rw [key_lr] at h;exact SeqAt.EqAt.int_str i t y u _ _ _ _ h
    · rcases keyIs_shape hv with ⟨j,u,rfl,rfl⟩ | ⟨y,u,rfl,rfl⟩
      · rw [key_rl] at h;exact SeqAt.EqAt.str_int x t j u _ _ _ _ h
      · rw [key_rr] at h;exact wpAny_eqBool_str h
  «strs»:=fun k x t v h=>by
    rcases keyIs_shape h with ⟨i,u,rfl,e⟩ | ⟨y,u,rfl,e⟩
    · exact nomatch e
    · injection e with e1 _
      subst e1
      cases v <;> rfl
theorem mixKind_int (prog:Program) (w:World) (i:Int) (t:Tok):(mixKind prog w).is (.inl i) (.int i t) = true:=keyIs_int i t
theorem mixKind_str (prog:Program) (w:World) (x:Str) (t:Tok):(mixKind prog w).is (.inr x) (.str x t) = true:=keyIs_str x t
end L2
namespace L2
open PySem PySem.Spec PyProof.Rows
inductive V where
  | non | bl (b:Bool) | int (i:Int) | str (x:Str) | byt (b:Array UInt8) | flt (b:UInt64) | ref (a:Addr) | ty (n:String)
  deriving DecidableEq
def RelV:V→Value→Prop
  | .non,u=>u = Value.none
  | .bl b,u=>u = Value.bool b
  | .int i,u=>∃t,u = Value.int i t
  | .str x,u=>∃t,u = Value.str x t
  | .byt b,u=>∃t,u = Value.bytes b t
  | .flt b,u=>∃t,u = Value.float b t
  | .ref a,u=>u = Value.ref a
  | .ty n,u=>u = Value.type n
abbrev Vals:List V→List Value→Prop:=Paired RelV
theorem Vals.length {xs:List V} {us:List Value} (r:Vals xs us):xs.length = us.length:=Paired.length r
theorem Vals.get:∀{xs:List V} {us:List Value} {i:Nat} {x:V},Vals xs us→xs[i]? = some x→∃u,us[i]? = some u∧RelV x u
  | _,_,_,_,.nil,e=>by simp at e
  | _,_,0,_,.cons r _,e=>by simp at e;subst e;exact⟨_,rfl,r⟩
  | _,_,i + 1,x,.cons _ t,e=>by
    obtain⟨u,h1,h2⟩:=Vals.get (i:=i) (x:=x) t (by simpa using e)
    exact⟨u,by simpa using h1,h2⟩
theorem Vals.append:∀{xs ys:List V} {us ws:List Value},Vals xs us→Vals ys ws→Vals (xs ++ ys) (us ++ ws)
  | _,_,_,_,.nil,s=>s
  | _,_,_,_,.cons r t,s=> .cons r (Vals.append t s)
theorem Vals.take:∀{xs:List V} {us:List Value} (n:Nat),Vals xs us→Vals (xs.take n) (us.take n)
  | _,_,0,_=> .nil
  | _,_,_ + 1,.nil=> .nil
  | _,_,n + 1,.cons r t=> .cons r (Vals.take n t)
theorem Vals.drop:∀{xs:List V} {us:List Value} (n:Nat),Vals xs us→Vals (xs.drop n) (us.drop n)
  | _,_,0,r=>r
  | _,_,_ + 1,.nil=> .nil
  | _,_,n + 1,.cons _ t=>Vals.drop n t
def RelO:Option V→Option Value→Prop
  | some v,some u=>RelV v u
  | none,none=>True
  | _,_=>False
def KV {κ:Type}:List (κ×V)→List (κ×Value)→Prop:=Paired fun (p:κ×V) (q:κ×Value)=>p.1 = q.1∧RelV p.2 q.2
def kV:Key→V
  | .inl i=> .int i
  | .inr x=> .str x
inductive HO where
    | lst (xs:List V)
    | tup (xs:List V)
    | dK (kvs:List (Key×V)) | dT (kvs:List (List Key×V))
    | set (S:Int→Bool) (n:Nat)
    | ins (C dx:Addr) (fs:List (Str×V))
    | own (x:Addr)
    | xd (fs:List (Str×V))
    | met (f x:Addr)
    | rng (lo hi:Int)
    | frz (o:Obj) (u:HO)
    | tbl (ps:Array Value)
    | ext (φ:Heap→Prop)
abbrev Hp:=Addr→Option HO
def upd (H:Hp) (a:Addr) (o:HO):Hp:=fun b=>if b = a then some o else H b
theorem upd_same {H:Hp} {a:Addr} {o:HO}:upd H a o a = some o:=by unfold upd;rw [if_pos rfl]
theorem upd_ne {H:Hp} {a b:Addr} {o:HO} (h:b≠a):upd H a o b = H b:=by unfold upd;rw [if_neg h]
theorem ne_of {H:Hp} {a b:Addr} {o u:HO} (h:H a = some o) (h':H b = some u) (d:o≠u):a≠b:=by
  intro e;subst e;rw [h] at h';exact d (Option.some.inj h')
theorem ne_of_none {H:Hp} {a b:Addr} {o:HO} (h:H a = some o) (h':H b = none):a≠b:=by
  intro e;subst e;rw [h] at h';cases h'
section
variable (P:Program) (w:World)
def ObjOk (H:Hp) (h:Heap) (a:Addr):HO→Prop
  | .lst xs=>xs.length≤sizeLine∧∃(its:List Value) (n:Nat),Vals xs its∧h.get? a = some { cls:= .type "list",data:= .seq its.toArray n }
  | .tup xs=>xs.length≤sizeLine∧∃its:List Value,Vals xs its∧IsTup h a its.toArray
  | .dK kvs=>kvs.length≤sizeLine∧(a == sysModules) = false∧∃vs,KV kvs vs∧h.DictOf (mixKind P w) a vs
  | .dT kvs=>kvs.length≤sizeLine∧(a == sysModules) = false∧∃xs:List (List Key×Addr×Value),
      Paired (fun (p:List Key×V) (q:List Key×Addr×Value)=>p.1 = q.1∧H q.2.1 = some (.tup (p.1.map kV))∧RelV p.2 q.2.2) kvs xs∧
      ∃o es ep,h.get? a = some o∧o.ExactDict∧o.data = .dict es ep∧es.toList = xs.map (entryOfKey (tupleKind (mixKind P w)))∧(xs.map (·.1)).Nodup
  | .set S n=>h.SetOf (intKind P w) a S n
  | .ins C dx fs=>H dx = some (.own a)∧fs.length≤1000∧dx≠a∧h.get? a = some (PySem.W.instObj C dx)∧
      ∃mA,h.Ns1 dx mA∧(∀f,RelO (fs.lookup f) (mA f))∧PySem.Within mA (fs.map (·.1))
  | .own _=>∃o,h.get? a = some o
  | .xd fs=>∃mA,h.Ns1 a mA∧∀f,RelO (fs.lookup f) (mA f)
  | .rng lo hi=>∃t u v,h.get? a = some { cls:= .type "range",data:= .fields #[.int lo t,.int hi u,.int 1 v] }
  | .frz o u=>h.get? a = some o∧ObjOk H h a u
  | .tbl ps=>h.get? a = some { cls:= .none,data:= .fields ps }
  | .met f x=>h.get? a = some (PySem.W.methodObj (.ref f) (.ref x))
  | .ext φ=>φ h∧(∃o,h.get? a = some o)∧∀h1 h2:Heap,φ h1→(∀o,h1.get? a = some o→h2.get? a = some o)→φ h2
def HOk (H:Hp) (h:Heap):Prop:=∀a o,H a = some o→ObjOk P w H h a o
end
section
variable {P:Program} {w:World} {H H':Hp} {h h':Heap} {a:Addr} {o:HO}
theorem ObjOk.lt (x:ObjOk P w H h a o):a < h.objs.size:=by
  cases o with
  | lst xs=>obtain⟨_,_,_,_,e⟩:=x;exact Heap.lt_size e
  | tup xs=>obtain⟨_,_,_,p⟩:=x;exact p.lt
  | dK kvs=>obtain⟨_,_,_,_,o,_,_,e,_⟩:=x;exact Heap.lt_size e
  | dT kvs=>obtain⟨_,_,_,_,o,_,_,e,_⟩:=x;exact Heap.lt_size e
  | set S n=>obtain⟨o,_,_,_,e,_⟩:=x;exact Heap.lt_size e
  | ins C dx fs=>obtain⟨_,_,_,e,_⟩:=x;exact Heap.lt_size e
  | own y=>obtain⟨_,e⟩:=x;exact Heap.lt_size e
  | xd fs=>obtain⟨_,⟨_,_,_,e,_⟩,_⟩:=x;exact Heap.lt_size e
  | rng lo hi=>obtain⟨_,_,_,e⟩:=x;exact Heap.lt_size e
  | frz ob u=>obtain⟨e,_⟩:=x;exact Heap.lt_size e
  | tbl ps=>exact Heap.lt_size (show h.get? a = some _ from x)
  | met f y=>exact Heap.lt_size (show h.get? a = some _ from x)
  | ext φ=>obtain⟨_,⟨_,e⟩,_⟩:=x;exact Heap.lt_size e
theorem Paired.mapP {α β:Type} {F G:α→β→Prop}:∀{l₁:List α} {l₂:List β},Paired F l₁ l₂→(∀a b,F a b→G a b)→Paired G l₁ l₂
  | _,_,.nil,_=> .nil
  | _,_,.cons r t,f=> .cons (f _ _ r) (Paired.mapP t f)
theorem ObjOk.stay (x:ObjOk P w H h a o) (k:∀b u,(b = a∨H b = some (.own a))→h.get? b = some u→h'.get? b = some u)
    (ho:∀b,H b = some (.own a)→H' b = some (.own a)) (ht:∀b xs,H b = some (.tup xs)→H' b = some (.tup xs)):ObjOk P w H' h' a o:=by
  induction o with
  | lst xs=>obtain⟨z,its,n,r,e⟩:=x;exact⟨z,its,n,r,k _ _ (.inl rfl) e⟩
  | tup xs=>obtain⟨z,its,r,ob,e,c⟩:=x;exact⟨z,its,r,ob,k _ _ (.inl rfl) e,c⟩
  | dK kvs=>obtain⟨z,y,vs,r,ob,es,ep,e,c⟩:=x;exact⟨z,y,vs,r,ob,es,ep,k _ _ (.inl rfl) e,c⟩
  | dT kvs=>
    obtain⟨z,y,xs,r,ob,es,ep,e,c⟩:=x
    exact⟨z,y,xs,Paired.mapP r fun p q z=>⟨z.1,ht _ _ z.2.1,z.2.2⟩,ob,es,ep,k _ _ (.inl rfl) e,c⟩
  | set S n=>obtain⟨ob,es,ep,t,e,c⟩:=x;exact⟨ob,es,ep,t,k _ _ (.inl rfl) e,c⟩
  | ins C dx fs=>
    obtain⟨d,z,ne,e,mA,⟨od,es,ep,e2,c⟩,r⟩:=x
    exact⟨ho _ d,z,ne,k _ _ (.inl rfl) e,mA,⟨od,es,ep,k _ _ (.inr d) e2,c⟩,r⟩
  | own y=>obtain⟨ob,e⟩:=x;exact⟨ob,k _ _ (.inl rfl) e⟩
  | xd fs=>obtain⟨mA,⟨od,es,ep,e,c⟩,r⟩:=x;exact⟨mA,⟨od,es,ep,k _ _ (.inl rfl) e,c⟩,r⟩
  | rng lo hi=>obtain⟨t,u,v,e⟩:=x;exact⟨t,u,v,k _ _ (.inl rfl) e⟩
  | frz ob u ih=>obtain⟨e,q⟩:=x;exact⟨k _ _ (.inl rfl) e,ih q⟩
  | tbl ps=>
    have e:h.get? a = some { cls:= .none,data:= .fields ps }:=x
    show h'.get? a = some { cls:= .none,data:= .fields ps }
    exact k a _ (.inl rfl) e
  | met f y=>
    have e:h.get? a = some (PySem.W.methodObj (.ref f) (.ref y)):=x
    show h'.get? a = some (PySem.W.methodObj (.ref f) (.ref y))
    exact k a _ (.inl rfl) e
  | ext φ=>obtain⟨p,⟨o,e⟩,st⟩:=x;exact⟨st _ _ p fun o q=>k _ _ (.inl rfl) q,⟨o,k _ _ (.inl rfl) e⟩,st⟩
theorem HOk.lt (x:HOk P w H h) (e:H a = some o):a < h.objs.size:=(x a o e).lt
theorem HOk.fresh (x:HOk P w H h) (e:h.objs.size≤a):H a = none:=by
  cases q:H a with
  | none=>rfl
  | some u=>exact absurd (Nat.lt_of_lt_of_le (x.lt q) e) (Nat.lt_irrefl _)
theorem HOk.kept (x:HOk P w H h) (k:∀b u,h.get? b = some u→h'.get? b = some u):HOk P w H h':=fun a o e=>
  (x a o e).stay (fun b u _ q=>k b u q) (fun _ q=>q) fun _ _ q=>q
theorem HOk.laid (x:HOk P w H h) (k:∀b u,h.get? b = some u→h'.get? b = some u) (hp:h.objs.size≤a) (new:ObjOk P w (upd H a o) h' a o):HOk P w (upd H a o) h':=fun b u e=>by
  have hn:=x.fresh hp
  by_cases hb:b = a
  · subst hb;rw [upd_same] at e;cases e;exact new
  · rw [upd_ne hb] at e
    exact(x b u e).stay (fun c v _ q=>k c v q) (fun c q=>by rw [upd_ne (ne_of_none q hn)];exact q) fun c xs q=>by rw [upd_ne (ne_of_none q hn)];exact q
end
def Rd (H:Hp) (a:Addr) (u:HO):Prop:=H a = some u∨∃o,H a = some (.frz o u)
theorem Rd.ok {P:Program} {w:World} {H:Hp} {h:Heap} {a:Addr} {u:HO} (r:Rd H a u) (x:HOk P w H h):ObjOk P w H h a u:=by
  rcases r with r | ⟨o,r⟩
  · exact x a u r
  · obtain⟨_,q⟩:=x a _ r
    exact q
def Mut:Option HO→Prop
  | some (.lst _)=>True
  | some (.dK _)=>True
  | some (.dT _)=>True
  | some (.set _ _)=>True
  | some (.ins _ _ _)=>True
  | some (.ext _)=>True
  | _=>False
section
variable {P:Program} {w:World} {H:Hp} {h h':Heap} {x e:Addr} {o':HO}
theorem HOk.write (ok:HOk P w H h) (mu:Mut (H x)) (he:e = x∨H e = some (.own x)) (k:∀b u,b≠e→h.get? b = some u→h'.get? b = some u) (heo:∃u,h'.get? e = some u)
    (new:ObjOk P w (upd H x o') h' x o'):HOk P w (upd H x o') h':=fun b u q=>by
  have nown:∀c y,H c = some (.own y)→c≠x:=fun c y r z=>by subst z;rw [r] at mu;exact mu
  have ntup:∀c xs,H c = some (.tup xs)→c≠x:=fun c xs r z=>by subst z;rw [r] at mu;exact mu
  by_cases hb:b = x
  · subst hb;rw [upd_same] at q;cases q;exact new
  · rw [upd_ne hb] at q
    by_cases hbe:b = e
    · have q':H b = some (.own x):=by
        rcases he with z | z
        · exact absurd (hbe.trans z) hb
        · rw [hbe];exact z
      rw [q] at q';cases q'
      obtain⟨v,hv⟩:=heo
      exact⟨v,by rw [hbe];exact hv⟩
    · refine(ok b u q).stay (fun c v hc r=>k c v ?_ r) (fun c r=>by rw [upd_ne (nown c b r)];exact r) fun c xs r=>by rw [upd_ne (ntup c xs r)];exact r
      rcases hc with rfl | hc
      · exact hbe
      · rintro rfl
        rcases he with z | z
        · exact nown c b hc z
        · rw [hc] at z;cases z;exact hb rfl
end
structure Un (fs ex:List Addr) (H H':Hp) (h h':Heap):Prop where
  keep:∀b o,h.get? b = some o→H b = none→b∉fs→b∉ex→h'.get? b = some o
  slot:∀b o,h.get? b = some o→H b = none→b∈fs→b∉ex→∃sl,h'.get? b = some { o with slots:=sl }
  free:∀b o,h.get? b = some o→H b = none→b∉ex→H' b = none
  there:∀b o,h.get? b = some o→b∉ex→∃o',h'.get? b = some o'
  tups:∀b xs,H b = some (.tup xs)→H' b = some (.tup xs)
  frzs:∀b o u,H b = some (.frz o u)→H' b = some (.frz o u)
  tbls:∀b ps,H b = some (.tbl ps)→∃more,H' b = some (.tbl (ps ++ more))
section
variable {fs fs' ex ex':List Addr} {H H1 H2:Hp} {h h1 h2 h':Heap} {a x e:Addr} {o:HO}
theorem Un.any (u:Un fs ex H H1 h h1) {b:Addr} {ob:Obj} (q:h.get? b = some ob) (n:H b = none) (hx:b∉ex):∃sl,h1.get? b = some { ob with slots:=sl }:=by
  by_cases hb:b∈fs
  · exact u.slot b ob q n hb hx
  · exact⟨ob.slots,u.keep b ob q n hb hx⟩
theorem Un.kept (k:∀b u,h.get? b = some u→h'.get? b = some u):Un fs ex H H h h':=
  ⟨fun b ob q _ _ _=>k b ob q,fun b ob q _ _ _=>⟨ob.slots,k b ob q⟩,fun _ _ _ n _=>n,fun b ob q _=>⟨ob,k b ob q⟩,fun _ _ q=>q,fun _ _ _ q=>q,fun _ ps q=>⟨#[],by rw [q];simp⟩⟩
theorem Un.refl:Un fs ex H H h h:=Un.kept fun _ _ q=>q
theorem Un.laid (k:∀b u,h.get? b = some u→h'.get? b = some u) (hp:h.objs.size≤a) (hn:H a = none):Un fs ex H (upd H a o) h h' where
  keep:=fun b u q _ _ _=>k b u q
  slot:=fun b u q _ _ _=>⟨u.slots,k b u q⟩
  free:=fun b u q n _=>by rw [upd_ne (Nat.ne_of_lt (Nat.lt_of_lt_of_le (Heap.lt_size q) hp))];exact n
  there:=fun b u q _=>⟨u,k b u q⟩
  tups:=fun b xs q=>by rw [upd_ne (ne_of_none q hn)];exact q
  frzs:=fun b u xs q=>by rw [upd_ne (ne_of_none q hn)];exact q
  tbls:=fun b ps q=>⟨#[],by rw [upd_ne (ne_of_none q hn),q];simp⟩
theorem Un.write (mu:Mut (H x)) (he:e = x∨H e = some (.own x)) (k:∀b u,b≠e→h.get? b = some u→h'.get? b = some u) (heo:∃u,h'.get? e = some u):Un fs ex H (upd H x o) h h':=by
  have hx:∀b,H b = none→b≠x:=fun b n z=>by subst z;rw [n] at mu;exact mu
  have hb:∀b,H b = none→b≠e:=fun b n z=>by
    subst z
    rcases he with r | r
    · exact hx b n r
    · rw [n] at r;cases r
  have hm:∀b u,H b = some u→¬ Mut (some u)→b≠x:=fun b u q nm z=>by subst z;rw [q] at mu;exact nm mu
  refine⟨fun b u q n _ _=>k b u (hb b n) q,fun b u q n _ _=>⟨u.slots,k b u (hb b n) q⟩,fun b u q n _=>by rw [upd_ne (hx b n)];exact n,fun b u q _=>?_,
    fun b xs q=>by rw [upd_ne (hm b _ q fun z=>z)];exact q,fun b u xs q=>by rw [upd_ne (hm b _ q fun z=>z)];exact q,fun b ps q=>⟨#[],by rw [upd_ne (hm b _ q fun z=>z),q];simp⟩⟩
  by_cases hbe:b = e
  · subst hbe;exact heo
  · exact⟨u,k b u hbe q⟩
end
def trk (h:Heap) (H:Hp):List Addr:=(List.range h.objs.size).filter fun a=>(H a).isSome
def hidT (h:Heap) (H:Hp):Heap:=PySem.W.hideAll h (trk h H)
theorem hidT_size (h:Heap) (H:Hp):(hidT h H).objs.size = h.objs.size:=PySem.W.hideAll_size _ _
theorem hidT_get {h:Heap} {H:Hp} {b:Addr} {o:Obj} (e:h.get? b = some o) (n:H b = none):(hidT h H).get? b = some o:=
  PySem.W.hideAll_get _ e fun hm=>by
    have q:(H b).isSome = true:=(List.mem_filter.mp hm).2
    rw [n] at q;simp at q
theorem of_hidT {h:Heap} {H:Hp} {b:Addr} {o:Obj} (e:(hidT h H).get? b = some o):h.get? b = some o∧H b = none:=by
  have e':h.get? b = some o:=PySem.W.of_hideAll (trk h H) e
  refine⟨e',?_⟩
  cases q:H b with
  | none=>rfl
  | some x=>
    have hm:b∈trk h H:=List.mem_filter.mpr ⟨List.mem_range.mpr (Heap.lt_size e'),by simp [q]⟩
    have z:(hidT h H).get? b = none:=PySem.W.hideAll_none (trk h H) hm
    rw [z] at e;cases e
def allNews (g h:Heap) (L:Addr):List (Addr×Obj):=(List.range h.objs.size).filterMap fun a=>if a = L∨(g.get? a).isSome = true then none else (h.get? a).map fun o=>(a,o)
def rest (g h:Heap) (L d:Addr):List (Addr×Obj):=(allNews g h L).filter fun p=>decide (p.1≠d)
end L2
namespace L2
open PySem PySem.Spec PyProof.Rows
structure Mod (K:PySem.W.Frag) (mg:Str→Option Value) (base:Heap):Prop where
  kin:K.In base
  glob:base.Ns mainGlobals mg
  blt:∃mb,base.Ns builtinsNs mb∧∀x:Str,x≠"__name__"→mb x = bootBuiltins x
  nolimit:base.NoLimit
structure Cx where
  prog:Program
  w:World
  K:PySem.W.Frag
  mg:Str→Option Value
  base:Heap
  A:Around
  N:List Str
  s₀:Shared
  H₀:Hp
  env:Env
  outer:List Env
  stack:List Env
  ex:List Addr
  fn:Str→Bool
  calm:Bool
  pn:List (Addr×Obj)
  xe:Value→Shared→Prop
def frs (l:List Env):List Addr:=l.filterMap (·.frame)
abbrev Cx.fs (X:Cx):List Addr:=frs X.outer
def Vis (sc:Scope) (x:Str):Prop:=sc.names.lookup x = some .local∨sc.names.lookup x = some .cell∨sc.names.lookup x = some .free
def Loc (sc:Scope) (x:Str):Prop:=sc.names.lookup x = some .local∨sc.names.lookup x = some .cell
def Look (env:Env) (h:Heap) (m:Str→Option Value) (x:Str) (u:Value):Prop:=
  (env.kindOf x = some .local∧m x = some u)∨((env.kindOf x = some .cell∨env.kindOf x = some .free)∧∃c,env.cells.lookup x = some c∧h.IsCell c (some u))
structure Cx.Ok (X:Cx):Prop where
  mod:Mod X.K X.mg X.base
  kind:X.env.scope.kind = .function
  glob:X.env.globals = mainGlobals
  blt:X.env.builtins = builtinsNs
  above:X.s₀.heap.objs.size≤X.env.locals
  inj:∀x y c,X.env.cells.lookup x = some c→X.env.cells.lookup y = some c→x = y
  has:∀x,(X.env.kindOf x = some .cell∨X.env.kindOf x = some .free)→∃c,X.env.cells.lookup x = some c
  cab:∀x c,X.fn x = true→X.env.cells.lookup x = some c→X.s₀.heap.objs.size≤c
  hd:X.calm = true→X.A.handled = none
  frames:X.A.frames = some X.stack
  stk:X.stack = X.outer∨(X.stack = X.env :: X.outer∧X.env.frame = some X.env.locals)
  exf:∀b∈X.ex,b≠X.env.locals∧∀x c,X.env.cells.lookup x = some c→c≠b
  bs:∀b o,X.base.get? b = some o→X.s₀.heap.get? b = some o∧X.H₀ b = none
  bsz:X.base.objs.size≤X.s₀.heap.objs.size
  noex:∀b o,X.base.get? b = some o→b∉X.ex
  exfs:∀b∈X.ex,b∉X.fs
  funs:X.s₀.heap.FunFrames X.base X.outer
  frf:∀b∈X.fs,X.H₀ b = none
structure Inv (X:Cx) (pins:List (Addr×Obj)) (σ:List (Option V)) (H:Hp) (s:Shared):Prop where
  ok:X.Ok
  os:s.os = X.s₀.os
  bare:AllBare s.gens
  base:Un X.fs X.ex X.H₀ H X.s₀.heap s.heap
  loc:∃m,s.heap.Ns X.env.locals m∧∀(i:Nat) (x:Str) (v:V),X.N[i]? = some x→σ[i]? = some (some v)→Vis X.env.scope x→∃u,RelV v u∧Look X.env s.heap m x u
  cell:∀x c,X.env.cells.lookup x = some c→∃v,s.heap.IsCell c v
  free:H X.env.locals = none
  freeC:∀x c,X.env.cells.lookup x = some c→H c = none
  pin:∀p∈X.pn ++ pins,s.heap.get? p.1 = some p.2∧H p.1 = none∧p.1≠X.env.locals∧p.1∉X.fs∧∀v,p.2.data≠ .cell v
  hok:HOk X.prog X.w H s.heap
  len:σ.length = X.N.length
section
variable {X:Cx} {pins:List (Addr×Obj)} {σ:List (Option V)} {H H':Hp} {s:Shared} {h':Heap}
theorem Cx.Ok.nofr (ok:X.Ok) {b:Addr} {o:Obj} (e:X.base.get? b = some o):b∉X.fs:=fun hb=>by
  have:=(ok.funs.mem hb).1
  rw [e] at this;cases this
theorem Inv.bs (I:Inv X pins σ H s):∀b o,X.base.get? b = some o→s.heap.get? b = some o∧H b = none:=fun b o e=>
  ⟨I.base.keep b o (I.ok.bs b o e).1 (I.ok.bs b o e).2 (I.ok.nofr e) (I.ok.noex b o e),I.base.free b o (I.ok.bs b o e).1 (I.ok.bs b o e).2 (I.ok.noex b o e)⟩
theorem Inv.bk (I:Inv X pins σ H s):∀b o,X.base.get? b = some o→s.heap.get? b = some o:=fun b o e=>(I.bs b o e).1
theorem Inv.mod (I:Inv X pins σ H s):Mod X.K X.mg X.base:=I.ok.mod
theorem Inv.kIn (I:Inv X pins σ H s):X.K.In s.heap:=I.ok.mod.kin.keeps I.bk
theorem Inv.lt (I:Inv X pins σ H s):X.env.locals < s.heap.objs.size:=let ⟨_,hn,_⟩:=I.loc;hn.lt
theorem Inv.sz (I:Inv X pins σ H s):X.s₀.heap.objs.size≤s.heap.objs.size:=Nat.le_trans I.ok.above (Nat.le_of_lt I.lt)
theorem Inv.nofs (I:Inv X pins σ H s) {a:Addr} (h:s.heap.objs.size≤a):a∉X.fs:=fun hb=>by
  obtain⟨_,o,ho,_⟩:=I.ok.funs.mem hb
  exact absurd (Nat.lt_of_lt_of_le (Heap.lt_size ho) (Nat.le_trans I.sz h)) (Nat.lt_irrefl _)
theorem Inv.cne (I:Inv X pins σ H s):∀x c,X.env.cells.lookup x = some c→c≠X.env.locals:=fun x c e z=>by
  obtain⟨v,o,ho,hd⟩:=I.cell x c e
  obtain⟨m,⟨o',es,ep,ho',hd',_⟩,_⟩:=I.loc
  rw [z,ho'] at ho;cases ho;rw [hd'] at hd;cases hd
theorem Inv.funs (I:Inv X pins σ H s):s.heap.FunFrames X.base X.outer:=by
  have all:∀(l:List Env),(∀b∈frs l,b∈X.fs)→X.s₀.heap.FunFrames X.base l→s.heap.FunFrames X.base l:=by
    intro l
    induction l with
    | nil=>intro _ _;trivial
    | cons env r ih=>
      intro hs hl
      obtain⟨hk,⟨L,o,hf,hn,ho,hd⟩,hr⟩:=hl
      have hL:L∈X.fs:=hs L (by unfold frs;rw [List.filterMap_cons,hf];exact List.mem_cons_self)
      obtain⟨sl,e⟩:=I.base.slot L o ho (I.ok.frf L hL) hL fun z=>I.ok.exfs L z hL
      exact⟨hk,⟨L,_,hf,hn,e,hd⟩,ih (fun b hb=>hs b (by unfold frs;rw [List.filterMap_cons,hf];exact List.mem_cons_of_mem _ hb)) hr⟩
  exact all X.outer (fun _ hb=>hb) I.ok.funs
theorem Inv.stack (I:Inv X pins σ H s):s.heap.FunFrames X.base X.stack:=by
  rcases I.ok.stk with e | ⟨e,hf⟩
  · rw [e];exact I.funs
  · rw [e]
    obtain⟨m,hn,_⟩:=I.loc
    refine .cons (by rw [I.ok.kind];decide) hf hn ?_ I.funs
    exact Heap.get?_none_of_le (Nat.le_trans I.ok.bsz I.ok.above)
theorem Inv.stkSub (I:Inv X pins σ H s):∀b∈frs X.stack,b∈X.env.locals :: X.fs:=fun b hb=>by
  rcases I.ok.stk with e | ⟨e,hf⟩
  · rw [e] at hb;exact List.mem_cons_of_mem _ hb
  · rw [e] at hb
    unfold frs at hb
    rw [List.filterMap_cons,hf] at hb
    exact hb
theorem Inv.stkFree (I:Inv X pins σ H s):∀b∈frs X.stack,H b = none:=fun b hb=>by
  rcases List.mem_cons.mp (I.stkSub b hb) with e | hb
  · rw [e];exact I.free
  · obtain⟨_,o,ho,_⟩:=I.ok.funs.mem hb
    exact I.base.free b o ho (I.ok.frf b hb) fun z=>I.ok.exfs b z hb
theorem Inv.step {g':Array GenState} {t':Nat} {d':Drawn} {ch:List Addr} (I:Inv X pins σ H s)
    (hch:∀b∈ch,(b∈X.ex∨X.s₀.heap.objs.size≤b)∧b≠X.env.locals∧(∀x c,X.env.cells.lookup x = some c→c≠b)∧∀p∈X.pn ++ pins,p.1≠b)
    (keep:∀b o,b≠X.env.locals→b∉X.fs→b∉ch→s.heap.get? b = some o→H b = none→h'.get? b = some o)
    (slot:∀b o,b≠X.env.locals→b∈X.fs→b∉ch→s.heap.get? b = some o→H b = none→∃sl,h'.get? b = some { o with slots:=sl }) (free:∀b o,b∉ch→s.heap.get? b = some o→H b = none→H' b = none)
    (there:∀b o,b∉ch→s.heap.get? b = some o→∃o',h'.get? b = some o')
    (tups:∀b xs,H b = some (.tup xs)→H' b = some (.tup xs)) (frzs:∀b o u,H b = some (.frz o u)→H' b = some (.frz o u)) (tbls:∀b ps,H b = some (.tbl ps)→∃more,H' b = some (.tbl (ps ++ more)))
    (ns:∀m,s.heap.Ns X.env.locals m→h'.Ns X.env.locals m) (hok:HOk X.prog X.w H' h') (hg:AllBare g') :
    Inv X pins σ H' { s with heap:=h',gens:=g',drawn:=d',toks:=t' }:=by
  have neL:∀b o,X.s₀.heap.get? b = some o→b≠X.env.locals:=fun b o e=>Nat.ne_of_lt (Nat.lt_of_lt_of_le (Heap.lt_size e) I.ok.above)
  have neC:∀b o,X.s₀.heap.get? b = some o→b∉X.ex→b∉ch:=fun b o e hx hb=>by
    rcases (hch b hb).1 with z | z
    · exact hx z
    · exact absurd (Nat.lt_of_lt_of_le (Heap.lt_size e) z) (Nat.lt_irrefl _)
  have cellK:∀x c,X.env.cells.lookup x = some c→∀v,s.heap.IsCell c v→h'.IsCell c v:=fun x c e v ⟨o,ho,hd⟩=>by
    have nch:c∉ch:=fun z=>(hch c z).2.2.1 x c e rfl
    by_cases hc:c∈X.fs
    · obtain⟨sl,q⟩:=slot c o (I.cne x c e) hc nch ho (I.freeC x c e)
      exact⟨_,q,hd⟩
    · exact⟨o,keep c o (I.cne x c e) hc nch ho (I.freeC x c e),hd⟩
  refine⟨I.ok,I.os,hg,⟨fun b o e n hb hx=>?_,fun b o e n hb hx=>?_,fun b o e n hx=>?_,fun b o e hx=>?_,fun b xs e=>tups b xs (I.base.tups b xs e),fun b o xs e=>frzs b o xs (I.base.frzs b o xs e),fun b ps e=>?_⟩,?_,fun x c e=>?_,?_,fun x c e=>?_,fun p hp=>?_,hok,I.len⟩
  · exact keep b o (neL b o e) hb (neC b o e hx) (I.base.keep b o e n hb hx) (I.base.free b o e n hx)
  · obtain⟨sl,e1⟩:=I.base.slot b o e n hb hx
    obtain⟨sl',e2⟩:=slot b _ (neL b o e) hb (neC b o e hx) e1 (I.base.free b o e n hx)
    exact⟨sl',e2⟩
  · obtain⟨o',e1⟩:=I.base.there b o e hx
    exact free b o' (neC b o e hx) e1 (I.base.free b o e n hx)
  · obtain⟨o',e1⟩:=I.base.there b o e hx
    exact there b o' (neC b o e hx) e1
  · obtain⟨m1,e1⟩:=I.base.tbls b ps e
    obtain⟨m2,e2⟩:=tbls b _ e1
    exact⟨m1 ++ m2,by rw [e2,Array.append_assoc]⟩
  · obtain⟨m,hn,hl⟩:=I.loc
    refine⟨m,ns m hn,fun i x v e1 e2 e3=>?_⟩
    obtain⟨u,r,l⟩:=hl i x v e1 e2 e3
    refine⟨u,r,?_⟩
    rcases l with l | ⟨k,c,e,z⟩
    · exact .inl l
    · exact .inr ⟨k,c,e,cellK x c e _ z⟩
  · obtain⟨v,z⟩:=I.cell x c e
    exact⟨v,cellK x c e v z⟩
  · obtain⟨m,⟨o,_,_,ho,_⟩,_⟩:=I.loc
    exact free _ o (fun z=>(hch _ z).2.1 rfl) ho I.free
  · obtain⟨v,o,ho,hd⟩:=I.cell x c e
    exact free c o (fun z=>(hch c z).2.2.1 x c e rfl) ho (I.freeC x c e)
  · obtain⟨e,n,ne,nf,d⟩:=I.pin p hp
    have nch:p.1∉ch:=fun z=>(hch p.1 z).2.2.2 p hp rfl
    exact⟨keep p.1 p.2 ne nf nch e n,free p.1 p.2 nch e n,ne,nf,d⟩
theorem Inv.un {t':Nat} (I:Inv X pins σ H s) (u:Un X.fs [] H H' s.heap h') (hok:HOk X.prog X.w H' h'):Inv X pins σ H' { s with heap:=h',toks:=t' }:=by
  obtain⟨m,⟨o,es,ep,ho,r⟩,_⟩:=id I.loc
  obtain⟨sl,hL⟩:=u.any ho I.free (by simp)
  exact I.step (g':=s.gens) (d':=s.drawn) (ch:=[]) (fun _ z=>nomatch z) (fun b o _ hb _ e n=>u.keep b o e n hb (by simp)) (fun b o _ hb _ e n=>u.slot b o e n hb (by simp)) (fun b o _ e n=>u.free b o e n (by simp)) (fun b o _ e=>u.there b o e (by simp)) u.tups u.frzs u.tbls (fun m' hm=>by
    obtain⟨o',es',ep',ho',r'⟩:=hm
    rw [ho] at ho';cases ho'
    exact⟨_,es',ep',hL,r'⟩) hok I.bare
theorem Inv.call {g':Array GenState} {t':Nat} {d':Drawn} {ch:List Addr} (I:Inv X pins σ H s) (u:Un (frs X.stack) ch H H' s.heap h') (hok:HOk X.prog X.w H' h') (hg:AllBare g')
    (hch:∀b∈ch,(b∈X.ex∨X.s₀.heap.objs.size≤b)∧b≠X.env.locals∧(∀x c,X.env.cells.lookup x = some c→c≠b)∧∀p∈X.pn ++ pins,p.1≠b) :
    Inv X pins σ H' { s with heap:=h',gens:=g',drawn:=d',toks:=t' }:=by
  obtain⟨m,⟨o,es,ep,ho,r⟩,_⟩:=id I.loc
  obtain⟨sl,hL⟩:=u.any ho I.free fun z=>(hch _ z).2.1 rfl
  exact I.step (ch:=ch) hch (fun b o hL hb hc e n=>u.keep b o e n (fun z=>(List.mem_cons.mp (I.stkSub b z)).elim hL hb) hc) (fun b o _ _ hc e n=>u.any e n hc) (fun b o hc e n=>u.free b o e n hc) (fun b o hc e=>u.there b o e hc) u.tups u.frzs u.tbls (fun m' hm=>by
    obtain⟨o',es',ep',ho',r'⟩:=hm
    rw [ho] at ho';cases ho'
    exact⟨_,es',ep',hL,r'⟩) hok hg
theorem Inv.turned {t':Nat} {it:Addr} (I:Inv X pins σ H s) (k:∀b o,b≠it→s.heap.get? b = some o→h'.get? b = some o) (hn:H it = none) (hL:it≠X.env.locals)
    (h1:it∈X.ex∨X.s₀.heap.objs.size≤it) (h2:∀x c,X.env.cells.lookup x = some c→c≠it) (h3:∀p∈X.pn ++ pins,p.1≠it):Inv X pins σ H { s with heap:=h',toks:=t' }:=by
  have nit:∀b u,H b = some u→b≠it:=fun b u e z=>by rw [z,hn] at e;cases e
  refine I.step (g':=s.gens) (d':=s.drawn) (ch:=[it]) (fun b hb=>?_) (fun b o _ _ hc e _=>k b o (fun z=>hc (by simp [z])) e) (fun b o _ _ hc e _=>⟨o.slots,k b o (fun z=>hc (by simp [z])) e⟩) (fun _ _ _ _ n=>n)
    (fun b o hc e=>⟨o,k b o (fun z=>hc (by simp [z])) e⟩) (fun _ _ e=>e) (fun _ _ _ e=>e) (fun b ps e=>⟨#[],by rw [e];simp⟩) (fun m hm=>?_) (fun b u e=>?_) I.bare
  · have e:b = it:=by simpa using hb
    subst e
    exact⟨h1,hL,h2,h3⟩
  · obtain⟨o,es,ep,ho,r⟩:=hm
    exact⟨o,es,ep,k _ o (Ne.symm hL) ho,r⟩
  · refine(I.hok b u e).stay (fun c v hc q=>k c v ?_ q) (fun _ q=>q) fun _ _ q=>q
    rcases hc with z | z
    · rw [z];exact nit b u e
    · exact nit c _ z
theorem Inv.tok (I:Inv X pins σ H s) (t:Nat):Inv X pins σ H { s with toks:=t }:=I.un (h':=s.heap) (t':=t) Un.refl I.hok
theorem Inv.kept {t':Nat} (I:Inv X pins σ H s) (k:∀b u,s.heap.get? b = some u→h'.get? b = some u):Inv X pins σ H { s with heap:=h',toks:=t' }:=I.un (Un.kept k) (I.hok.kept k)
theorem Inv.laid {a:Addr} {o:HO} {t':Nat} (I:Inv X pins σ H s) (k:∀b u,s.heap.get? b = some u→h'.get? b = some u) (hp:s.heap.objs.size≤a) (new:ObjOk X.prog X.w (upd H a o) h' a o) :
    Inv X pins σ (upd H a o) { s with heap:=h',toks:=t' }:=I.un (Un.laid k hp (I.hok.fresh hp)) (I.hok.laid k hp new)
theorem Inv.write {x e:Addr} {o:HO} {t':Nat} (I:Inv X pins σ H s) (mu:Mut (H x)) (he:e = x∨H e = some (.own x)) (k:∀b u,b≠e→s.heap.get? b = some u→h'.get? b = some u) (heo:∃u,h'.get? e = some u)
    (new:ObjOk X.prog X.w (upd H x o) h' x o):Inv X pins σ (upd H x o) { s with heap:=h',toks:=t' }:=I.un (Un.write mu he k heo) (I.hok.write mu he k heo new)
theorem Inv.pins_of {pins':List (Addr×Obj)} (I:Inv X pins σ H s) (h:∀p∈pins',s.heap.get? p.1 = some p.2∧H p.1 = none∧p.1≠X.env.locals∧p.1∉X.fs∧∀v,p.2.data≠ .cell v):Inv X pins' σ H s:=
  ⟨I.ok,I.os,I.bare,I.base,I.loc,I.cell,I.free,I.freeC,fun p hp=>(List.mem_append.mp hp).elim (fun z=>I.pin p (List.mem_append_left _ z)) (h p),I.hok,I.len⟩
theorem nodup_ix {N:List Str} (hN:N.Nodup) {i j:Nat} {x:Str} (a:N[i]? = some x) (b:N[j]? = some x):i = j:=by
  obtain⟨h1,e1⟩:=List.getElem?_eq_some_iff.mp a
  obtain⟨h2,e2⟩:=List.getElem?_eq_some_iff.mp b
  exact(List.getElem_inj hN).mp (e1.trans e2.symm)
theorem store_ok2 {M:Model} {A:Around} {E:Value→Shared→Prop} {i:Nat} {x:Str} {v:V} {u:Value} {Q:Unit→Shared→Prop} (I:Inv X pins σ H s) (hN:X.N.Nodup) (hi:X.N[i]? = some x) (hx:Loc X.env.scope x) (r:RelV v u)
    (h:∀s',Inv X pins (σ.set i (some v)) H s'→(∃a,Heap.SameBut a s.heap s'.heap∧(a = X.env.locals∨X.env.cells.lookup x = some a))→Q () s') (hf:X.fn x = true∨X.env.scope.names.lookup x = some .local:=by first | exact .inl rfl | exact .inr rfl | assumption):wpAny M A (storeName X.env x u) Q E s:=by
  obtain⟨m,hn,hl⟩:=id I.loc
  have hcls:(X.env.scope.kind == .class || (X.env.scope.kind == .module && X.env.locals != X.env.globals)) = false:=by rw [I.ok.kind];rfl
  have hiσ:i < σ.length:=by rw [I.len];exact(List.getElem?_eq_some_iff.mp hi).1
  have cne:=I.cne
  have tracked:∀{a:Addr} {h':Heap},(∃o,s.heap.get? a = some o∧H a = none)→Heap.SameBut a s.heap h'→HOk X.prog X.w H h':=fun {a h'} ha hs b ob e=>by
    obtain⟨_,_,hfree⟩:=ha
    refine(I.hok b ob e).stay (fun c w' hc q=>(hs.2 c ?_).trans q) (fun _ q=>q) fun _ _ q=>q
    rintro rfl
    rcases hc with rfl | hc
    · rw [hfree] at e;cases e
    · rw [hfree] at hc;cases hc
  rcases hx with hk | hk
  · refine wpAny_storeName_local hk hn (fun h' hn' hs=>?_) hcls
    obtain⟨oL,_,_,hoL,_⟩:=id hn
    refine h _ ⟨I.ok,I.os,I.bare,⟨fun b o e n hb hx=>?_,fun b o e n hb hx=>?_,I.base.free,fun b o e hx=>?_,I.base.tups,I.base.frzs,I.base.tbls⟩,⟨_,hn',fun j y v' e1 e2 e3=>?_⟩,fun y c e=>?_,I.free,I.freeC,fun p hp=>?_,tracked ⟨oL,hoL,I.free⟩ hs,by simpa using I.len⟩ ⟨_,hs,.inl rfl⟩
    · exact(hs.2 b (Nat.ne_of_lt (Nat.lt_of_lt_of_le (Heap.lt_size e) I.ok.above))).trans (I.base.keep b o e n hb hx)
    · obtain⟨sl,e1⟩:=I.base.slot b o e n hb hx
      exact⟨sl,(hs.2 b (Nat.ne_of_lt (Nat.lt_of_lt_of_le (Heap.lt_size e) I.ok.above))).trans e1⟩
    · obtain⟨o',e1⟩:=I.base.there b o e hx
      exact⟨o',(hs.2 b (Nat.ne_of_lt (Nat.lt_of_lt_of_le (Heap.lt_size e) I.ok.above))).trans e1⟩
    · by_cases hj:j = i
      · subst hj
        rw [hi] at e1;cases e1
        rw [List.getElem?_set_self hiσ] at e2
        cases e2
        exact⟨u,r,.inl ⟨hk,by simp⟩⟩
      · rw [List.getElem?_set_ne (Ne.symm hj)] at e2
        obtain⟨u',r',q⟩:=hl j y v' e1 e2 e3
        refine⟨u',r',?_⟩
        rcases q with ⟨k,e⟩ | ⟨k,c,e,z⟩
        · refine .inl ⟨k,?_⟩
          have:y≠x:=fun e=>hj (nodup_ix hN e1 (e▸hi))
          simp [this,e]
        · exact .inr ⟨k,c,e,z.sameBut hs (cne y c e)⟩
    · obtain⟨w',z⟩:=I.cell y c e
      exact⟨w',z.sameBut hs (cne y c e)⟩
    · obtain⟨e,n,ne,nf,d⟩:=I.pin p hp
      exact⟨(hs.2 p.1 ne).trans e,n,ne,nf,d⟩
  · have hfn:X.fn x = true:=by
      rcases hf with z | z
      · exact z
      · rw [z] at hk;cases hk
    obtain⟨c,hc⟩:=I.ok.has x (.inl hk)
    obtain⟨w',z⟩:=I.cell x c hc
    refine wpAny_storeName_cell I.ok.kind hk hc z (fun h' hc' hs=>?_)
    obtain⟨oc,hoc,hocd⟩:=id z
    refine h { s with heap:=h' } ⟨I.ok,I.os,I.bare,⟨fun b o e n hb hx=>?_,fun b o e n hb hx=>?_,I.base.free,fun b o e hx=>?_,I.base.tups,I.base.frzs,I.base.tbls⟩,⟨m,hn.sameBut hs (Ne.symm (cne x c hc)),fun j y v' e1 e2 e3=>?_⟩,fun y c' e=>?_,I.free,I.freeC,fun p hp=>?_,tracked ⟨oc,hoc,I.freeC x c hc⟩ hs,by simpa using I.len⟩ ⟨c,hs,.inr hc⟩
    · exact(hs.2 b (Nat.ne_of_lt (Nat.lt_of_lt_of_le (Heap.lt_size e) (I.ok.cab x c hfn hc)))).trans (I.base.keep b o e n hb hx)
    · obtain⟨sl,e1⟩:=I.base.slot b o e n hb hx
      exact⟨sl,(hs.2 b (Nat.ne_of_lt (Nat.lt_of_lt_of_le (Heap.lt_size e) (I.ok.cab x c hfn hc)))).trans e1⟩
    · obtain⟨o',e1⟩:=I.base.there b o e hx
      exact⟨o',(hs.2 b (Nat.ne_of_lt (Nat.lt_of_lt_of_le (Heap.lt_size e) (I.ok.cab x c hfn hc)))).trans e1⟩
    · by_cases hj:j = i
      · subst hj
        rw [hi] at e1;cases e1
        rw [List.getElem?_set_self hiσ] at e2
        cases e2
        exact⟨u,r,.inr ⟨.inl hk,c,hc,hc'⟩⟩
      · rw [List.getElem?_set_ne (Ne.symm hj)] at e2
        obtain⟨u',r',q⟩:=hl j y v' e1 e2 e3
        refine⟨u',r',?_⟩
        rcases q with q | ⟨k,c',e,z'⟩
        · exact .inl q
        · refine .inr ⟨k,c',e,z'.sameBut hs ?_⟩
          rintro rfl
          exact hj (nodup_ix hN e1 (I.ok.inj _ _ _ e hc▸hi))
    · by_cases hcc:c' = c
      · subst hcc;exact⟨_,hc'⟩
      · obtain⟨w2,z2⟩:=I.cell y c' e
        exact⟨w2,z2.sameBut hs hcc⟩
    · obtain⟨e,n,ne,nf,d⟩:=I.pin p hp
      refine⟨(hs.2 p.1 ?_).trans e,n,ne,nf,d⟩
      intro q
      rw [q,hoc] at e
      have q':oc = p.2:=Option.some.inj e
      exact d w' (by rw [←q'];exact hocd)
theorem store_ok {M:Model} {A:Around} {E:Value→Shared→Prop} {i:Nat} {x:Str} {v:V} {u:Value} {Q:Unit→Shared→Prop} (I:Inv X pins σ H s) (hN:X.N.Nodup) (hi:X.N[i]? = some x) (hx:Loc X.env.scope x) (r:RelV v u)
    (h:∀s',Inv X pins (σ.set i (some v)) H s'→Q () s') (hf:X.fn x = true∨X.env.scope.names.lookup x = some .local:=by first | exact .inl rfl | exact .inr rfl | assumption):wpAny M A (storeName X.env x u) Q E s:=
  store_ok2 I hN hi hx r (fun s' I' _=>h s' I') hf
theorem Inv.call' {s':Shared} {ch:List Addr} (I:Inv X pins σ H s) (ho:s'.os = s.os) (u:Un (frs X.stack) ch H H' s.heap s'.heap) (hok:HOk X.prog X.w H' s'.heap) (hg:AllBare s'.gens)
    (hch:∀b∈ch,(b∈X.ex∨X.s₀.heap.objs.size≤b)∧b≠X.env.locals∧(∀x c,X.env.cells.lookup x = some c→c≠b)∧∀p∈X.pn ++ pins,p.1≠b):Inv X pins σ H' s':=by
  obtain⟨h',g',d',t',o'⟩:=s'
  have e:o' = s.os:=ho
  subst e
  exact I.call (g':=g') (t':=t') (d':=d') u hok hg hch
end
abbrev XK:=Value→Option Addr→Hp→Prop
abbrev St:=List (Option V)
abbrev VK:=V→Hp→Prop
abbrev TE:=St→Hp→VK→Prop
abbrev TT:=St→Hp→(Bool→Hp→Prop)→Prop
abbrev TA:=St→Hp→(List V→Hp→Prop)→Prop
structure Ends where
  nx:St→Hp→Prop
  rt:VK
  bk:St→Hp→Prop:=fun _ _=>False
  ct:St→Hp→Prop:=fun _ _=>False
abbrev TS:=Ends→St→Hp→Prop
def EP (X:Cx) (pins:List (Addr×Obj)) (σ:St) (Q:VK) (u:Value) (s':Shared):Prop:=∃v H',Inv X pins σ H' s'∧RelV v u∧Q v H'
def TP (X:Cx) (pins:List (Addr×Obj)) (σ:St) (Q:Bool→Hp→Prop) (b:Bool) (s':Shared):Prop:=∃H',Inv X pins σ H' s'∧Q b H'
def AP (X:Cx) (pins:List (Addr×Obj)) (σ:St) (Q:List V→Hp→Prop) (us:List Value) (s':Shared):Prop:=∃vs H',Inv X pins σ H' s'∧Vals vs us∧Q vs H'
def SP (X:Cx) (pins:List (Addr×Obj)) (D:Ends) (f:Flow) (s':Shared):Prop:=
  match f with
  | .next=>∃σ' H',Inv X pins σ' H' s'∧D.nx σ' H'
  | .brk=>∃σ' H',Inv X pins σ' H' s'∧D.bk σ' H'
  | .cont=>∃σ' H',Inv X pins σ' H' s'∧D.ct σ' H'
  | .ret u=>∃v σ' H',Inv X pins σ' H' s'∧RelV v u∧D.rt v H'
def PE (X:Cx) (e:Expr) (t:TE):Prop:=
  ∀(pins:List (Addr×Obj)) (s:Shared) (σ:St) (H:Hp) (Q:VK),Inv X pins σ H s→t σ H Q→wpAny (model X.prog X.w) X.A (eval e X.env) (EP X pins σ Q) X.xe s
def PT (X:Cx) (e:Expr) (t:TT):Prop:=
  ∀(pins:List (Addr×Obj)) (s:Shared) (σ:St) (H:Hp) (Q:Bool→Hp→Prop),Inv X pins σ H s→t σ H Q→wpAny (model X.prog X.w) X.A (isTrue e X.env (eval e X.env)) (TP X pins σ Q) X.xe s
def PW (X:Cx) (e:Expr) (t:TT):Prop:=
  ∀(whole:Sem Value) (pins:List (Addr×Obj)) (s:Shared) (σ:St) (H:Hp) (Q:Bool→Hp→Prop),Inv X pins σ H s→t σ H Q→wpAny (model X.prog X.w) X.A (isTrue e X.env whole) (TP X pins σ Q) X.xe s
theorem PW.pt {X:Cx} {e:Expr} {t:TT} (h:PW X e t):PT X e t:=h _
def PA (X:Cx) (es:List Expr) (t:TA):Prop:=
  ∀(pos:Pos) (pins:List (Addr×Obj)) (s:Shared) (σ:St) (H:Hp) (Q:List V→Hp→Prop),Inv X pins σ H s→t σ H Q→wpAny (model X.prog X.w) X.A (spliced (backTo pos (starEach es X.env))) (AP X pins σ Q) X.xe s
def PS (X:Cx) (st:Stmt) (t:TS):Prop:=
  ∀(pins:List (Addr×Obj)) (s:Shared) (σ:St) (H:Hp) (D:Ends),Inv X pins σ H s→t D σ H→wpAny (model X.prog X.w) X.A (exec st X.env) (SP X pins D) X.xe s
def PSs (X:Cx) (st:List Stmt) (t:TS):Prop:=
  ∀(pins:List (Addr×Obj)) (s:Shared) (σ:St) (H:Hp) (D:Ends),Inv X pins σ H s→t D σ H→wpAny (model X.prog X.w) X.A (execs st X.env) (SP X pins D) X.xe s
theorem thn {α:Type} {t:Sem α} {Q Q':α→Shared→Prop} {M:Model} {A:Around} {E:Value→Shared→Prop} {s:Shared} (h:wpAny M A t Q E s) (hQ:∀a s,Q a s→Q' a s):wpAny M A t Q' E s:=wpAny_mono h hQ fun _ _ x=>x
end L2
namespace L2
open PySem PySem.Spec PyProof.Rows
section
variable {X:Cx}
theorem bin {a b:Expr} {ta tb:TE} (ha:PE X a ta) (hb:PE X b tb) {pins:List (Addr×Obj)} {s:Shared} {σ:St} {H:Hp} {R:V→V→Hp→Prop} (I:Inv X pins σ H s) (h:ta σ H fun x H1=>tb σ H1 fun y H2=>R x y H2)
    {α:Type} {Q:α→Shared→Prop} {f:Value→Value→Sem α}
    (hf:∀v u s2 x y H2,Inv X pins σ H2 s2→RelV x v→RelV y u→R x y H2→wpAny (model X.prog X.w) X.A (f v u) Q X.xe s2) :
    wpAny (model X.prog X.w) X.A (eval a X.env) (fun v s₁=>wpAny (model X.prog X.w) X.A (eval b X.env) (fun u s₂=>wpAny (model X.prog X.w) X.A (f v u) Q X.xe s₂) X.xe s₁) X.xe s:=by
  refine thn (ha pins s σ H _ I h) fun v s1 ⟨x,H1,I1,r1,q1⟩=>?_
  refine thn (hb pins s1 σ H1 _ I1 q1) fun u s2 ⟨y,H2,I2,r2,q2⟩=>?_
  exact hf v u s2 x y H2 I2 r1 r2 q2
def tVar (i:Nat):TE:=fun σ H Q=>∃v,σ[i]? = some (some v)∧Q v H
def tC (v:V):TE:=fun _ H Q=>Q v H
theorem pe_var {i:Nat} {x:Str} {pos:Pos} (hN:X.N[i]? = some x) (hv:Vis X.env.scope x) (hd:(x == ("__debug__":Str)) = false:=by decide) (hcd:(x == ("__classdict__":Str)) = false:=by decide):PE X (.Name x pos) (tVar i):=by
  intro pins s σ H Q I h
  obtain⟨v,e,h⟩:=h
  obtain⟨m,hn,hl⟩:=I.loc
  obtain⟨u,r,l⟩:=hl i x v hN e hv
  have fin:EP X pins σ Q u s:=⟨v,H,I,r,h⟩
  rcases l with ⟨hk,hm⟩ | ⟨hk,c,hc,hcell⟩
  · exact wpAny_Name (wpAny_loadName_local I.ok.kind hk hn hm fin) hd
  · rcases hk with hk | hk
    · exact wpAny_Name (wpAny_loadName_cell I.ok.kind hk hc hcell fin) hd
    · exact wpAny_Name (wpAny_loadName_free I.ok.kind hk hc hcell fin hcd) hd
theorem pe_int {i j pos}:PE X (.Constant (.int i) j pos) (tC (.int i)):=fun _ _ _ H _ I h=>wpAny_Constant_int ⟨.int i,H,I.tok _,⟨_,rfl⟩,h⟩
theorem pe_bl {b j pos}:PE X (.Constant (.bool b) j pos) (tC (.bl b)):=fun _ _ _ H _ I h=>Constant_bool ⟨.bl b,H,I,rfl,h⟩
def Gl (X:Cx) (x:Str):Prop:=X.env.kindOf x = some .globalImplicit
theorem ld_glob {E:Value→Shared→Prop} {pins:List (Addr×Obj)} {s:Shared} {σ:St} {H:Hp} {x:Str} {u:Value} {pos:Pos} {Q:Value→Shared→Prop} (I:Inv X pins σ H s) (hg:Gl X x) (hm:X.mg x = some u) (h:Q u s)
    (hd:(x == ("__debug__":Str)) = false:=by decide):wpAny (model X.prog X.w) X.A (eval (.Name x pos) X.env) Q E s:=
  Calls.Name_function_global I.ok.kind hg (Calls.loadGlobal_global (by rw [I.ok.glob];exact I.mod.glob.keeps I.bk) hm h) hd
theorem ld_blt {E:Value→Shared→Prop} {pins:List (Addr×Obj)} {s:Shared} {σ:St} {H:Hp} {x:Str} {u:Value} {pos:Pos} {Q:Value→Shared→Prop} (I:Inv X pins σ H s) (hg:Gl X x) (hm:X.mg x = none) (hv:bootBuiltins x = some u) (h:Q u s)
    (hn:x≠"__name__":=by decide) (hd:(x == ("__debug__":Str)) = false:=by decide):wpAny (model X.prog X.w) X.A (eval (.Name x pos) X.env) Q E s:=by
  obtain⟨mb,h1,h2⟩:=I.mod.blt
  exact Calls.Name_function_global I.ok.kind hg (Calls.loadGlobal_builtin (by rw [I.ok.glob];exact I.mod.glob.keeps I.bk) hm (by rw [I.ok.blt];exact h1.keeps I.bk) ((h2 x hn).trans hv) h) hd
theorem pe_bltn {x:Str} {v:V} {u:Value} {pos:Pos} (hg:Gl X x) (hm:X.mg x = none) (hv:bootBuiltins x = some u) (r:RelV v u) (hn:x≠"__name__":=by decide) (hd:(x == ("__debug__":Str)) = false:=by decide):PE X (.Name x pos) (tC v):=
  fun _ _ _ H _ I h=>ld_blt I hg hm hv ⟨v,H,I,r,h⟩ hn hd
def t2I (ta tb:TE) (k:Int→Int→Hp→Prop):St→Hp→Prop:=fun σ H=>ta σ H fun x H1=>tb σ H1 fun y H2=>∃i j,x = .int i∧y = .int j∧k i j H2
def tAdd (ta tb:TE):TE:=fun σ H Q=>t2I ta tb (fun i j H2=>Q (.int (i + j)) H2) σ H
def tSub (ta tb:TE):TE:=fun σ H Q=>t2I ta tb (fun i j H2=>Q (.int (i - j)) H2) σ H
def tMul (ta tb:TE):TE:=fun σ H Q=>t2I ta tb (fun i j H2=>(-(2 ^ 64) < i∧i < 2 ^ 64)∧Q (.int (i * j)) H2) σ H
variable {a b:Expr} {ta tb:TE} {pos:Pos}
def PC (X:Cx) (op:CmpOp) (a b:Expr) (t:TE):Prop:=
  ∀ (pins:List (Addr×Obj)) (s:Shared) (σ:St) (H:Hp) (Q:VK),Inv X pins σ H s→t σ H Q→
    wpAny (model X.prog X.w) X.A (eval a X.env) (fun v s₁=>wpAny (model X.prog X.w) X.A (eval b X.env) (fun u s₂=>wpAny (model X.prog X.w) X.A (compareOp op v u) (EP X pins σ Q) X.xe s₂) X.xe s₁) X.xe s
def tCmp (p:Int→Int→Bool) (ta tb:TE):TE:=fun σ H Q=>t2I ta tb (fun i j H2=>Q (.bl (p i j)) H2) σ H
abbrev tLt:TE→TE→TE:=tCmp fun i j=>decide (i < j)
abbrev tLe:TE→TE→TE:=tCmp fun i j=>decide (i≤j)
abbrev tGt:TE→TE→TE:=tCmp fun i j=>decide (j < i)
abbrev tGe:TE→TE→TE:=tCmp fun i j=>decide (j≤i)
abbrev tEqI:TE→TE→TE:=tCmp fun i j=>decide (i = j)
abbrev tNeI:TE→TE→TE:=tCmp fun i j=>!decide (i = j)
def tIsN (ta:TE):TE:=fun σ H Q=>ta σ H fun x H1=>Q (.bl (decide (x = .non))) H1
def tNotN (ta:TE):TE:=fun σ H Q=>ta σ H fun x H1=>Q (.bl (!decide (x = .non))) H1
def tB (t:TE):TT:=fun σ H Q=>t σ H fun x H1=>∃c,x = .bl c∧Q c H1
theorem pt_cmp {op:CmpOp} {t:TE} (h:PC X op a b t) (h1:behindInMarks op b = false:=by first | exact nobehind _ (by decide) (by decide) | rfl):PT X (.Compare a [op] [b] pos) (tB t):=by
  intro pins s σ H Q I hw
  refine wpAny_isTrue_Compare1 (thn (h pins s σ H _ I hw) fun v s1 h1=>thn h1 fun u s2 h2=>thn h2 fun c s3 ⟨x,H1,I1,r1,q1⟩=>?_) h1
  obtain⟨d,rfl,q⟩:=q1
  cases r1
  exact wpAny_truthy_bool ⟨H1,I1,q⟩
theorem pt_val {e:Expr} {t:TE} (h:PE X e t) (he:∀whole,isTrue e X.env whole = (do let v←whole;standAt e.pos;holding [v] (truthy v)):=by intro _;rfl):PT X e (tB t):=by
  intro pins s σ H Q I hw
  refine isTrue_plain (thn (h pins s σ H _ I hw) fun v s1 ⟨x,H1,I1,r1,q1⟩=>?_) (he _)
  obtain⟨d,rfl,q⟩:=q1
  cases r1
  exact wpAny_truthy_bool ⟨H1,I1,q⟩
variable {tA tB':TT} {rest:List Expr}
def tAnd (t u:TT):TT:=fun σ H Q=>t σ H fun c H1=>if c = true then u σ H1 Q else Q false H1
def tOr (t u:TT):TT:=fun σ H Q=>t σ H fun c H1=>if c = true then Q true H1 else u σ H1 Q
def tNot (t:TT):TT:=fun σ H Q=>t σ H fun c H1=>Q (!c) H1
theorem pw_and1 (ha:PT X a tA):PW X (.BoolOp .And [a] pos) tA:=by
  intro wh pins s σ H Q I h
  refine isTrue_and (thn (ha pins s σ H Q I h) fun c s1 e=>?_)
  cases c with
  | true=>exact isTrue_and_nil e
  | false=>exact e
theorem pw_and (ha:PT X a tA) (hb:PW X (.BoolOp .And (b :: rest) pos) tB'):PW X (.BoolOp .And (a :: b :: rest) pos) (tAnd tA tB'):=by
  intro wh pins s σ H Q I h
  refine isTrue_and (thn (ha pins s σ H _ I h) fun c s1 ⟨H1,I1,q1⟩=>?_)
  cases c with
  | true=>exact hb wh pins s1 σ H1 Q I1 q1
  | false=>exact⟨H1,I1,q1⟩
theorem pt_not (ha:PT X a tA):PT X (.UnaryOp .Not a pos) (tNot tA):=by
  intro pins s σ H Q I h
  exact isTrue_not (ha pins s σ H (fun c H1=>Q (!c) H1) I h)
def tAndV (ta tb:TE):TE:=fun σ H Q=>ta σ H fun x H1=>∃c,x = .bl c∧if c = true then tb σ H1 Q else Q (.bl false) H1
def tOrV (ta tb:TE):TE:=fun σ H Q=>ta σ H fun x H1=>∃c,x = .bl c∧if c = true then Q (.bl true) H1 else tb σ H1 Q
def tNotV (ta:TE):TE:=fun σ H Q=>ta σ H fun x H1=>∃c,x = .bl c∧Q (.bl (!c)) H1
theorem pe_one {op} {t:TE} (h:PE X a t):PE X (.BoolOp op [a] pos) t:=fun pins s σ H Q I hw=>BoolOp_one (h pins s σ H Q I hw)
theorem pe_and (ha:PE X a ta) (hb:PE X (.BoolOp .And (b :: rest) pos) tb):PE X (.BoolOp .And (a :: b :: rest) pos) (tAndV ta tb):=by
  intro pins s σ H Q I h
  refine BoolOp_and (thn (ha pins s σ H _ I h) fun v s1 ⟨x,H1,I1,r1,q1⟩=>?_)
  obtain⟨c,rfl,q1⟩:=q1
  cases r1
  refine wpAny_truthy_bool ?_
  cases c with
  | true=>exact hb pins s1 σ H1 Q I1 q1
  | false=>exact⟨.bl false,H1,I1,rfl,q1⟩
theorem pe_not (ha:PE X a ta):PE X (.UnaryOp .Not a pos) (tNotV ta):=by
  intro pins s σ H Q I h
  refine UnaryOp_ (thn (ha pins s σ H _ I h) fun v s1 ⟨x,H1,I1,r1,q1⟩=>?_)
  obtain⟨c,rfl,q1⟩:=q1
  cases r1
  exact not_of (wpAny_truthy_bool ⟨.bl (!c),H1,I1,rfl,q1⟩)
def tIf (t:TT) (ta tb:TE):TE:=fun σ H Q=>t σ H fun c H1=>if c = true then ta σ H1 Q else tb σ H1 Q
theorem pe_ifExp {c:Expr} (hc:PT X c tA) (ha:PE X a ta) (hb:PE X b tb):PE X (.IfExp c a b pos) (tIf tA ta tb):=by
  intro pins s σ H Q I h
  refine wpAny_IfExp (thn (hc pins s σ H _ I h) fun d s1 ⟨H1,I1,q1⟩=>?_)
  cases d with
  | true=>exact ha pins s1 σ H1 Q I1 q1
  | false=>exact hb pins s1 σ H1 Q I1 q1
end
end L2
namespace L2
open PySem PySem.Spec PyProof.Rows
def SqL (K:PySem.W.Frag) (H:Hp) (a:Addr) (xs:List V):Prop:=
  Rd H a (.lst xs)∨
    ∃(o:Obj) (its:Array Value) (n:Nat),K.lookup a = some o∧o.cls = .type "list"∧o.dict = none∧o.data = .seq its n∧its.size≤sizeLine∧Vals xs its.toList
def SqT (K:PySem.W.Frag) (H:Hp) (a:Addr) (xs:List V):Prop:=
  Rd H a (.tup xs)∨
    ∃(o:Obj) (its:Array Value) (n:Nat),K.lookup a = some o∧o.cls = .type "tuple"∧o.data = .seq its n∧its.size≤sizeLine∧Vals xs its.toList
def absV:Value→Option V
  | .none=>some .non
  | .bool b=>some (.bl b)
  | .int i _=>some (.int i)
  | .str x _=>some (.str x)
  | .bytes b _=>some (.byt b)
  | .float b _=>some (.flt b)
  | .ref a=>some (.ref a)
  | .type n=>some (.ty n)
  | _=>none
theorem RelV.abs {x:V} {u:Value} (r:RelV x u):absV u = some x:=by
  cases x with
  | non=>cases r;rfl
  | bl _=>cases r;rfl
  | int _=>obtain⟨t,rfl⟩:=r;rfl
  | str _=>obtain⟨t,rfl⟩:=r;rfl
  | byt _=>obtain⟨t,rfl⟩:=r;rfl
  | flt _=>obtain⟨t,rfl⟩:=r;rfl
  | ref _=>cases r;rfl
  | ty _=>cases r;rfl
theorem RelV.inj {x y:V} {u:Value} (r:RelV x u) (q:RelV y u):x = y:=Option.some.inj (r.abs.symm.trans q.abs)
theorem Vals.inj:∀{xs ys:List V} {us:List Value},Vals xs us→Vals ys us→xs = ys
  | _,_,_,.nil,.nil=>rfl
  | _,_,_,.cons r t,.cons r' t'=>by rw [r.inj r',Vals.inj t t']
section
variable {X:Cx} {pins:List (Addr×Obj)} {σ:St} {H:Hp} {s:Shared} {a:Addr} {xs ys:List V}
theorem SqL.of {K:PySem.W.Frag} (h:H a = some (.lst xs)):SqL K H a xs:= .inl (.inl h)
theorem SqT.of {K:PySem.W.Frag} (h:H a = some (.tup xs)):SqT K H a xs:= .inl (.inl h)
theorem Inv.list (I:Inv X pins σ H s) (h:SqL X.K H a xs):∃its:List Value,Vals xs its∧PlainL s.heap a its.toArray∧xs.length≤sizeLine:=by
  rcases h with h | ⟨o,its,n,hk,hc,hd,hs,hz,r⟩
  · obtain⟨z,its,n,r,e⟩:=h.ok I.hok
    exact⟨its,r,⟨_,n,e,rfl,rfl,rfl⟩,z⟩
  · refine⟨its.toList,r,⟨o,n,I.kIn a o hk,hc,hd,by simpa using hs⟩,?_⟩
    have e:=r.length
    simp only [Array.length_toList] at e
    omega
theorem Inv.tuple (I:Inv X pins σ H s) (h:SqT X.K H a xs):∃its:List Value,Vals xs its∧IsTup s.heap a its.toArray∧xs.length≤sizeLine:=by
  rcases h with h | ⟨o,its,n,hk,hc,hs,hz,r⟩
  · obtain⟨z,its,r,p⟩:=h.ok I.hok
    exact⟨its,r,p,z⟩
  · refine⟨its.toList,r,⟨o,I.kIn a o hk,hc,n,by simpa using hs⟩,?_⟩
    have e:=r.length
    simp only [Array.length_toList] at e
    omega
theorem Inv.list_inj (I:Inv X pins σ H s) (h:SqL X.K H a xs) (h':SqL X.K H a ys):xs = ys:=by
  obtain⟨its,r,⟨o,n,e,_,_,d⟩,_⟩:=I.list h
  obtain⟨its',r',⟨o',n',e',_,_,d'⟩,_⟩:=I.list h'
  rw [e] at e';cases e'
  rw [d] at d'
  injection d' with d1 _
  have:its = its':=by simpa using congrArg Array.toList d1
  subst this
  exact r.inj r'
end
abbrev Cx.wish (X:Cx) (E:Value→Shared→Prop):Cx:={ X with xe:=E }
abbrev Cx.nox (X:Cx):Cx:=X.wish fun _ _=>False
theorem Cx.Ok.wish {X:Cx} (ok:X.Ok) (E:Value→Shared→Prop):(X.wish E).Ok:=
  ⟨ok.mod,ok.kind,ok.glob,ok.blt,ok.above,ok.inj,ok.has,ok.cab,ok.hd,ok.frames,ok.stk,ok.exf,ok.bs,ok.bsz,ok.noex,ok.exfs,ok.funs,ok.frf⟩
theorem Cx.Ok.unwish {X:Cx} {E:Value→Shared→Prop} (ok:(X.wish E).Ok):X.Ok:=
  ⟨ok.mod,ok.kind,ok.glob,ok.blt,ok.above,ok.inj,ok.has,ok.cab,ok.hd,ok.frames,ok.stk,ok.exf,ok.bs,ok.bsz,ok.noex,ok.exfs,ok.funs,ok.frf⟩
section
variable {X:Cx} {pins:List (Addr×Obj)} {σ:St} {H:Hp} {s:Shared} {E:Value→Shared→Prop}
theorem Inv.wish (I:Inv X pins σ H s) (E:Value→Shared→Prop):Inv (X.wish E) pins σ H s:=⟨I.ok.wish E,I.os,I.bare,I.base,I.loc,I.cell,I.free,I.freeC,I.pin,I.hok,I.len⟩
theorem Inv.unwish (I:Inv (X.wish E) pins σ H s):Inv X pins σ H s:=⟨I.ok.unwish,I.os,I.bare,I.base,I.loc,I.cell,I.free,I.freeC,I.pin,I.hok,I.len⟩
theorem SP.unwish {D:Ends} {f:Flow} {s':Shared} (h:SP (X.wish E) pins D f s'):SP X pins D f s':=by
  cases f with
  | next=>obtain⟨σ',H',I,q⟩:=h;exact⟨σ',H',I.unwish,q⟩
  | brk=>obtain⟨σ',H',I,q⟩:=h;exact⟨σ',H',I.unwish,q⟩
  | cont=>obtain⟨σ',H',I,q⟩:=h;exact⟨σ',H',I.unwish,q⟩
  | ret u=>obtain⟨v,σ',H',I,r,q⟩:=h;exact⟨v,σ',H',I.unwish,r,q⟩
theorem PSs.nox {st:List Stmt} {t:TS} (h:PSs X.nox st t):PSs X st t:=fun pins s σ H D I hw=>
  wpAny_mono (h pins s σ H D (I.wish _) hw) (fun _ _ q=>q.unwish) fun _ _ z=>False.elim z
end
section
variable {X:Cx} {st:Stmt} {rest:List Stmt} {t u:TS} {e:Expr} {te:TE} {pos:Pos}
def tNext:TS:=fun D σ H=>D.nx σ H
def tSeq (t u:TS):TS:=fun D σ H=>t { D with nx:=u D } σ H
theorem pss_nil:PSs X [] tNext:=fun _ _ σ H _ I h=>wpAny_execs_nil ⟨σ,H,I,h⟩
theorem pss_cons (h1:PS X st t) (h2:PSs X rest u):PSs X (st :: rest) (tSeq t u):=by
  intro pins s σ H D I h
  refine wpAny_execs_cons (thn (h1 pins s σ H { D with nx:=u D } I h) fun f s1 q=>?_)
  cases f with
  | next=>
    obtain⟨σ',H',I',q⟩:=q
    exact h2 pins s1 σ' H' D I' q
  | ret v=>exact q
  | brk=>exact q
  | cont=>exact q
theorem pss_one (h1:PS X st t):PSs X [st] t:=by
  intro pins s σ H D I h
  refine wpAny_execs_cons (thn (h1 pins s σ H D I h) fun f s1 q=>?_)
  cases f with
  | next=>exact wpAny_execs_nil q
  | ret v=>exact q
  | brk=>exact q
  | cont=>exact q
def tBreak:TS:=fun D σ H=>D.bk σ H
def tCont:TS:=fun D σ H=>D.ct σ H
theorem Inv.quiet {pins:List (Addr×Obj)} {σ:St} {H:Hp} {s:Shared} (I:Inv X pins σ H s):interactive X.env = false:=by simp [interactive,I.ok.kind]
def tDrop (te:TE):TS:=fun D σ H=>te σ H fun _ H1=>D.nx σ H1
theorem ps_expr (he:PE X e te) (hs:swapsWith e none pos.line X.env = pure false:=by rfl):PS X (.Expr e pos) (tDrop te):=by
  intro pins s σ H D I h
  exact wpAny_Expr_any (thn (he pins s σ H _ I h) fun v s1 ⟨x,H1,I1,r1,q1⟩=>⟨σ,H1,I1,q1⟩) I.quiet hs
def tRet (te:TE):TS:=fun D σ H=>te σ H D.rt
theorem ps_ret (he:PE X e te):PS X (.Return (some e) pos) (tRet te):=by
  intro pins s σ H D I h
  exact wpAny_Return_some (thn (he pins s σ H _ I h) fun v s1 ⟨x,H1,I1,r1,q1⟩=>⟨x,σ,H1,I1,r1,q1⟩)
def tRetN:TS:=fun D _ H=>D.rt .non H
def tIfS (c:TT) (t u:TS):TS:=fun D σ H=>c σ H fun b H1=>if b = true then t D σ H1 else u D σ H1
theorem ps_if {c:Expr} {a b:List Stmt} {tc:TT} (hc:PT X c tc) (ha:PSs X a t) (hb:PSs X b u):PS X (.If c a b pos) (tIfS tc t u):=by
  intro pins s σ H D I h
  refine wpAny_If (thn (hc pins s σ H _ I h) fun d s1 ⟨H1,I1,q1⟩=>?_)
  cases d with
  | true=>exact ha pins s1 σ H1 D I1 q1
  | false=>exact hb pins s1 σ H1 D I1 q1
def tNever:TS:=fun _ _ _=>False
end
abbrev TG:=V→St→Hp→(St→Hp→Prop)→Prop
abbrev TGs:=List V→St→Hp→(St→Hp→Prop)→Prop
def PG (X:Cx) (target:Expr) (t:TG):Prop:=
  ∀ (pins:List (Addr×Obj)) (s:Shared) (σ:St) (H:Hp) (v:V) (u:Value) (Q:St→Hp→Prop),Inv X pins σ H s→RelV v u→t v σ H Q→
    wpAny (model X.prog X.w) X.A (assign target X.env u) (fun _ s'=>∃σ' H',Inv X pins σ' H' s'∧Q σ' H') X.xe s
def PGs (X:Cx) (ts:List Expr) (t:TGs):Prop:=
  ∀ (pins:List (Addr×Obj)) (s:Shared) (σ:St) (H:Hp) (vs:List V) (us:List Value) (Q:St→Hp→Prop),Inv X pins σ H s→Vals vs us→t vs σ H Q→
    wpAny (model X.prog X.w) X.A (assignInOrder ((assignEach ts X.env).map (·.2)) us) (fun _ s'=>∃σ' H',Inv X pins σ' H' s'∧Q σ' H') X.xe s
abbrev TSet:=V→V→V→Hp→(Hp→Prop)→Prop
def PSet (X:Cx) (t:TSet):Prop:=
  ∀ (pins:List (Addr×Obj)) (s:Shared) (σ:St) (H:Hp) (o i v:V) (ov iv u:Value) (Q:Hp→Prop),Inv X pins σ H s→RelV o ov→RelV i iv→RelV v u→t o i v H Q→
    wpAny (model X.prog X.w) X.A (setItem ov iv u) (fun _ s'=>∃H',Inv X pins σ H' s'∧Q H') X.xe s
abbrev TIp:=V→V→Hp→VK→Prop
def PIp (X:Cx) (op:Operator) (t:TIp):Prop:=
  ∀ (pins:List (Addr×Obj)) (s:Shared) (σ:St) (H:Hp) (x y:V) (v u:Value) (Q:VK),Inv X pins σ H s→RelV x v→RelV y u→t x y H Q→
    wpAny (model X.prog X.w) X.A (inplaceOp op v u) (EP X pins σ Q) X.xe s
section
variable {X:Cx} {pos:Pos}
def gName (i:Nat):TG:=fun v σ H Q=>Q (σ.set i (some v)) H
theorem pg_name {i:Nat} {x:Str} (hN:X.N.Nodup) (hi:X.N[i]? = some x) (hx:Loc X.env.scope x) (hf:X.fn x = true∨X.env.scope.names.lookup x = some .local:=by first | exact .inl rfl | exact .inr rfl | assumption):PG X (.Name x pos) (gName i):=by
  intro pins s σ H v u Q I r h
  exact wpAny_assign_Name (store_ok I hN hi hx r (fun s' I'=>⟨_,H,I',h⟩) hf)
def gNil:TGs:=fun vs σ H Q=>vs = []∧Q σ H
def gCons (t:TG) (u:TGs):TGs:=fun vs σ H Q=>∃v r,vs = v :: r∧t v σ H fun σ' H'=>u r σ' H' Q
def gTup (K:PySem.W.Frag) (n:Nat) (t:TGs):TG:=fun v σ H Q=>∃a xs,v = .ref a∧SqT K H a xs∧xs.length = n∧t xs σ H Q
def gSub (to ti:TE) (t:TSet):TG:=fun v σ H Q=>to σ H fun o H1=>ti σ H1 fun i H2=>t o i v H2 fun H3=>Q σ H3
def tAsg (te:TE) (g:TG):TS:=fun D σ H=>te σ H fun x H1=>g x σ H1 D.nx
theorem ps_set {i:Nat} {x:Str} {e:Expr} {te:TE} {pos':Pos} (hN:X.N.Nodup) (hi:X.N[i]? = some x) (hx:Loc X.env.scope x) (he:PE X e te) (hs:swapsWith e (some (.Name x pos')) pos.line X.env = pure false:=by rfl) (hf:X.fn x = true∨X.env.scope.names.lookup x = some .local:=by first | exact .inl rfl | exact .inr rfl | assumption) :
    PS X (.Assign [.Name x pos'] e pos) (tAsg te (gName i)):=by
  intro pins s σ H D I h
  refine wpAny_Assign_Name (thn (he pins s σ H _ I h) fun v s1 ⟨y,H1,I1,r1,q1⟩=>?_) hs
  exact store_ok I1 hN hi hx r1 (fun s2 I2=>⟨_,H1,I2,q1⟩) hf
def tPar (i j:Nat) (ta:TA):TS:=fun D σ H=>ta σ H fun vs H1=>∃v w,vs = [v,w]∧D.nx ((σ.set i (some v)).set j (some w)) H1
def tAug (i:Nat) (te:TE) (ti:TIp):TS:=fun D σ H=>∃x,σ[i]? = some (some x)∧te σ H fun y H1=>ti x y H1 fun z H2=>D.nx (σ.set i (some z)) H2
def tAugS (to ti te:TE) (tget:V→V→Hp→VK→Prop) (tip:TIp) (tset:TSet):TS:=fun D σ H=>to σ H fun o H1=>ti σ H1 fun i H2=>tget o i H2 fun x H3=>te σ H3 fun y H4=>tip x y H4 fun z H5=>tset o i z H5 fun H6=>D.nx σ H6
def PGet (X:Cx) (t:V→V→Hp→VK→Prop):Prop:=
  ∀ (pins:List (Addr×Obj)) (s:Shared) (σ:St) (H:Hp) (o i:V) (ov iv:Value) (Q:VK),Inv X pins σ H s→RelV o ov→RelV i iv→t o i H Q→
    wpAny (model X.prog X.w) X.A (getItem ov iv) (EP X pins σ Q) X.xe s
def ipI (f:Int→Int→Int):TIp:=fun x y H Q=>∃i j,x = .int i∧y = .int j∧Q (.int (f i j)) H
end
section
variable {X:Cx} {pos:Pos}
def tWhile (c:TT) (tb:TS):TS:=fun D σ H=>∃W:Nat→St→Hp→Prop,(∃m,W m σ H)∧∀m σ H,W m σ H→
  c σ H fun b H1=>if b = true then ∃N:St→Hp→Prop,(∀σ' H',N σ' H'→∃m',m' < m∧W m' σ' H')∧tb { D with nx:=N,ct:=N,bk:=D.nx } σ H1 else D.nx σ H1
end
structure It where
  go:Nat→Hp→Prop
  yld:Nat→Hp→V→Hp→Prop
  stop:Nat→Hp→Prop
def FpOk (X:Cx) (pins:List (Addr×Obj)) (H:Hp) (b:Addr):Prop:=
  H b = none∧b≠X.env.locals∧b∉X.fs∧(b∈X.ex∨X.s₀.heap.objs.size≤b)∧(∀x c,X.env.cells.lookup x = some c→c≠b)∧∀p∈X.pn ++ pins,p.1≠b
theorem Inv.fpOk {X:Cx} {pins:List (Addr×Obj)} {σ:St} {H H':Hp} {s:Shared} {b:Addr} (I:Inv X pins σ H s) (hb:s.heap.objs.size≤b) (hn:H' b = none):FpOk X pins H' b:=by
  refine⟨hn,Nat.ne_of_gt (Nat.lt_of_lt_of_le I.lt hb),I.nofs hb,.inr (Nat.le_trans I.sz hb),fun x c e z=>?_,fun p hp z=>?_⟩
  · obtain⟨v,q⟩:=I.cell x c e
    exact absurd (Nat.lt_of_lt_of_le q.lt (by rw [z];exact hb)) (Nat.lt_irrefl _)
  · exact absurd (Nat.lt_of_lt_of_le (Heap.lt_size (I.pin p hp).1) (by rw [z];exact hb)) (Nat.lt_irrefl _)
structure Turn (P:Program) (w:World) (K:PySem.W.Frag) (tg:Expr) (J:It) (fp:List Addr) (it:Addr) (tn:Nat→Heap→Prop):Prop where
  mem:it∈fp
  obj:∀i h,tn i h→∀b∈fp,∃o,h.get? b = some o∧∀v,o.data≠ .cell v
  keep:∀i h h',tn i h→(∀b∈fp,∀o,h.get? b = some o→h'.get? b = some o)→tn i h'
  item :∀(X:Cx),X.prog = P→X.w = w→X.K = K→X.calm = true→∀(i:Nat) (pins:List (Addr×Obj)) (s:Shared) (σ:St) (H:Hp) (E:Value→Shared→Prop),Inv X pins σ H s→(∀b∈fp,FpOk X pins H b)→tn i s.heap→J.go i H→
    wpAny (model P w) X.A (pyNext (.ref it)) (fun r s1=>∃u,r = some u∧
      wpAny (model P w) X.A (letOwnedTupleGo tg (.ref it) u) (fun _ s2=>∃x H',Inv X pins σ H' s2∧RelV x u∧J.yld i H x H'∧tn (i + 1) s2.heap∧∀b∈fp,H' b = none) E s1) E s
  done:∀(X:Cx),X.prog = P→X.w = w→X.K = K→X.calm = true→∀(i:Nat) (pins:List (Addr×Obj)) (s:Shared) (σ:St) (H:Hp) (E:Value→Shared→Prop),Inv X pins σ H s→(∀b∈fp,FpOk X pins H b)→tn i s.heap→J.stop i H→
    wpAny (model P w) X.A (pyNext (.ref it)) (fun r s1=>r = none∧Inv X pins σ H s1) E s
  self:∀(A:Around) (i:Nat) (s:Shared) (Q:Value→Shared→Prop) (E:Value→Shared→Prop),tn i s.heap→Q (.ref it) s→wpAny (model P w) A (pyIter (.ref it)) Q E s
abbrev TI:=St→Hp→(It→Hp→Prop)→Prop
def PIE (X:Cx) (pins:List (Addr×Obj)) (σ:St) (tg:Expr) (R:It→Hp→Prop) (itv:Value) (s2:Shared):Prop:=
  ∃(it:Addr) (fp:List Addr) (tn:Nat→Heap→Prop) (J:It) (H':Hp),itv = .ref it∧Inv X pins σ H' s2∧Turn X.prog X.w X.K tg J fp it tn∧tn 0 s2.heap∧(∀b∈fp,FpOk X pins H' b)∧R J H'
def PI (X:Cx) (tg iter:Expr) (wi:TI):Prop:=
  ∀ (pins:List (Addr×Obj)) (s:Shared) (σ:St) (H:Hp) (R:It→Hp→Prop),Inv X pins σ H s→wi σ H R→
    wpAny (model X.prog X.w) X.A (eval iter X.env) (fun v s1=>wpAny (model X.prog X.w) X.A (pyIter v) (PIE X pins σ tg R) X.xe s1) X.xe s
theorem go_of {M:Model} {A:Around} {E:Value→Shared→Prop} {s:Shared} {tg:Expr} {it:Addr} {u:Value} {o:Obj} {n:String} {vs:Array Value} {Q:Unit→Shared→Prop} (ho:s.heap.get? it = some o) (hc:o.cls = .type n) (hd:o.data = .fields vs)
    (hn:["enumerate","zip","dict_itemiterator","dict_reverseitemiterator","odict_iterator","itertools.zip_longest","itertools.pairwise"].contains n = false) (hQ:Q () s):wpAny M A (letOwnedTupleGo tg (.ref it) u) Q E s:=by
  unfold letOwnedTupleGo
  cases tg <;> first
    | exact wpAny_pure hQ
    | (cases u <;> first
        | exact wpAny_pure hQ
        | (refine wpAny_bind (wpAny_load ho ?_)
           rw [hc,hd]
           show wpAny M A (if (["enumerate","zip","dict_itemiterator","dict_reverseitemiterator","odict_iterator","itertools.zip_longest","itertools.pairwise"].contains n && vs[0]? == some (rawInt _)) = true then _ else _) Q E s
           rw [if_neg (by intro h;rw [hn,Bool.false_and] at h;cases h)]
           exact wpAny_pure hQ))
def Itl (K:PySem.W.Frag) (a:Addr):It:=
  ⟨fun i H=>∃xs x,SqL K H a xs∧xs[i]? = some x,fun i H x H'=>H' = H∧∀xs,SqL K H a xs→xs[i]? = some x,fun i H=>∃xs,SqL K H a xs∧xs.length≤i⟩
def Itt (K:PySem.W.Frag) (a:Addr):It:=
  ⟨fun i H=>∃xs x,SqT K H a xs∧xs[i]? = some x,fun i H x H'=>H' = H∧∀xs,SqT K H a xs→xs[i]? = some x,fun i H=>∃xs,SqT K H a xs∧xs.length≤i⟩
def Itr (lo:Int) (n:Nat):It:=⟨fun i _=>i < n,fun i H x H'=>H' = H∧x = .int (lo + i),fun i _=>n≤i⟩
theorem turn_list {P:Program} {w:World} {K:PySem.W.Frag} {tg:Expr} (a it:Addr):Turn P w K tg (Itl K a) [it] it (fun i h=>h.IsListIter it a i) where
  mem:=by simp
  obj:=fun i h st b hb=>by
    have e:b = it:=by simpa using hb
    subst e
    obtain⟨o,e,c,d⟩:=st
    exact⟨o,e,fun v z=>by rw [d] at z;cases z⟩
  keep:=fun i h h' st k=>st.at fun o e=>k it (by simp) o e
  item:=by
    intro X hP hw hK hc i pins s σ H E I hf st hg
    subst hP hw hK
    obtain⟨xs,x,hq,hx⟩:=hg
    obtain⟨its,rv,p,hz⟩:=I.list hq
    obtain⟨u,hu,ru⟩:=rv.get hx
    obtain⟨f0,f1,f2,f3,f4,f5⟩:=hf it (by simp)
    refine wpAny_pyNext_list_item st p.isList (x:=u) (by simpa using hu) fun h' st' sb=>?_
    have I1:Inv X pins σ H { s with heap:=h' }:=I.turned (t':=s.toks) (fun b o hb e=>(sb.2 b hb).trans e) f0 f1 f3 f4 f5
    obtain⟨o,e,c,d⟩:=id st'
    exact⟨u,rfl,go_of (s:={ s with heap:=h' }) e c d (by decide) ⟨x,H,I1,ru,⟨rfl,fun ys hy=>by rw [I.list_inj hy hq];exact hx⟩,st',fun b hb=>(hf b hb).1⟩⟩
  done:=by
    intro X hP hw hK hc i pins s σ H E I hf st hg
    subst hP hw hK
    obtain⟨xs,hq,hx⟩:=hg
    obtain⟨its,rv,p,hz⟩:=I.list hq
    obtain⟨f0,f1,f2,f3,f4,f5⟩:=hf it (by simp)
    have hl:=rv.length
    exact wpAny_pyNext_list_end (I.ok.hd hc) st p.isList (by simp;omega) fun h' eb=>⟨rfl,I.turned (t':=s.toks) (fun b o hb e=>eb b o hb e) f0 f1 f3 f4 f5⟩
  self:=fun _ _ _ _ _ st h=>wpAny_pyIter_listiter st h
theorem turn_range {P:Program} {w:World} {K:PySem.W.Frag} {tg:Expr} (it:Addr) (lo:Int) (n:Nat):Turn P w K tg (Itr lo n) [it] it (fun i h=>IsRangeIter h it (lo + (i:Nat) * 1) ((n:Int) - (i:Nat)) 1) where
  mem:=by simp
  obj :=fun i h st b hb=>by
    have e:b = it:=by simpa using hb
    subst e
    exact⟨_,st,fun v z=>by
      have z':Data.fields _ = Data.cell v:=z
      cases z'⟩
  keep:=fun i h h' st k=>k it (by simp) _ st
  item:=by
    intro X hP hw hK hc i pins s σ H E I hf st hg
    subst hP hw hK
    obtain⟨f0,f1,f2,f3,f4,f5⟩:=hf it (by simp)
    have W:=Walks.range (prog:=X.prog) (w:=X.w) (I.ok.hd hc) it lo 1 n
    refine W.item i s _ _ hg st fun v h' tk hv st' kk=>?_
    obtain⟨t,rfl⟩:=hv
    have I1:Inv X pins σ H { s with heap:=h',toks:=tk }:=I.turned (fun b o hb e=>kk b o (by simpa using hb) e) f0 f1 f3 f4 f5
    refine⟨_,rfl,go_of (s:={ s with heap:=h',toks:=tk }) (n:="range_iterator") st' rfl rfl (by decide) ⟨.int (lo + i),H,I1,⟨t,?_⟩,⟨rfl,rfl⟩,st',fun b hb=>(hf b hb).1⟩⟩
    rw [Int.mul_one]
  done:=by
    intro X hP hw hK hc i pins s σ H E I hf st hg
    subst hP hw hK
    obtain⟨f0,f1,f2,f3,f4,f5⟩:=hf it (by simp)
    exact wpAny_pyNext_range_end (I.ok.hd hc) st (by have:n≤i:=hg;omega) fun h' eb=>⟨rfl,I.turned (t':=s.toks) (fun b o hb e=>eb b o hb e) f0 f1 f3 f4 f5⟩
  self:=fun _ _ _ _ _ st h=>wpAny_pyIter_rangeiter st h
end L2
namespace L2
open PySem PySem.Spec PyProof.Rows
section
variable {X:Cx} {tg:Expr}
def iList (K:PySem.W.Frag) (tl:TE):TI:=fun σ H R=>tl σ H fun x H1=>∃a,x = .ref a∧(∃xs,SqL K H1 a xs)∧R (Itl K a) H1
def iTup (K:PySem.W.Frag) (tl:TE):TI:=fun σ H R=>tl σ H fun x H1=>∃a,x = .ref a∧(∃xs,SqT K H1 a xs)∧R (Itt K a) H1
theorem pi_list {l:Expr} {tl:TE} (hl:PE X l tl):PI X tg l (iList X.K tl):=by
  intro pins s σ H R I h
  refine thn (hl pins s σ H _ I h) fun v s1 ⟨x,H1,I1,r1,q1⟩=>?_
  obtain⟨a,e,⟨xs,hq⟩,q⟩:=q1
  subst e
  cases r1
  obtain⟨its,rv,p,hz⟩:=I1.list hq
  refine wpAny_pyIter_list p.isList ?_
  refine⟨s1.heap.objs.size, [s1.heap.objs.size],_,_,H1,rfl,I1.kept (t':=s1.toks) fun b o e=>Heap.get?_push_of_some _ e,turn_list a _,⟨_,Heap.get?_push_size _ rfl,rfl,rfl⟩,fun b hb=>?_,q⟩
  have e:b = s1.heap.objs.size:=by simpa using hb
  subst e
  exact I1.fpOk (Nat.le_refl _) (I1.hok.fresh (Nat.le_refl _))
theorem range_it {pins:List (Addr×Obj)} {σ:St} {H:Hp} {s:Shared} {R:It→Hp→Prop} {E:Value→Shared→Prop} {lo hi:Int} {t u v:Tok} {tk:Nat} (I:Inv X pins σ H s) (h1: -(2 ^ 62)≤lo) (h2:lo < 2 ^ 62) (h3: -(2 ^ 62)≤hi) (h4:hi < 2 ^ 62)
    (q:R (Itr lo (hi - lo).toNat) H):wpAny (model X.prog X.w) X.A (pyIter (.ref s.heap.objs.size)) (PIE X pins σ tg R) E { s with heap:=s.heap.push { cls:= .type "range",data:= .fields #[.int lo t,.int hi u,.int 1 v] },toks:=tk }:=by
  refine wpAny_pyIter_range (IsRange.new ..) (small_one h1 h2 h3 h4) ?_
  have I1:Inv X pins σ H { s with heap:=s.heap.push { cls:= .type "range",data:= .fields #[.int lo t,.int hi u,.int 1 v] },toks:=tk }:=I.kept fun b o e=>Heap.get?_push_of_some _ e
  refine⟨(s.heap.push { cls:= .type "range",data:= .fields #[.int lo t,.int hi u,.int 1 v] }).objs.size, [(s.heap.push { cls:= .type "range",data:= .fields #[.int lo t,.int hi u,.int 1 v] }).objs.size],_,_,H,rfl,
    I1.kept (t':=tk) fun b o e=>Heap.get?_push_of_some _ e,turn_range _ lo (hi - lo).toNat,?_,fun b hb=>?_,q⟩
  · have e1:lo + ((0:Nat):Int) * 1 = lo:=by simp
    have e2:(((hi - lo).toNat:Nat):Int) - ((0:Nat):Int) = Builtin.Range.rangeSize lo hi 1:=by rw [rangeSize_one];split <;> omega
    show IsRangeIter _ _ (lo + ((0:Nat):Int) * 1) ((((hi - lo).toNat:Nat):Int) - ((0:Nat):Int)) 1
    rw [e1,e2]
    exact Heap.get?_push_size _ rfl
  · have e:b = (s.heap.push { cls:= .type "range",data:= .fields #[.int lo t,.int hi u,.int 1 v] }).objs.size:=by simpa using hb
    subst e
    exact I1.fpOk (Nat.le_refl _) (I1.hok.fresh (Nat.le_refl _))
def iRng1 (ta:TA):TI:=fun σ H R=>ta σ H fun vs H1=>∃j:Int,vs = [.int j]∧ -(2 ^ 62)≤j∧j < 2 ^ 62∧R (Itr 0 j.toNat) H1
def iRng2 (ta:TA):TI:=fun σ H R=>ta σ H fun vs H1=>∃i j:Int,vs = [.int i,.int j]∧(-(2 ^ 62)≤i∧i < 2 ^ 62∧ -(2 ^ 62)≤j∧j < 2 ^ 62)∧R (Itr i (j - i).toNat) H1
theorem pi_range1 {a:Expr} {ta:TA} {p pos:Pos} (hg:Gl X "range") (hm:X.mg "range" = none) (ha:PA X [a] ta) (hs:starEach [a] X.env = [(false,eval a X.env)]:=by rfl):PI X tg (.Call (.Name "range" p) [a] [] pos) (iRng1 ta):=by
  intro pins s σ H R I h
  refine Call_ (ld_blt I hg hm boot_range (PyProof.Rows.callWith_type1 (thn (ha pos pins s σ H _ I h) fun us s1 ⟨vs,H1,I1,r1,q1⟩=>?_) hs rfl))
  obtain⟨j,e,q1,q2,q⟩:=q1
  subst e
  cases r1 with
  | cons r rr=>
    cases rr
    obtain⟨t,rfl⟩:=r
    exact call_range_1 (range_it I1 (by omega) (by omega) q1 q2 (by simpa using q))
def tFor (wi:TI) (g:TG) (tb:TS):TS:=fun D σ H=>wi σ H fun J H1=>∃W:Nat→Nat→St→Hp→Prop,(∃m,W 0 m σ H1)∧∀i m σ H,W i m σ H→
  (J.stop i H∧D.nx σ H)∨(J.go i H∧∃N:St→Hp→Prop,(∀σ' H',N σ' H'→∃m',m' < m∧W (i + 1) m' σ' H')∧∀x H',J.yld i H x H'→g x σ H' fun σ2 H2=>tb { D with nx:=N,ct:=N,bk:=D.nx } σ2 H2)
def pinsAt (fp:List Addr) (h:Heap):List (Addr×Obj):=fp.filterMap fun b=>(h.get? b).map fun o=>(b,o)
theorem mem_pinsAt {fp:List Addr} {h:Heap} {b:Addr} {o:Obj} (hb:b∈fp) (e:h.get? b = some o):(b,o)∈pinsAt fp h:=List.mem_filterMap.mpr ⟨b,hb,by rw [e];rfl⟩
theorem of_pinsAt {fp:List Addr} {h:Heap} {p:Addr×Obj} (hp:p∈pinsAt fp h):p.1∈fp∧h.get? p.1 = some p.2:=by
  obtain⟨b,hb,e⟩:=List.mem_filterMap.mp hp
  cases q:h.get? b with
  | none=>rw [q] at e;cases e
  | some o=>
    rw [q] at e
    have e':(b,o) = p:=Option.some.inj e
    subst e'
    exact⟨hb,q⟩
theorem Inv.pinned {pins:List (Addr×Obj)} {σ:St} {H:Hp} {s:Shared} {fp:List Addr} (I:Inv X pins σ H s) (hf:∀b∈fp,FpOk X pins H b) (ho:∀b∈fp,∃o,s.heap.get? b = some o∧∀v,o.data≠ .cell v):Inv X (pins ++ pinsAt fp s.heap) σ H s:=
  I.pins_of fun p hp=>(List.mem_append.mp hp).elim (fun z=>I.pin p (List.mem_append_right _ z)) fun z=>by
    obtain⟨hb,e⟩:=of_pinsAt z
    obtain⟨f0,f1,f2,_⟩:=hf p.1 hb
    obtain⟨o,e',d⟩:=ho p.1 hb
    rw [e] at e';cases e'
    exact⟨e,f0,f1,f2,d⟩
theorem Inv.unpinned {pins pl:List (Addr×Obj)} {σ:St} {H:Hp} {s:Shared} (I:Inv X (pins ++ pl) σ H s):Inv X pins σ H s:=I.pins_of fun p hp=>I.pin p (List.mem_append_right _ (List.mem_append_left _ hp))
theorem ps_for {iter:Expr} {body:List Stmt} {wi:TI} {g:TG} {tb:TS} {pos:Pos} (hp:PassesOwn (model X.prog X.w) X.A X.env X.xe) (hc:X.calm = true) (hi:PI X tg iter wi) (hg:PG X tg g) (hb:PSs X body tb)
    (hs:∀x,foldedSetIterable iter X.env x = pure x:=by intro _;rfl):PS X (.For tg iter body [] pos) (tFor wi g tb):=by
  intro pins s σ H D I h
  refine wpAny_For (thn (hi pins s σ H _ I h) fun v s1 h1=>thn h1 fun itv s2 h2=>?_) hs
  obtain⟨it,fp,tn,J,H2,e,I2,T,st2,f2,W,⟨m0,w0⟩,turn⟩:=h2
  subst e
  have stat:∀{H':Hp},(∀b∈fp,H' b = none)→∀b∈fp,FpOk X pins H' b:=fun hn b hb=>⟨hn b hb,(f2 b hb).2⟩
  refine codeAny_forLoop_any (fun n s'=>∃i σ' H',Inv X pins σ' H' s'∧tn i s'.heap∧(∀b∈fp,H' b = none)∧W i n σ' H') ?_ m0 ⟨0,σ,H2,I2,st2,fun b hb=>(f2 b hb).1,w0⟩
  rintro n s3 ⟨i,σ3,H3,I3,st3,fr3,w3⟩
  rcases turn i n σ3 H3 w3 with ⟨stop,qn⟩ | ⟨go,N,hN,step⟩
  · refine wpAny_passesOwn hp (thn (T.done X rfl rfl rfl hc i pins s3 σ3 H3 X.xe I3 (stat fr3) st3 stop) fun r s4 ⟨hr,I4⟩=>?_)
    subst hr
    exact wpAny_execs_nil ⟨σ3,H3,I4,qn⟩
  · refine wpAny_passesOwn hp (thn (T.item X rfl rfl rfl hc i pins s3 σ3 H3 X.xe I3 (stat fr3) st3 go) fun r s4 ⟨u,hr,h4⟩=>?_)
    subst hr
    refine wpAny_passesOwn hp (thn h4 fun _ s5 ⟨x,H5,I5,r5,y5,st5,fr5⟩=>?_)
    have I5':=I5.pinned (stat fr5) (T.obj _ _ st5)
    refine wpAny_passesOwn hp (thn (hg _ s5 σ3 H5 x u _ I5' r5 (step x H5 y5)) fun _ s6 ⟨σ6,H6,I6,q6⟩=>?_)
    refine wpAny_passesOwn hp (thn (hb _ s6 σ6 H6 _ I6 q6) fun f s7 q7=>?_)
    have again:∀{σ7:St} {H7:Hp},Inv X (pins ++ pinsAt fp s5.heap) σ7 H7 s7→N σ7 H7→∃m,m < n∧∃i σ' H',Inv X pins σ' H' s7∧tn i s7.heap∧(∀b∈fp,H' b = none)∧W i m σ' H':=fun {σ7 H7} I7 n7=>by
      obtain⟨m',hm,w7⟩:=hN σ7 H7 n7
      refine⟨m',hm,i + 1,σ7,H7,I7.unpinned,T.keep _ _ _ st5 fun b hb o e=>(I7.pin (b,o) (List.mem_append_right _ (List.mem_append_right _ (mem_pinsAt hb e)))).1,fun b hb=>?_,w7⟩
      obtain⟨o,e,d⟩:=T.obj _ _ st5 b hb
      exact(I7.pin (b,o) (List.mem_append_right _ (List.mem_append_right _ (mem_pinsAt hb e)))).2.1
    cases f with
    | next=>obtain⟨σ7,H7,I7,n7⟩:=q7;exact again I7 n7
    | cont=>obtain⟨σ7,H7,I7,n7⟩:=q7;exact again I7 n7
    | brk=>obtain⟨σ7,H7,I7,q7⟩:=q7;exact⟨σ7,H7,I7.unpinned,q7⟩
    | ret v=>obtain⟨x7,σ7,H7,I7,r7,q7⟩:=q7;exact⟨x7,σ7,H7,I7.unpinned,r7,q7⟩
end
theorem for_list {K:PySem.W.Frag} {a:Addr} {xs:List V} {g:TG} {tb:TS} {D:Ends} {σ:St} {H:Hp} (Pv:Nat→St→Hp→Prop) (h0:Pv 0 σ H) (hl:∀i σ H,i≤xs.length→Pv i σ H→SqL K H a xs)
    (hs:∀i x σ H,xs[i]? = some x→Pv i σ H→g x σ H fun σ2 H2=>tb { D with nx:=Pv (i + 1),ct:=Pv (i + 1),bk:=D.nx } σ2 H2) (hd:∀σ H,Pv xs.length σ H→D.nx σ H) :
    ∃ W:Nat→Nat→St→Hp→Prop,(∃m,W 0 m σ H)∧∀i m σ H,W i m σ H→
      ((Itl K a).stop i H∧D.nx σ H)∨((Itl K a).go i H∧∃N:St→Hp→Prop,(∀σ' H',N σ' H'→∃m',m' < m∧W (i + 1) m' σ' H')∧∀x H',(Itl K a).yld i H x H'→g x σ H' fun σ2 H2=>tb { D with nx:=N,ct:=N,bk:=D.nx } σ2 H2):=by
  refine⟨fun i m σ H=>m = xs.length - i∧i≤xs.length∧Pv i σ H,⟨xs.length,by simp,Nat.zero_le _,h0⟩,?_⟩
  rintro i m σ H ⟨rfl,hi,p⟩
  have q:=hl i σ H hi p
  by_cases hlt:i < xs.length
  · refine .inr ⟨⟨xs,xs[i],q,by simp [hlt]⟩,Pv (i + 1),fun σ' H' p'=>⟨xs.length - (i + 1),by omega,rfl,hlt,p'⟩,fun x H' y=>?_⟩
    obtain⟨e,y⟩:=y
    subst e
    exact hs i x σ _ (y xs q) p
  · have e:i = xs.length:=by omega
    subst e
    exact .inl ⟨⟨xs,q,Nat.le_refl _⟩,hd σ H p⟩
theorem for_range {lo:Int} {n:Nat} {g:TG} {tb:TS} {D:Ends} {σ:St} {H:Hp} (Pv:Nat→St→Hp→Prop) (h0:Pv 0 σ H)
    (hs:∀i σ H,i < n→Pv i σ H→g (.int (lo + i)) σ H fun σ2 H2=>tb { D with nx:=Pv (i + 1),ct:=Pv (i + 1),bk:=D.nx } σ2 H2) (hd:∀σ H,Pv n σ H→D.nx σ H) :
    ∃ W:Nat→Nat→St→Hp→Prop,(∃m,W 0 m σ H)∧∀i m σ H,W i m σ H→
      ((Itr lo n).stop i H∧D.nx σ H)∨((Itr lo n).go i H∧∃N:St→Hp→Prop,(∀σ' H',N σ' H'→∃m',m' < m∧W (i + 1) m' σ' H')∧∀x H',(Itr lo n).yld i H x H'→g x σ H' fun σ2 H2=>tb { D with nx:=N,ct:=N,bk:=D.nx } σ2 H2):=by
  refine⟨fun i m σ H=>m = n - i∧i≤n∧Pv i σ H,⟨n,by simp,Nat.zero_le _,h0⟩,?_⟩
  rintro i m σ H ⟨rfl,hi,p⟩
  by_cases hlt:i < n
  · refine .inr ⟨hlt,Pv (i + 1),fun σ' H' p'=>⟨n - (i + 1),by omega,rfl,hlt,p'⟩,fun x H' y=>?_⟩
    obtain⟨e,y⟩:=y
    subst e y
    exact hs i σ _ hlt p
  · have e:i = n:=by omega
    subst e
    exact .inl ⟨Nat.le_refl _,hd σ H p⟩
end L2
namespace L2
open PySem PySem.Spec PyProof.Rows
abbrev R2:=V→V→Hp→VK→Prop
def OpR (X:Cx) (f:Value→Value→Sem Value) (r:R2):Prop:=
  ∀ (pins:List (Addr×Obj)) (s:Shared) (σ:St) (H:Hp) (x y:V) (v u:Value) (Q:VK),Inv X pins σ H s→RelV x v→RelV y u→r x y H Q→
    wpAny (model X.prog X.w) X.A (f v u) (EP X pins σ Q) X.xe s
def UnR (X:Cx) (f:Value→Sem Value) (r:V→Hp→VK→Prop):Prop:=
  ∀ (pins:List (Addr×Obj)) (s:Shared) (σ:St) (H:Hp) (x:V) (v:Value) (Q:VK),Inv X pins σ H s→RelV x v→r x H Q→
    wpAny (model X.prog X.w) X.A (f v) (EP X pins σ Q) X.xe s
def CallR (X:Cx) (f:Value) (r:List V→Hp→VK→Prop):Prop:=
  ∀ (pins:List (Addr×Obj)) (s:Shared) (σ:St) (H:Hp) (xs:List V) (us:List Value) (Q:VK),Inv X pins σ H s→Vals xs us→r xs H Q→
    wpAny (model X.prog X.w) X.A (call f us) (EP X pins σ Q) X.xe s
def TruR (X:Cx) (r:V→Hp→(Bool→Hp→Prop)→Prop):Prop:=
  ∀ (pins:List (Addr×Obj)) (s:Shared) (σ:St) (H:Hp) (x:V) (v:Value) (Q:Bool→Hp→Prop),Inv X pins σ H s→RelV x v→r x H Q→
    wpAny (model X.prog X.w) X.A (truthy v) (TP X pins σ Q) X.xe s
def tOp (r:R2) (ta tb:TE):TE:=fun σ H Q=>ta σ H fun x H1=>tb σ H1 fun y H2=>r x y H2 Q
def tUn (r:V→Hp→VK→Prop) (ta:TE):TE:=fun σ H Q=>ta σ H fun x H1=>r x H1 Q
def rI (C:Int→Int→Prop) (g:Int→Int→V):R2:=fun x y H Q=>∃i j,x = .int i∧y = .int j∧C i j∧Q (g i j) H
def rI0 (g:Int→Int→V):R2:=fun x y H Q=>∃i j,x = .int i∧y = .int j∧Q (g i j) H
def rU (g:Int→V):V→Hp→VK→Prop:=fun x H Q=>∃i,x = .int i∧Q (g i) H
section
variable {X:Cx} {a b c:Expr} {ta tb tc:TE} {pos:Pos}
theorem binT (ha:PE X a ta) (hb:PE X b tb) {pins:List (Addr×Obj)} {s:Shared} {σ:St} {H:Hp} {R:V→V→Hp→Prop} (I:Inv X pins σ H s)
    (h:ta σ H fun x H1=>tb σ H1 fun y H2=>R x y H2) {Q:Value→Shared→Prop} {f:Value→Value→Sem Value}
    (hf:∀v u s2 x y H2,Inv X pins σ H2 s2→RelV x v→RelV y u→R x y H2→wpAny (model X.prog X.w) X.A (f v u) Q X.xe s2) :
    wpAny (model X.prog X.w) X.A (eval a X.env) (fun v s₁=>wpAny (model X.prog X.w) X.A (eval b X.env) (fun u s₂=>wpAny (model X.prog X.w) X.A (f v u) Q X.xe s₂) X.xe s₁) X.xe s:=by
  refine thn (ha pins s σ H _ I h) fun v s1 ⟨x,H1,I1,r1,q1⟩=>?_
  refine thn (hb pins s1 σ H1 _ I1 q1) fun u s2 ⟨y,H2,I2,r2,q2⟩=>?_
  exact hf v u s2 x y H2 I2 r1 r2 q2
theorem pe_op {op:Operator} {r:R2} (ho:OpR X (binaryOp op) r) (ha:PE X a ta) (hb:PE X b tb):PE X (.BinOp a op b pos) (tOp r ta tb):=by
  intro pins s σ H Q I h
  exact wpAny_BinOp (binT ha hb I h fun v u s2 x y H2 I2 rx ry q=>ho pins s2 σ H2 x y v u Q I2 rx ry q)
theorem opI {f:Value→Value→Sem Value} {C:Int→Int→Prop} {g:Int→Int→Int}
    (rule:∀(i j:Int) (t u:Tok) (s:Shared) (Q:Value→Shared→Prop) (E:Value→Shared→Prop),C i j→Q (.int (g i j) s.toks) { s with toks:=s.toks + 1 }→wpAny (model X.prog X.w) X.A (f (.int i t) (.int j u)) Q E s) :
    OpR X f (rI C fun i j=> .int (g i j)):=by
  intro pins s σ H x y v u Q I rx ry h
  obtain⟨i,j,rfl,rfl,hc,q⟩:=h
  obtain⟨t,rfl⟩:=rx
  obtain⟨t',rfl⟩:=ry
  exact rule i j t t' s _ _ hc ⟨.int (g i j),H,I.tok _,⟨_,rfl⟩,q⟩
theorem opI0 {f:Value→Value→Sem Value} {g:Int→Int→Int}
    (rule:∀(i j:Int) (t u:Tok) (s:Shared) (Q:Value→Shared→Prop) (E:Value→Shared→Prop),Q (.int (g i j) s.toks) { s with toks:=s.toks + 1 }→wpAny (model X.prog X.w) X.A (f (.int i t) (.int j u)) Q E s) :
    OpR X f (rI0 fun i j=> .int (g i j)):=by
  intro pins s σ H x y v u Q I rx ry h
  obtain⟨i,j,rfl,rfl,q⟩:=h
  obtain⟨t,rfl⟩:=rx
  obtain⟨t',rfl⟩:=ry
  exact rule i j t t' s _ _ ⟨.int (g i j),H,I.tok _,⟨_,rfl⟩,q⟩
theorem opB0 {f:Value→Value→Sem Value} {g:Int→Int→Bool}
    (rule:∀(i j:Int) (t u:Tok) (s:Shared) (Q:Value→Shared→Prop) (E:Value→Shared→Prop),Q (.bool (g i j)) s→wpAny (model X.prog X.w) X.A (f (.int i t) (.int j u)) Q E s) :
    OpR X f (rI0 fun i j=> .bl (g i j)):=by
  intro pins s σ H x y v u Q I rx ry h
  obtain⟨i,j,rfl,rfl,q⟩:=h
  obtain⟨t,rfl⟩:=rx
  obtain⟨t',rfl⟩:=ry
  exact rule i j t t' s _ _ ⟨.bl (g i j),H,I,rfl,q⟩
def CDiv (i j:Int):Prop:=0 < j∧j < 1073741824
def CDivN (i j:Int):Prop:=j≠0∧j.natAbs < 1073741824
def CPow (i j:Int):Prop:=0≤j∧j≤1000000∧i.natAbs < 2 ^ 64
def CMul (i j:Int):Prop:=(-(2 ^ 64) < i∧i < 2 ^ 64)∨(-(2 ^ 64) < j∧j < 2 ^ 64)
theorem op_add:OpR X (binaryOp .Add) (rI0 fun i j=> .int (i + j)):=opI0 fun _ _ _ _ _ _ _ q=>add_int q
theorem op_sub:OpR X (binaryOp .Sub) (rI0 fun i j=> .int (i - j)):=opI0 fun _ _ _ _ _ _ _ q=>sub_int q
theorem op_fdiv:OpR X (binaryOp .FloorDiv) (rI CDiv fun i j=> .int (i / j)):=opI fun i j _ _ _ _ _ hc q=>by
  have h1:(0:Int) < j:=hc.1
  have h2:j < 1073741824:=hc.2
  exact floordiv_int (by omega) (by rw [Int.fdiv_eq_ediv_of_nonneg i (by omega)];exact q) (.inl (PyProof.noPylong_small (by omega)))
theorem op_mod:OpR X (binaryOp .Mod) (rI (fun _ j=>0 < j) fun i j=> .int (i % j)):=opI fun i j _ _ _ _ _ hc q=>by
  have h1:(0:Int) < j:=hc
  exact mod_int' (by omega) (by rw [Int.fmod_eq_emod_of_nonneg i (by omega)];exact q)
theorem op_pow:OpR X (binaryOp .Pow) (rI CPow fun i j=> .int (i ^ j.toNat)):=opI fun _ _ _ _ _ _ _ hc q=>pow_int_small hc.1 hc.2.1 hc.2.2 q
end
def scal:V→V→Bool
  | .non,.non=>true | .non,.int _=>true | .int _,.non=>true | .non,.bl _=>true | .bl _,.non=>true | .non,.str _=>true | .str _,.non=>true
  | .int _,.int _=>true | .bl _,.bl _=>true | .str _,.str _=>true | .byt _,.byt _=>true
  | .int _,.str _=>true | .str _,.int _=>true | .bl _,.str _=>true | .str _,.bl _=>true
  | _,_=>false
def rEq:R2:=fun x y H Q=>scal x y = true∧Q (.bl (decide (x = y))) H
def rNe:R2:=fun x y H Q=>scal x y = true∧Q (.bl (!decide (x = y))) H
theorem dec_int {i j:Int}:decide (V.int i = V.int j) = (i == j):=by
  rw [Bool.eq_iff_iff]
  simp
theorem dec_bl {i j:Bool}:decide (V.bl i = V.bl j) = (i == j):=by
  rw [Bool.eq_iff_iff]
  simp
theorem dec_str {i j:Str}:decide (V.str i = V.str j) = (i == j):=by
  rw [Bool.eq_iff_iff]
  simp
theorem dec_byt {i j:Array UInt8}:decide (V.byt i = V.byt j) = (i.toList == j.toList):=by
  rw [Bool.eq_iff_iff]
  cases i
  cases j
  simp
section
variable {X:Cx} {a b c:Expr} {ta tb tc:TE} {pos:Pos}
theorem fin_bl {pins:List (Addr×Obj)} {σ:St} {H:Hp} {s:Shared} {Q:VK} {k k':Bool} (I:Inv X pins σ H s) (q:Q (.bl k) H) (e:k = k'):EP X pins σ Q (.bool k') s:=by
  subst e
  exact⟨.bl k,H,I,rfl,q⟩
theorem op_eq:OpR X (compareOp .Eq) rEq:=by
  intro pins s σ H x y v u Q I rx ry h
  obtain⟨hs,q⟩:=h
  cases x with
  | non=>
    cases rx
    cases y with
    | non=>cases ry;exact PySem.EqNone.eq_none_none (fin_bl I q (by simp))
    | bl j=>cases ry;exact PySem.EqNone.eq_none_bool (fin_bl I q (by simp))
    | int j=>obtain⟨t',rfl⟩:=ry;exact PySem.EqNone.eq_none_int (fin_bl I q (by simp))
    | str j=>obtain⟨t',rfl⟩:=ry;exact PySem.EqNone.eq_none_str (fin_bl I q (by simp))
    | _=>exact absurd (show false = true from hs) Bool.false_ne_true
  | bl i=>
    cases rx
    cases y with
    | non=>cases ry;exact PySem.EqNone.eq_bool_none (fin_bl I q (by simp))
    | bl j=>cases ry;exact eq_bool (fin_bl I q dec_bl)
    | str j=>obtain⟨t',rfl⟩:=ry;exact PySem.EqMixed.eq_bool_str (fin_bl I q (by simp))
    | _=>exact absurd (show false = true from hs) Bool.false_ne_true
  | int i=>
    obtain⟨t,rfl⟩:=rx
    cases y with
    | non=>cases ry;exact PySem.EqNone.eq_int_none (fin_bl I q (by simp))
    | int j=>obtain⟨t',rfl⟩:=ry;exact eq_int (fin_bl I q dec_int)
    | str j=>obtain⟨t',rfl⟩:=ry;exact PySem.EqMixed.eq_int_str (fin_bl I q (by simp))
    | _=>exact absurd (show false = true from hs) Bool.false_ne_true
  | str i=>
    obtain⟨t,rfl⟩:=rx
    cases y with
    | non=>cases ry;exact PySem.EqNone.eq_str_none (fin_bl I q (by simp))
    | bl j=>cases ry;exact PySem.EqMixed.eq_str_bool (fin_bl I q (by simp))
    | int j=>obtain⟨t',rfl⟩:=ry;exact PySem.EqMixed.eq_str_int (fin_bl I q (by simp))
    | str j=>obtain⟨t',rfl⟩:=ry;exact eq_str (fin_bl I q dec_str)
    | _=>exact absurd (show false = true from hs) Bool.false_ne_true
  | byt i=>
    obtain⟨t,rfl⟩:=rx
    cases y with
    | byt j=>obtain⟨t',rfl⟩:=ry;exact PySem.W.eq_bytes (fin_bl I q dec_byt)
    | _=>exact absurd (show false = true from hs) Bool.false_ne_true
  | _=>cases y <;> exact absurd (show false = true from hs) Bool.false_ne_true
theorem op_gt:OpR X (compareOp .Gt) (rI0 fun i j=> .bl (decide (j < i))):=opB0 fun _ _ _ _ _ _ _ q=>gt_int q
def isObj:HO→Bool
  | .lst _=>true
  | .ins _ _ _=>true
  | _=>false
theorem nomark (b:Expr) {op:CmpOp} (h:op≠ .In:=by decide) (h2:op≠ .NotIn:=by decide):behindInMarks op b = false:=by
  have e1:(op == CmpOp.In) = false:=by cases op <;> first | rfl | exact absurd rfl h
  have e2:(op == CmpOp.NotIn) = false:=by cases op <;> first | rfl | exact absurd rfl h2
  cases b <;> simp [behindInMarks,e1,e2]
theorem pe_cmpR {op:CmpOp} {r:R2} (ho:OpR X (compareOp op) r) (ha:PE X a ta) (hb:PE X b tb) (hm:behindInMarks op b = false):PE X (.Compare a [op] [b] pos) (tOp r ta tb):=by
  intro pins s σ H Q I h
  exact wpAny_Compare1 (binT ha hb I h fun v u s2 x y H2 I2 rx ry q=>ho pins s2 σ H2 x y v u Q I2 rx ry q) hm
def tTest (t:TE):TT:=fun σ H Q=>t σ H fun x H'=>∃k,x = .bl k∧Q k H'
theorem pt_cmpR {op:CmpOp} {r:R2} (ho:OpR X (compareOp op) r) (ha:PE X a ta) (hb:PE X b tb) (hm:behindInMarks op b = false):PT X (.Compare a [op] [b] pos) (tTest (tOp r ta tb)):=by
  intro pins s σ H Q I h
  refine wpAny_isTrue_Compare1 (thn (ha pins s σ H _ I h) fun v s1 ⟨x,H1,I1,r1,q1⟩=>thn (hb pins s1 σ H1 _ I1 q1) fun u s2 ⟨y,H2,I2,r2,q2⟩=>
    thn (ho pins s2 σ H2 x y v u _ I2 r1 r2 q2) fun c s3 ⟨z,H3,I3,r3,k,e,q3⟩=>?_) hm
  subst e
  cases r3
  exact wpAny_truthy_bool ⟨H3,I3,q3⟩
def tChain (r r':R2) (ta tb tc:TE):TE:=fun σ H Q=>ta σ H fun x H1=>tb σ H1 fun y H2=>r x y H2 fun z H3=>∃k,z = .bl k∧
  (if k = true then tc σ H3 fun w' H4=>r' y w' H4 Q else Q (.bl false) H3)
def TruV (K:PySem.W.Frag) (x:V) (H:Hp) (k:Bool):Prop:=
  match x with
  | .non=>k = false
  | .bl b=>k = b
  | .int i=>k = (i != 0)
  | .str y=>y.length≤sizeLine∧k = ((y.length:Int) != 0)
  | .byt y=>y.size≤sizeLine∧k = ((y.size:Int) != 0)
  | .ref p=>(∃xs,SqL K H p xs∧k = !xs.isEmpty)∨(∃xs,SqT K H p xs∧k = !xs.isEmpty)∨∃kvs,H p = some (.dK kvs)∧k = !kvs.isEmpty
  | _=>False
theorem line63:(sizeLine:Nat) < 2 ^ 63:=by rw [sizeLine_eq];decide
def PlainIxT (b:Expr):Prop:=∀o i,subscripted b false o i = operate [o,i] (getItem o i)
theorem vals1 {x:V} {us:List Value} (r:Vals [x] us):∃u,us = [u]∧RelV x u:=by
  cases r with
  | cons r1 r2=>cases r2;exact⟨_,rfl,r1⟩
def LenV (K:PySem.W.Frag) (x:V) (H:Hp) (n:Nat):Prop:=
  match x with
  | .str y=>y.length≤sizeLine∧n = y.length
  | .byt y=>y.size≤sizeLine∧n = y.size
  | .ref p=>(∃xs,SqL K H p xs∧n = xs.length)∨∃xs,SqT K H p xs∧n = xs.length
  | _=>False
end
end L2
namespace L2
open PySem PySem.Spec PyProof.Rows
structure ObjM (h:Heap) (x dx C:Addr) (mA:Str→Option Value):Prop where
  obj:h.get? x = some (PySem.W.instObj C dx)
  ns:h.Ns1 dx mA
  ne:dx≠x
theorem lookIn_ns {h:Heap} {dx:Addr} {mA:Str→Option Value} (n:h.Ns1 dx mA):∃od,h.get? dx = some od∧∀name,PySem.W.lookIn name od = some (mA name):=by
  obtain⟨o,es,ep,ho,hd,hk,_,hm⟩:=n
  refine⟨o,ho,fun name=>?_⟩
  have e:=hm name
  unfold nsFind findBy at e
  rw [←Array.find?_toList] at e
  unfold PySem.W.lookIn
  rw [hd]
  dsimp only
  split
  · rename_i y q
    rw [q] at e
    exact congrArg some e
  · rename_i q
    rw [q] at e
    have a:es.toList.any (·.refKey) = false:=by
      rw [List.any_eq_false]
      intro y hy
      obtain⟨z,t,hkey⟩:=hk y (Array.mem_toList_iff.mp hy)
      simp [DictEntry.refKey,hkey]
    have a':¬ es.toList.any (·.refKey) = true:=by rw [a];exact Bool.false_ne_true
    rw [if_neg a']
    exact congrArg some e
theorem ObjM.look {h:Heap} {x dx C:Addr} {mA:Str→Option Value} (I:ObjM h x dx C mA):∃od,PySem.W.InstAt h x (PySem.W.instObj C dx) C (some od)∧∀name,PySem.W.lookIn name od = some (mA name):=
  let ⟨od,ho,hl⟩:=lookIn_ns I.ns
  ⟨od,⟨I.obj,rfl,rfl,ho⟩,hl⟩
section
variable {prog:Program} {w:World} {A:Around} {E:Value→Shared→Prop} {s:Shared} {K:PySem.W.Frag} {x dx C f:Addr} {mA:Str→Option Value} {name:Str} {v:Value}
end
def putF (f:Str) (v:V):List (Str×V)→List (Str×V)
  | []=>[(f,v)]
  | (g,x) :: r=>if g = f then (g,v) :: r else (g,x) :: putF f v r
section
variable {P:Program} {w:World} {H H':Hp} {h h':Heap} {a C dx:Addr} {fs fs':List (Str×V)}
theorem ins_get (hok:HOk P w H h) (e:H a = some (.ins C dx fs)):∃mA,ObjM h a dx C mA∧(∀f,RelO (fs.lookup f) (mA f))∧PySem.Within mA (fs.map (·.1))∧fs.length≤1000∧H dx = some (.own a):=by
  obtain⟨d,z,ne,ob,mA,n,r,q⟩:=(show ObjOk P w H h a (.ins C dx fs) from hok a _ e)
  exact⟨mA,⟨ob,n,ne⟩,r,q,z,d⟩
end
structure Cls (K:PySem.W.Frag) (C:Addr):Prop where
  pg:PySem.W.plainGet K C Str.empty = true
  hd:PySem.W.hasDictIn K C = true
  po:PySem.W.plainOver K C = true
  sa:PySem.W.findIn K (.ref C) "__setattr__" = some (some (.builtin "object.__setattr__"))
theorem Cls.get {K:PySem.W.Frag} {C:Addr} (c:Cls K C) (f:Str):PySem.W.plainGet K C f = true:=c.pg
def NoAttr (K:PySem.W.Frag) (C:Addr) (f:Str):Prop:=PySem.W.findIn K (.ref C) f = some none
structure Con (K:PySem.W.Frag) (C:Addr) (f:Str) (v:V) (u:Value):Prop where
  at_:PySem.W.findIn K (.ref C) f = some (some u)
  rel:RelV v u
  get:PySem.W.specialIn K u "__get__" = some none
  cp:PySem.W.copiedNames.contains f = false
structure Meth (K:PySem.W.Frag) (C:Addr) (m:Str) (f:Addr):Prop where
  at_:PySem.W.findIn K (.ref C) m = some (some (.ref f))
  fn:PySem.W.isFn K (.ref f) = true
  kp:PySem.W.keepIn K (.ref f) = true
section
variable {X:Cx} {pins:List (Addr×Obj)} {σ:St} {H:Hp} {s:Shared} {a C dx:Addr} {fs:List (Str×V)} {f:Str} {v:V} {A:Around} {E:Value→Shared→Prop}
end
def tFld (K:PySem.W.Frag) (ta:TE) (f:Str):TE:=fun σ H Q=>ta σ H fun x H1=>∃a C dx fs v,x = .ref a∧H1 a = some (.ins C dx fs)∧Cls K C∧NoAttr K C f∧fs.lookup f = some v∧Q v H1
def tCon (K:PySem.W.Frag) (ta:TE) (f:Str):TE:=fun σ H Q=>ta σ H fun x H1=>∃a C dx fs v u,x = .ref a∧H1 a = some (.ins C dx fs)∧Cls K C∧Con K C f v u∧fs.lookup f = none∧Q v H1
def sFld (K:PySem.W.Frag) (ta tv:TE) (f:Str):TS:=fun D σ H=>tv σ H fun y H1=>ta σ H1 fun x H2=>∃a C dx fs,x = .ref a∧H2 a = some (.ins C dx fs)∧Cls K C∧NoAttr K C f∧fs.length < 1000∧
  D.nx σ (upd H2 a (.ins C dx (putF f y fs)))
def InOp (X:Cx) (op:Operator) (rd:V→V→Hp→VK→Prop):Prop:=
  ∀(pins:List (Addr×Obj)) (s:Shared) (σ:St) (H:Hp) (x y:V) (u v:Value) (Q:VK),Inv X pins σ H s→RelV x u→RelV y v→rd x y H Q→wpAny (model X.prog X.w) X.A (inplaceOp op u v) (EP X pins σ Q) X.xe s
def sFldAug (K:PySem.W.Frag) (ta tv:TE) (rd:V→V→Hp→VK→Prop) (f:Str):TS:=fun D σ H=>ta σ H fun x H1=>∃a C dx fs v,x = .ref a∧H1 a = some (.ins C dx fs)∧Cls K C∧NoAttr K C f∧fs.lookup f = some v∧
  tv σ H1 fun y H2=>rd v y H2 fun z H3=>∃dx' fs',H3 a = some (.ins C dx' fs')∧fs'.length < 1000∧D.nx σ (upd H3 a (.ins C dx' (putF f z fs')))
section
variable {X:Cx} {o e value:Expr} {f:Str} {pos pos' tpos:Pos} {ta tv:TE}
def rAdd:V→V→Hp→VK→Prop:=fun x y H Q=>∃i j,x = .int i∧y = .int j∧Q (.int (i + j)) H
def rSub:V→V→Hp→VK→Prop:=fun x y H Q=>∃i j,x = .int i∧y = .int j∧Q (.int (i - j)) H
end
section
variable {X:Cx} {pins:List (Addr×Obj)} {σ:St} {H:Hp} {s:Shared} {A:Around} {E:Value→Shared→Prop} {Q:Value→Shared→Prop} {c:Value} {b:Bool}
inductive TyOf (K:PySem.W.Frag) (H:Hp):V→Value→Prop where
  | non:TyOf K H .non (.type "NoneType")
  | bl (x:Bool):TyOf K H (.bl x) (.type "bool")
  | int (i:Int):TyOf K H (.int i) (.type "int")
  | str (x:Str):TyOf K H (.str x) (.type "str")
  | flt (x:UInt64):TyOf K H (.flt x) (.type "float")
  | lst {a:Addr} {xs:List V} (e:H a = some (.lst xs)):TyOf K H (.ref a) (.type "list")
  | frz {a:Addr} {o:Obj} {xs:List V} (e:H a = some (.frz o (.lst xs))):TyOf K H (.ref a) (.type "list")
  | tup {a:Addr} {xs:List V} (e:H a = some (.tup xs)):TyOf K H (.ref a) (.type "tuple")
  | dK {a:Addr} {kvs:List (Key×V)} (e:H a = some (.dK kvs)):TyOf K H (.ref a) (.type "dict")
  | dT {a:Addr} {kvs:List (List Key×V)} (e:H a = some (.dT kvs)):TyOf K H (.ref a) (.type "dict")
  | ins {a C dx:Addr} {fs:List (Str×V)} (e:H a = some (.ins C dx fs)) (cl:Cls K C) (ha:PySem.W.findIn K (.ref C) "__class__" = some (some (.builtin "object.__class__")))
      (hn:PySem.W.specialIn K (.builtin "object.__class__") "__get__" = some (some (.builtin "getset_descriptor.__get__"))) (htk:PySem.W.takesIn K (.builtin "object.__class__") = some true)
      (hm:PySem.W.mroIn K C (.type "object") = some true):TyOf K H (.ref a) (.ref C)
theorem isinst_ok {x:V} {u t:Value} (I:Inv X pins σ H s) (rx:RelV x u) (ty:TyOf X.K H x t) (e:PySem.W.kitOne X.K t c = some b) (h:∀tk,Q (.bool b) { s with toks:=tk }) :
    wpAny (model X.prog X.w) A (call (.builtin "isinstance") [u,c]) Q E s:=by
  cases ty with
  | non=>cases (show u = Value.none from rx);exact PySem.W.kia_one PySem.W.kitx_none I.kIn True.intro e (fun z=>nomatch z) h
  | bl y=>cases (show u = Value.bool y from rx);exact PySem.W.kia_one PySem.W.kitx_bool I.kIn True.intro e (fun z=>nomatch z) h
  | int i=>obtain⟨t,q⟩:=(show ∃t,u = Value.int i t from rx);cases q;exact PySem.W.kia_one PySem.W.kitx_int I.kIn True.intro e (fun z=>nomatch z) h
  | str y=>obtain⟨t,q⟩:=(show ∃t,u = Value.str y t from rx);cases q;exact PySem.W.kia_one PySem.W.kitx_str I.kIn True.intro e (fun z=>nomatch z) h
  | flt y=>obtain⟨t,q⟩:=(show ∃t,u = Value.float y t from rx);cases q;exact PySem.W.kia_one PySem.W.kitx_float I.kIn True.intro e (fun z=>nomatch z) h
  | @lst a xs ea=>
    cases (show u = Value.ref a from rx)
    obtain⟨_,_,n,_,h1⟩:=(show ObjOk X.prog X.w H s.heap a (.lst xs) from I.hok a _ ea)
    exact PySem.W.kia_one PySem.W.kitx_list I.kIn ⟨_,h1,rfl⟩ e (fun z=>nomatch z) h
  | @frz a ob xs ea=>
    cases (show u = Value.ref a from rx)
    obtain⟨_,_,_,n,_,h1⟩:=(show ObjOk X.prog X.w H s.heap a (.frz ob (.lst xs)) from I.hok a _ ea)
    exact PySem.W.kia_one PySem.W.kitx_list I.kIn ⟨_,h1,rfl⟩ e (fun z=>nomatch z) h
  | @tup a xs ea=>
    cases (show u = Value.ref a from rx)
    obtain⟨_,_,_,p⟩:=(show ObjOk X.prog X.w H s.heap a (.tup xs) from I.hok a _ ea)
    obtain⟨o,h1,h2,_⟩:=p
    exact PySem.W.kia_one PySem.W.kitx_tuple I.kIn ⟨o,h1,h2⟩ e (fun z=>nomatch z) h
  | @dK a kvs ea=>
    cases (show u = Value.ref a from rx)
    obtain⟨_,_,vs,_,p⟩:=(show ObjOk X.prog X.w H s.heap a (.dK kvs) from I.hok a _ ea)
    obtain⟨o,es,ep,h1,h2,_⟩:=p
    exact PySem.W.kia_one PySem.W.kitx_dict I.kIn ⟨o,h1,h2.1⟩ e (fun z=>nomatch z) h
  | @dT a kvs ea=>
    cases (show u = Value.ref a from rx)
    obtain⟨_,_,xs,_,o,es,ep,h1,h2,_⟩:=(show ObjOk X.prog X.w H s.heap a (.dT kvs) from I.hok a _ ea)
    exact PySem.W.kia_one PySem.W.kitx_dict I.kIn ⟨o,h1,h2.1⟩ e (fun z=>nomatch z) h
  | @ins a C dx fs ea cl ha hn htk hm=>
    cases (show u = Value.ref a from rx)
    obtain⟨mA,O,_⟩:=ins_get I.hok ea
    obtain⟨od,J,_⟩:=O.look
    exact PySem.W.kia_one (PySem.W.kitx_own (cl.get _) cl.hd ha hn htk hm) I.kIn J e (fun z=>nomatch z) h
end
end L2
namespace L2
open PySem PySem.Spec PyProof.Rows
structure Room (k:Nat) (A:Around):Prop where
  hd:A.handled = none
  dp:A.depth + 3 * k + 5 < recursionLimit
  un:A.units + 16 * k + 200 < cLine
theorem Room.mono {j k:Nat} {A:Around} (r:Room k A) (h:j≤k):Room j A:=⟨r.hd,by have:=r.dp;omega,by have:=r.un;omega⟩
theorem Room.deeper {k:Nat} {A:Around} (r:Room (k + 1) A) (env:Env):Room k (A.deeper env):=
  ⟨r.hd,by have:=r.dp;show A.depth + 1 + 3 * k + 5 < _;omega,by have:=r.un;show A.units + 3 + 16 * k + 200 < _;omega⟩
theorem Room.depth {k:Nat} {A:Around} (r:Room k A):A.depth < recursionLimit:=by have:=r.dp;omega
theorem Room.units {k:Nat} {A:Around} (r:Room k A):A.units + 64 < cLine:=by have:=r.un;omega
def tNil:TA:=fun _ H Q=>Q [] H
def tCons (ta:TE) (tr:TA):TA:=fun σ H Q=>ta σ H fun x H1=>tr σ H1 fun xs H2=>Q (x :: xs) H2
section
variable {X:Cx} {e:Expr} {es:List Expr} {te:TE} {t:TA} {pos:Pos}
theorem pa_nil:PA X [] tNil:=fun _ _ _ _ H Q I h=>Calls.spliced_nil ⟨[],H,I,.nil,h⟩
theorem pa_cons (ha:PE X e te) (hr:PA X es t) (hs:starEach (e :: es) X.env = (false,eval e X.env) :: starEach es X.env:=by rfl):PA X (e :: es) (tCons te t):=by
  intro pos pins s σ H Q I h
  rw [hs]
  show wpAny _ _ (spliced ((false,eval e X.env) :: backTo pos (starEach es X.env))) _ _ s
  refine Calls.spliced_cons (thn (ha pins s σ H _ I h) fun u s1 ⟨x,H1,I1,r1,q1⟩=>?_)
  exact thn (hr pos pins s1 σ H1 _ I1 q1) fun us s2 ⟨xs,H2,I2,r2,q2⟩=>⟨x :: xs,H2,I2,.cons r1 r2,q2⟩
def tTup (t:TA):TE:=fun σ H Q=>t σ H fun xs H1=>xs.length≤sizeLine∧∀p,H1 p = none→Q (.ref p) (upd H1 p (.tup xs))
def tLst (t:TA):TE:=fun σ H Q=>t σ H fun xs H1=>xs.length≤sizeLine∧∀p,H1 p = none→Q (.ref p) (upd H1 p (.lst xs))
theorem pe_tup {x1} (h:PA X es t):PE X (.Tuple es x1 pos) (tTup t):=by
  intro pins s σ H Q I hq
  refine wpAny_Tuple_spliced (thn (h pos pins s σ H _ I hq) fun us s1 ⟨xs,H1,I1,r,z,q⟩=>⟨by rw [←r.length];exact z,?_⟩)
  have hf:H1 s1.heap.objs.size = none:=I1.hok.fresh (Nat.le_refl _)
  refine⟨.ref s1.heap.objs.size,upd H1 s1.heap.objs.size (.tup xs),I1.laid (t':=s1.toks) (fun b u e=>Heap.get?_push_of_some _ e) (Nat.le_refl _) ?_,rfl,q _ hf⟩
  exact⟨z,us,r,⟨_,Heap.get?_push_size _ rfl,rfl,_,rfl⟩⟩
theorem pe_lst (h:PA X es t):PE X (.List es pos) (tLst t):=by
  intro pins s σ H Q I hq
  refine wpAny_List_spliced (thn (h pos pins s σ H _ I hq) fun us s1 ⟨xs,H1,I1,r,z,q⟩=>⟨by rw [←r.length];exact z,?_⟩)
  have hf:H1 s1.heap.objs.size = none:=I1.hok.fresh (Nat.le_refl _)
  refine⟨.ref s1.heap.objs.size,upd H1 s1.heap.objs.size (.lst xs),I1.laid (t':=s1.toks) (fun b u e=>Heap.get?_push_of_some _ e) (Nat.le_refl _) ?_,rfl,q _ hf⟩
  exact⟨z,us,0,r,Heap.get?_push_size _ rfl⟩
end
abbrev Sp:=List V→Hp→VK→XK→Prop
abbrev CXT:=List Env→Hp→Shared→XK→Value→Shared→Prop
structure Env0 (P:Program) (w:World) (K:PySem.W.Frag) (mg:Str→Option Value) (base:Heap) (A:Around) (outer:List Env) (s:Shared) (H:Hp):Prop where
  frames:A.frames = some outer
  mod:Mod K mg base
  bs:∀b o,base.get? b = some o→s.heap.get? b = some o∧H b = none
  bsz:base.objs.size≤s.heap.objs.size
  funs:s.heap.FunFrames base outer
  frf:∀b∈frs outer,H b = none
  hok:HOk P w H s.heap
  bare:AllBare s.gens
def CE (outer:List Env) (P:Program) (w:World) (H:Hp) (s:Shared) (Q:VK) (u:Value) (s':Shared):Prop:=
  ∃v H',s'.os = s.os∧AllBare s'.gens∧Un (frs outer) [] H H' s.heap s'.heap∧HOk P w H' s'.heap∧RelV v u∧Q v H'
def CR (CX:CXT) (outer:List Env) (P:Program) (w:World) (H:Hp) (s:Shared) (Q:VK) (E:XK) (r:Result) (s':Shared):Prop:=
  match r with
  | .ok (.ret u)=>CE outer P w H s Q u s'
  | .ok _=>False
  | .error e=>CX outer H s E e s'
structure FnOk (P:Program) (w:World) (K:PySem.W.Frag) (mg:Str→Option Value) (base:Heap) (CX:CXT) (k:Nat) (f:Addr) (fd:FuncData) (ps:List Str) (sp:Sp):Prop where
  len:∀vs H Q E,sp vs H Q E→vs.length = ps.length
  run:∀(A:Around) (outer:List Env) (s:Shared) (H:Hp) (args:Args) (us:List Value) (vs:List V) (Q:VK) (E:XK),Room k A→Env0 P w K mg base A outer s H→BindsTo s fd args (ps.zip us)→Vals vs us→sp vs H Q E→
    codeAny (model P w) A (.call (.ref f) args) (CR CX outer P w H s Q E) s
section
variable {X:Cx} {pins:List (Addr×Obj)} {σ:St} {H:Hp} {s s':Shared}
theorem Inv.env0 (I:Inv X pins σ H s):Env0 X.prog X.w X.K X.mg X.base X.A X.stack s H:=
  ⟨I.ok.frames,I.ok.mod,I.bs,Nat.le_trans I.ok.bsz I.sz,I.stack,I.stkFree,I.hok,I.bare⟩
theorem Inv.after {Q:VK} {u:Value} (I:Inv X pins σ H s) (h:CE X.stack X.prog X.w H s Q u s'):EP X pins σ Q u s':=by
  obtain⟨v,H',os,bare,un,hok,r,q⟩:=h
  obtain⟨hh,g,d,t,os'⟩:=s'
  obtain rfl:os' = s.os:=os
  exact⟨v,H',I.call (h':=hh) (g':=g) (d':=d) (t':=t) (ch:=[]) un hok bare (fun b z=>absurd z (by simp)),r,q⟩
end
def tCall (sp:Sp) (dvs:List V) (E:XK) (t:TA):TE:=fun σ H Q=>t σ H fun vs H1=>sp (vs ++ dvs) H1 Q E
def tMeth (C:Addr) (m:Str) (sp:Sp) (dvs:List V) (E:XK) (ta:TE) (t:TA):TE:=fun σ H Q=>ta σ H fun x H1=>∃a dx fs,x = .ref a∧H1 a = some (.ins C dx fs)∧fs.lookup m = none∧
  t σ H1 fun vs H2=>sp (x :: (vs ++ dvs)) H2 Q E
def tMake (C:Addr) (sp:Sp) (dvs:List V) (E:XK) (t:TA):TE:=fun σ H Q=>t σ H fun vs H1=>∀x dx,H1 x = none→H1 dx = none→dx≠x→
  sp (.ref x :: (vs ++ dvs)) (upd (upd H1 dx (.own x)) x (.ins C dx [])) (fun v H2=>v = .non∧Q (.ref x) H2) E
def Binds (K:PySem.W.Frag) (fd:FuncData) (ps:List Str) (ds:List Value):Prop:=
  ∀(s:Shared) (us:List Value),K.In s.heap→(us ++ ds).length = ps.length→BindsTo s fd ⟨us, []⟩ (ps.zip (us ++ ds))
theorem Binds.all {K:PySem.W.Frag} {fd:FuncData} {ps:List Str} (h:∀us:List Value,us.length = ps.length→bindArgs fd ⟨us, []⟩ = pure (ps.zip us)):Binds K fd ps []:=fun s us _ hl=>by
  rw [List.append_nil] at hl ⊢
  exact .of_eq (h us hl)
def Passes (CX:CXT) (X:Cx) (E:XK):Prop:=∀(pins:List (Addr×Obj)) (σ:St) (H:Hp) (s:Shared) (e:Value) (s':Shared),Inv X pins σ H s→CX X.stack H s E e s'→X.xe e s'
section
variable {X:Cx} {CX:CXT} {k:Nat} {f C:Addr} {fd:FuncData} {ps:List Str} {sp:Sp} {dvs:List V} {ds:List Value} {E:XK} {x m:Str} {p pos apos:Pos} {e o:Expr} {es:List Expr} {ta:TE} {t:TA}
theorem run_fn {pins:List (Addr×Obj)} {σ:St} {H:Hp} {s:Shared} {Q:VK} {us:List Value} {vs:List V} (F:FnOk X.prog X.w X.K X.mg X.base CX k f fd ps sp) (hr:Room k X.A) (hb:Binds X.K fd ps ds) (hd:Vals dvs ds) (hx:Passes CX X E)
    (I:Inv X pins σ H s) (r:Vals vs us) (h:sp (vs ++ dvs) H Q E):wpAny (model X.prog X.w) X.A (call (.ref f) us) (EP X pins σ Q) X.xe s:=by
  have r2:Vals (vs ++ dvs) (us ++ ds):=r.append hd
  have hl:(us ++ ds).length = ps.length:=by rw [←r2.length];exact F.len _ _ _ _ h
  refine wpAny_call (codeAny_mono (F.run X.A X.stack s H ⟨us, []⟩ (us ++ ds) (vs ++ dvs) Q E hr I.env0 (hb s us I.kIn hl) r2 h) fun r s' hq=>?_)
  cases r with
  | error e=>exact hx pins σ H s e s' I hq
  | ok fl=>
    cases fl with
    | ret u=>exact I.after hq
    | next=>exact False.elim hq
    | brk=>exact False.elim hq
    | cont=>exact False.elim hq
theorem pe_call (F:FnOk X.prog X.w X.K X.mg X.base CX k f fd ps sp) (hr:Room k X.A) (hg:Gl X x) (hm:X.mg x = some (.ref f)) (hk:PySem.W.keepIn X.K (.ref f) = true) (hb:Binds X.K fd ps ds) (hd:Vals dvs ds) (hx:Passes CX X E)
    (ha:PA X (e :: es) t) (hdb:(x == ("__debug__":Str)) = false:=by decide) (he:starEach (e :: es) X.env = (false,eval e X.env) :: starEach es X.env:=by rfl) (hpl:(backTo pos (starEach es X.env)).any (·.1) = false:=by rfl) :
    PE X (.Call (.Name x p) (e :: es) [] pos) (tCall sp dvs E t):=by
  intro pins s σ H Q I h
  refine wpAny_Call_Name_kw (ld_glob I hg hm ?_ hdb)
  refine PySem.W.callWith_K (h₀:=X.base) I.ok.mod.kin hk (thn (ha pos pins s σ H _ I h) fun us s1 ⟨vs,H1,I1,r,q⟩=>⟨I1.kIn,?_⟩) he hpl
  exact run_fn F hr hb hd hx I1 r q
structure Mk (K:PySem.W.Frag) (C f:Addr):Prop where
  makes:PySem.W.makesIn K C = true
  init:PySem.W.findIn K (.ref C) "__init__" = some (some (.ref f))
  fn:PySem.W.isFn K (.ref f) = true
  kp:PySem.W.keepIn K (.ref C) = true
end
def PK (X:Cx) (kws:List Keyword) (t:TA):Prop:=
  ∀(pos:Pos) (pins:List (Addr×Obj)) (s:Shared) (σ:St) (H:Hp) (Q:List V→Hp→Prop),Inv X pins σ H s→t σ H Q→wpAny (model X.prog X.w) X.A (evalAll ((backToKw pos (keywordEach kws X.env)).map (·.2))) (AP X pins σ Q) X.xe s
section
variable {X:Cx} {CX:CXT} {k:Nat} {f C:Addr} {fd:FuncData} {ps ks:List Str} {sp:Sp} {E:XK} {x m:Str} {p pos apos kpos:Pos} {e o:Expr} {es:List Expr} {kws:List Keyword} {te ta:TE} {t tk:TA} {nm:Option Str}
structure KBinds (K:PySem.W.Frag) (fd:FuncData) (ps ks:List Str) (g:List Value→List Value→List Value) (gV:List V→List V→List V):Prop where
  to:∀(s:Shared) (us ws:List Value),K.In s.heap→(g us ws).length = ps.length→BindsTo s fd ⟨us,ks.zip ws⟩ (ps.zip (g us ws))
  rel:∀{vs:List V} {us:List Value} {zs:List V} {ws:List Value},Vals vs us→Vals zs ws→Vals (gV vs zs) (g us ws)
def tCallK (sp:Sp) (gV:List V→List V→List V) (E:XK) (t tk:TA):TE:=fun σ H Q=>t σ H fun vs H1=>tk σ H1 fun zs H2=>sp (gV vs zs) H2 Q E
variable {g:List Value→List Value→List Value} {gV:List V→List V→List V}
end
structure FnScope (N P:List Str) (sc:Scope):Prop where
  kind:sc.kind = .function
  co:sc.isCoroutine = false
  gen:sc.isGenerator = false
  nd:N.Nodup
  pre:N.take P.length = P
  par:∀x∈P,sc.names.lookup x = some .local∨sc.names.lookup x = some .cell
  nofree:∀y∈sc.names,y.2≠ .free
theorem bindL_out {kindOf:Str→Option NameKind} {x:Str}:∀{binds:List (Str×Value)} {m:Str→Option Value},(∀v,(x,v)∉binds)→bindL kindOf binds m x = m x
  | [],_,_=>rfl
  | (n,v) :: r,m,h=>by
    unfold bindL
    rw [bindL_out fun w hw=>h w (List.mem_cons_of_mem _ hw)]
    split
    · have:x≠n:=by rintro rfl;exact h v List.mem_cons_self
      simp [this]
    · rfl
theorem bindC_out {kindOf:Str→Option NameKind} {x:Str}:∀{binds:List (Str×Value)} {m:Str→Option Value},(∀v,(x,v)∉binds)→bindC kindOf binds m x = m x
  | [],_,_=>rfl
  | (n,v) :: r,m,h=>by
    unfold bindC
    rw [bindC_out fun w hw=>h w (List.mem_cons_of_mem _ hw)]
    split
    · rfl
    · have:x≠n:=by rintro rfl;exact h v List.mem_cons_self
      simp [this]
theorem bindL_get {kindOf:Str→Option NameKind} {x:Str} {v:Value}:∀{P:List Str} {vs:List Value} {i:Nat} {m:Str→Option Value},P.Nodup→P[i]? = some x→vs[i]? = some v→kindOf x = some .local→
    bindL kindOf (P.zip vs) m x = some v
  | [],_,_,_,_,h,_,_=>by simp at h
  | _ :: _, [],_,_,_,_,h,_=>by simp at h
  | p :: P,w :: vs,0,m,nd,h1,h2,hk=>by
    simp at h1 h2;subst h1;subst h2
    show bindL kindOf ((p,w) :: P.zip vs) m p = _
    unfold bindL
    rw [bindL_out fun v hv=>(List.nodup_cons.mp nd).1 (List.of_mem_zip hv).1,if_pos hk]
    simp
  | p :: P,w :: vs,i + 1,m,nd,h1,h2,hk=>by
    show bindL kindOf ((p,w) :: P.zip vs) m x = _
    unfold bindL
    exact bindL_get (i:=i) (List.nodup_cons.mp nd).2 (by simpa using h1) (by simpa using h2) hk
theorem bindC_get {kindOf:Str→Option NameKind} {x:Str} {v:Value}:∀{P:List Str} {vs:List Value} {i:Nat} {m:Str→Option Value},P.Nodup→P[i]? = some x→vs[i]? = some v→kindOf x≠some .local→
    bindC kindOf (P.zip vs) m x = some v
  | [],_,_,_,_,h,_,_=>by simp at h
  | _ :: _, [],_,_,_,_,h,_=>by simp at h
  | p :: P,w :: vs,0,m,nd,h1,h2,hk=>by
    simp at h1 h2;subst h1;subst h2
    show bindC kindOf ((p,w) :: P.zip vs) m p = _
    unfold bindC
    rw [bindC_out fun v hv=>(List.nodup_cons.mp nd).1 (List.of_mem_zip hv).1,if_neg hk]
    simp
  | p :: P,w :: vs,i + 1,m,nd,h1,h2,hk=>by
    show bindC kindOf ((p,w) :: P.zip vs) m x = _
    unfold bindC
    exact bindC_get (i:=i) (List.nodup_cons.mp nd).2 (by simpa using h1) (by simpa using h2) hk
def start (N:List Str) (vs:List V):St:=vs.map some ++ List.replicate (N.length - vs.length) none
def cxOf (CX:CXT) (P:Program) (w:World) (K:PySem.W.Frag) (mg:Str→Option Value) (base:Heap) (N:List Str) (qual:Str) (scope:Scope) (f:Addr) (cd:Value) (A:Around) (outer:List Env) (s:Shared) (H:Hp) (E:XK):Cx where
  prog:=P
  w:=w
  K:=K
  mg:=mg
  base:=base
  A:=A.deeper (envOfC qual scope s.heap.objs.size f cd)
  N:=N
  s₀:=s
  H₀:=H
  env:=envOfC qual scope s.heap.objs.size f cd
  outer:=outer
  stack:=envOfC qual scope s.heap.objs.size f cd :: outer
  ex:=[]
  calm:=true
  fn:=fun _=>true
  pn:=[]
  xe:=fun e s'=>wpAny (model P w) (A.deeper (envOfC qual scope s.heap.objs.size f cd)) (leaving (envOfC qual scope s.heap.objs.size f cd) e) (fun _ s''=>CX outer H s E e s'') (fun e' s''=>CX outer H s E e' s'') s'
theorem cell_has {sc:Scope} {n:Nat} {x:Str} (h:sc.names.lookup x = some .cell):∃c,(cellsFrom n sc.names []).lookup x = some c:=by
  have q:=PySem.W.cellsFrom_some sc.names n [] (.inl h)
  exact Option.isSome_iff_exists.mp q
theorem inv_start {CX:CXT} {P:Program} {w:World} {K:PySem.W.Frag} {mg:Str→Option Value} {base:Heap} {N ps:List Str} {qual:Str} {scope:Scope} {f:Addr} {cd:Value} {A:Around} {outer:List Env} {s s1:Shared} {H:Hp} {E:XK} {us:List Value} {vs:List V}
    (S:FnScope N ps scope) (hd:A.handled = none) (e0:Env0 P w K mg base A outer s H) (hl:vs.length = ps.length) (r:Vals vs us)
    (x:InCallC s s.heap.objs.size (bindL (envOfC qual scope s.heap.objs.size f cd).kindOf (ps.zip us) fun _=>none) (cellsFrom (s.heap.objs.size + 1) scope.names []) (bindC (envOfC qual scope s.heap.objs.size f cd).kindOf (ps.zip us) fun _=>none) s1) :
    Inv (cxOf CX P w K mg base N qual scope f cd A outer s H E) [] (start N vs) H s1:=by
  have hpl:ps.length≤N.length:=by have:=congrArg List.length S.pre;rw [List.length_take] at this;omega
  obtain⟨h1,tk,rfl,hk⟩:=x.done
  have noA:∀b:Addr,b∉(cxOf CX P w K mg base N qual scope f cd A outer s H E).ex:=fun b z=>absurd (show b∈([]:List Addr) from z) (by simp)
  refine⟨⟨e0.mod,S.kind,rfl,rfl,Nat.le_refl _,fun y z c h1 h2=>?_,fun y hy=>?_,fun y c _ h=>?_,fun _=>hd,Around.frames_deeper e0.frames,.inr ⟨rfl,rfl⟩,fun b z=>absurd z (noA b),e0.bs,e0.bsz,fun b _ _=>noA b,fun b z=>absurd z (noA b),e0.funs,e0.frf⟩,
    rfl,e0.bare,Un.kept hk,⟨_,x.toInCall.ns,fun i y v h1 h2 h3=>?_⟩,fun y c h=>⟨_,x.cell y c h⟩,e0.hok.fresh (Nat.le_refl _),fun y c h=>?_,fun p hp=>absurd (show p∈([]:List (Addr×Obj)) from hp) (by simp),e0.hok.kept hk,?_⟩
  · exact name_of_addr x.apart (PySem.mem_of_lookup h1) (PySem.mem_of_lookup h2)
  · have hy:scope.names.lookup y = some .cell∨scope.names.lookup y = some .free:=hy
    rcases hy with hy | hy
    · exact cell_has hy
    · exact absurd rfl (S.nofree _ (PySem.mem_of_lookup hy))
  · exact Nat.le_of_lt (x.above y c (PySem.mem_of_lookup h))
  · have hi:i < vs.length:=by
      unfold start at h2
      by_cases hi:i < vs.length
      · exact hi
      · rw [List.getElem?_append_right (by simpa using hi)] at h2
        rw [List.getElem?_replicate] at h2
        split at h2 <;> cases h2
    have ha:vs[i]? = some v:=by
      unfold start at h2
      rw [List.getElem?_append_left (by simpa using hi),List.getElem?_map] at h2
      cases e:vs[i]? with
      | none=>rw [e] at h2;cases h2
      | some a=>rw [e] at h2;cases h2;rfl
    obtain⟨u,hu,rv⟩:=r.get ha
    have hp:ps[i]? = some y:=by
      rw [←S.pre,List.getElem?_take_of_lt (by omega)];exact h1
    have ndP:ps.Nodup:=by rw [←S.pre];exact S.nd.sublist (List.take_sublist _ _)
    refine⟨u,rv,?_⟩
    rcases S.par y (List.mem_of_getElem? hp) with k | k
    · exact .inl ⟨k,bindL_get ndP hp hu k⟩
    · obtain⟨c,e⟩:=cell_has (n:=s.heap.objs.size + 1) k
      refine .inr ⟨.inl k,c,e,?_⟩
      have q:=x.cell y c e
      rw [bindC_get ndP hp hu (by show scope.names.lookup y≠_;rw [k];decide)] at q
      exact q
  · exact e0.hok.fresh (Nat.le_of_lt (x.above y c (PySem.mem_of_lookup h)))
  · unfold start
    show _ = N.length
    rw [List.length_append,List.length_map,List.length_replicate]
    omega
theorem fn_of {CX:CXT} {P:Program} {w:World} {K:PySem.W.Frag} {mg:Str→Option Value} {base:Heap} {k:Nat} {f:Addr} {name qual:Str} {params:Arguments} {body:List Stmt} {scope:Scope} {dV kV doc pm cdv ct oc:Value} {an od:Option Addr}
    {osl:Array (Option Value)} {N ps:List Str} {sp:Sp} (lk:K.lookup f = some ⟨oc,od,.func (PySem.W.fnOf name qual params body scope dV kV doc pm an cdv ct),osl⟩) (hcd:PySem.W.codeIn K cdv qual = true) (S:FnScope N ps scope)
    (len:∀vs H Q E,sp vs H Q E→vs.length = ps.length)
    (hbody:∀(A:Around) (outer:List Env) (s:Shared) (H:Hp) (vs:List V) (Q:VK) (E:XK),Room k (A.deeper (envOfC qual scope s.heap.objs.size f cdv))→sp vs H Q E→
      ∃t,PSs (cxOf CX P w K mg base N qual scope f cdv A outer s H E) body t∧t { nx:=fun _ H'=>Q .non H',rt:=Q } (start N vs) H) :
    FnOk P w K mg base CX (k + 1) f (PySem.W.fnOf name qual params body scope dV kV doc pm an cdv ct) ps sp:=by
  refine⟨len,fun A outer s H args us vs Q E hr e0 hb r hsp=>?_⟩
  have hl:=len _ _ _ _ hsp
  have KX:K.In s.heap:=e0.mod.kin.keeps fun b o e=>(e0.bs b o e).1
  have lim:s.heap.NoLimit:=e0.mod.nolimit.keeps fun b o e=>(e0.bs b o e).1
  have hkind:∀y∈ps.zip us,scope.names.lookup y.1 = some .local∨(scope.names.lookup y.1 = some .cell∧((cellsFrom (s.heap.objs.size + 1) scope.names []).lookup y.1).isSome = true):=fun ⟨n,v⟩ hy=>by
    rcases S.par n (List.of_mem_zip hy).1 with q | q
    · exact .inl q
    · exact .inr ⟨q,PySem.W.cellsFrom_some _ _ _ (.inl q)⟩
  refine codeAny_call_function hr.depth (KX _ _ lk) rfl S.co S.gen rfl (PySem.W.codeRec_of KX hcd) (hb _ _ _ _ ?_)
  refine wpAny_newFunctionEnv_cells S.kind hkind fun env he s1 x=>?_
  subst he
  refine⟨lim.keeps x.toInCall.keep,codeAny_func ?_⟩
  obtain⟨t,ht,hq⟩:=hbody A outer s H vs Q E (hr.deeper _) hsp
  have I:Inv (cxOf CX P w K mg base N qual scope f cdv A outer s H E) [] (start N vs) H s1:=inv_start S hr.hd e0 hl r x
  refine wpAny_mono (ht [] s1 (start N vs) H _ I hq) (fun fl s' hs=>?_) fun e s' hs=>hs
  have fin:∀{σ':St} {H':Hp} {v:V} {u:Value},Inv (cxOf CX P w K mg base N qual scope f cdv A outer s H E) [] σ' H' s'→RelV v u→Q v H'→CE outer P w H s Q u s':=
    fun {σ' H' v u} J rv q=>⟨v,H',J.os,J.bare,J.base,J.hok,rv,q⟩
  cases fl with
  | ret u=>
    obtain⟨v,σ',H',J,rv,q⟩:=hs
    exact fin J rv q
  | next=>
    obtain⟨σ',H',J,q⟩:=hs
    exact fin (v:=V.non) (u:=Value.none) J rfl q
  | brk=>
    obtain⟨_,_,_,q⟩:=hs
    exact False.elim q
  | cont=>
    obtain⟨_,_,_,q⟩:=hs
    exact False.elim q
end L2
namespace L2
open PySem PySem.Spec PyProof.Rows
section
variable {X:Cx} {x:Str} {p pos:Pos} {e:Expr} {es:List Expr} {t:TA} {id T:String} {r:List V→Hp→VK→Prop}
def tCB (r:List V→Hp→VK→Prop) (t:TA):TE:=fun σ H Q=>t σ H fun vs H1=>r vs H1 Q
theorem pe_callB (hc:CallR X (.builtin id) r) (hg:Gl X x) (hm:X.mg x = none) (hv:bootBuiltins x = some (.builtin id)) (ha:PA X (e :: es) t) (hn:x≠"__name__":=by decide) (hdb:(x == ("__debug__":Str)) = false:=by decide)
    (he:starEach (e :: es) X.env = (false,eval e X.env) :: starEach es X.env:=by rfl) (hpl:(backTo pos (starEach es X.env)).any (·.1) = false:=by rfl):PE X (.Call (.Name x p) (e :: es) [] pos) (tCB r t):=by
  intro pins s σ H Q I h
  refine wpAny_Call_Name_kw (ld_blt I hg hm hv ?_ hn hdb)
  exact PyProof.Rows.callWith_builtin1 (thn (ha pos pins s σ H _ I h) fun us s1 ⟨vs,H1,I1,r1,q1⟩=>hc pins s1 σ H1 vs us Q I1 r1 q1) he hpl
theorem pe_callTy (hc:CallR X (.type T) r) (hg:Gl X x) (hm:X.mg x = none) (hv:bootBuiltins x = some (.type T)) (ha:PA X (e :: es) t) (hn:x≠"__name__":=by decide) (hdb:(x == ("__debug__":Str)) = false:=by decide)
    (he:starEach (e :: es) X.env = (false,eval e X.env) :: starEach es X.env:=by rfl) (hpl:(backTo pos (starEach es X.env)).any (·.1) = false:=by rfl):PE X (.Call (.Name x p) (e :: es) [] pos) (tCB r t):=by
  intro pins s σ H Q I h
  refine wpAny_Call_Name_kw (ld_blt I hg hm hv ?_ hn hdb)
  exact PyProof.Rows.callWith_type1 (thn (ha pos pins s σ H _ I h) fun us s1 ⟨vs,H1,I1,r1,q1⟩=>hc pins s1 σ H1 vs us Q I1 r1 q1) he hpl
end
end L2
namespace HT
open PySem PyProof.Rows
def lexLt:List Int→List Int→Bool
  | [], []=>false
  | [],_ :: _=>true
  | _ :: _, []=>false
  | x :: xs,y :: ys=>if x = y then lexLt xs ys else decide (x < y)
section
open PySem.SeqAt
open PySem.AutoSeq1 (wpAny_loadPart')
open PySem.MeetsSeq PySem.MeetsSeq2 PySem.MeetsSeq3
end
section
variable {prog:Program} {w:World} {A:Around} {E:Value→Shared→Prop} {s:Shared}
def sIx (n d:Nat):Option Int→Nat
  | none=>d
  | some v=>if v < 0 then (v + (n:Int)).toNat else min v.toNat n
theorem sIx_none (n d:Nat):sIx n d none = d:=rfl
theorem sIx_nat (n d k:Nat):sIx n d (some (k:Int)) = min k n:=by
  show (if (k:Int) < 0 then ((k:Int) + (n:Int)).toNat else min (k:Int).toNat n) = min k n
  rw [if_neg (by omega),Int.toNat_natCast]
end
end HT
namespace L2
open PySem PySem.Spec PyProof.Rows
abbrev TO:=St→Hp→(Option Int→Hp→Prop)→Prop
def PO (X:Cx) (e:Option Expr) (t:TO):Prop:=
  ∀ (pins:List (Addr×Obj)) (s:Shared) (σ:St) (H:Hp) (Q:Option Int→Hp→Prop),Inv X pins σ H s→t σ H Q→
    wpAny (model X.prog X.w) X.A (evalPart e X.env) (fun u s'=>∃o H',Inv X pins σ H' s'∧IsPart u o∧Q o H') X.xe s
def tNoPart:TO:=fun _ H Q=>Q none H
def tPart (t:TE):TO:=fun σ H Q=>t σ H fun x H1=>∃i,x = .int i∧Q (some i) H1
section
variable {X:Cx} {e:Expr} {te:TE} {lo hi:Option Expr} {tl th:TO} {pos p2:Pos}
theorem po_none:PO X none tNoPart:=by
  intro pins s σ H Q I h
  rw [evalPart_none]
  exact wpAny_pure ⟨none,H,I,.none,h⟩
theorem po_some (h:PE X e te):PO X (some e) (tPart te):=by
  intro pins s σ H Q I hw
  rw [evalPart_some]
  refine thn (h pins s σ H _ I hw) fun u s1 ⟨x,H1,I1,r1,q1⟩=>?_
  obtain⟨i,rfl,q⟩:=q1
  obtain⟨t,rfl⟩:=r1
  exact⟨some i,H1,I1,.int i t,q⟩
def SlR (X:Cx) (r:V→Option Int→Option Int→Hp→VK→Prop):Prop:=
  ∀ (pins:List (Addr×Obj)) (s:Shared) (σ:St) (H:Hp) (x:V) (v vl vu:Value) (lo hi:Option Int) (sl:Addr) (Q:VK),Inv X pins σ H s→RelV x v→s.heap.IsSliceOf sl vl vu .none→IsPart vl lo→IsPart vu hi→r x lo hi H Q→
    ∃T id,typeLookup (.type T) "__getitem__" = pure (some (.builtin id))∧s.TypeIs v T∧wpAny (model X.prog X.w) X.A (getItem v (.ref sl)) (EP X pins σ Q) X.xe s
def tSl (r:V→Option Int→Option Int→Hp→VK→Prop) (te:TE) (tl th:TO):TE:=fun σ H Q=>te σ H fun x H1=>tl σ H1 fun l H2=>th σ H2 fun u H3=>r x l u H3 Q
theorem pe_slice {r:V→Option Int→Option Int→Hp→VK→Prop} (hr:SlR X r) (he:PE X e te) (hl:PO X lo tl) (hu:PO X hi th):PE X (.Subscript e (.Slice lo hi none p2) pos) (tSl r te tl th):=by
  intro pins s σ H Q I h
  refine Subscript_ (thn (he pins s σ H _ I h) fun v s1 ⟨x,H1,I1,r1,q1⟩=>?_)
  refine wpAny_Slice (thn (hl pins s1 σ H1 _ I1 q1) fun vl s2 ⟨l,H2,I2,pl,q2⟩=>thn (hu pins s2 σ H2 _ I2 q2) fun vu s3 ⟨u,H3,I3,pu,q3⟩=>?_)
  rw [evalPart_none]
  refine wpAny_pure ?_
  have I4:Inv X pins σ H3 { s3 with heap:=s3.heap.push { cls:= .type "slice",data:= .fields #[vl,vu,.none] } }:=I3.kept (t':=s3.toks) fun b ob q=>Heap.get?_push_of_some _ q
  obtain⟨T,id,hT,ht,hg⟩:=hr pins { s3 with heap:=s3.heap.push { cls:= .type "slice",data:= .fields #[vl,vu,.none] } } σ H3 x v vl vu l u s3.heap.objs.size Q I4 r1 (Heap.IsSliceOf.new ..) pl pu q3
  show wpAny (model X.prog X.w) X.A (subscriptTail e (.Slice lo hi none p2) v (.ref s3.heap.objs.size)) (EP X pins σ Q) X.xe { s3 with heap:=s3.heap.push { cls:= .type "slice",data:= .fields #[vl,vu,.none] } }
  exact tail_any (ops:=[.ref s3.heap.objs.size,v]) ht hT hg (by with_unfolding_all rfl)
def cutV (xs:List V) (lo hi:Option Int):List V:=(xs.drop (HT.sIx xs.length 0 lo)).take (HT.sIx xs.length xs.length hi - HT.sIx xs.length 0 lo)
theorem cutV_length (xs:List V) (lo hi:Option Int):(cutV xs lo hi).length≤xs.length:=by
  unfold cutV
  rw [List.length_take,List.length_drop]
  omega
def rSlT (K:PySem.W.Frag):V→Option Int→Option Int→Hp→VK→Prop:=fun x lo hi H Q=>∃a xs,x = .ref a∧SqT K H a xs∧
  ¬ (HT.sIx xs.length 0 lo = 0∧HT.sIx xs.length xs.length hi = xs.length)∧∀p,H p = none→Q (.ref p) (upd H p (.tup (cutV xs lo hi)))
def rLtT (K:PySem.W.Frag):R2:=fun x y H Q=>∃a b ns ms,x = .ref a∧y = .ref b∧SqT K H a (ns.map V.int)∧SqT K H b (ms.map V.int)∧Q (.bl (HT.lexLt ns ms)) H
def rCatT (K:PySem.W.Frag):R2:=fun x y H Q=>∃a b xs ys,x = .ref a∧y = .ref b∧SqT K H a xs∧SqT K H b ys∧xs≠ []∧xs.length + ys.length≤sizeLine∧
  (ys = []→Q (.ref a) H)∧(ys≠ []→∀p,H p = none→Q (.ref p) (upd H p (.tup (xs ++ ys))))
end
end L2
namespace L2
open PySem PySem.Spec PyProof.Rows
def ixN (n:Nat) (i:Int):Option Nat:=if 0≤i then (if i < n then some i.toNat else none) else if -(n:Int)≤i then some (i + n).toNat else none
def atI {α:Type} (xs:List α) (i:Int):Option α:=(ixN xs.length i).bind fun j=>xs[j]?
theorem ixN_seq {n:Nat} {i:Int} {j:Nat} (h:ixN n i = some j):seqIndex? i n = some j∧j < n∧ -(n:Int)≤i∧i < n:=by
  unfold ixN at h
  by_cases h0:0≤i
  · rw [if_pos h0] at h
    by_cases h1:i < n
    · rw [if_pos h1] at h
      have e:i.toNat = j:=Option.some.inj h
      exact⟨by rw [seqIndex_of h0 h1,e],by omega,by omega,h1⟩
    · rw [if_neg h1] at h;cases h
  · rw [if_neg h0] at h
    by_cases h1: -(n:Int)≤i
    · rw [if_pos h1] at h
      have e:(i + n).toNat = j:=Option.some.inj h
      exact⟨by rw [seqIndex_neg (by omega) h1,e],by omega,h1,by omega⟩
    · rw [if_neg h1] at h;cases h
theorem atI_get {α:Type} {xs:List α} {i:Int} {v:α} (h:atI xs i = some v):∃j,seqIndex? i xs.length = some j∧xs[j]? = some v∧j < xs.length∧ -(xs.length:Int)≤i∧i < xs.length:=by
  unfold atI at h
  cases e:ixN xs.length i with
  | none=>rw [e] at h;cases h
  | some j=>
    rw [e] at h
    obtain⟨h1,h2,h3,h4⟩:=ixN_seq e
    exact⟨j,h1,h,h2,h3,h4⟩
theorem atI_nat {α:Type} {xs:List α} {j:Nat} {v:α} (h:xs[j]? = some v):atI xs (j:Int) = some v:=by
  have hj:j < xs.length:=(List.getElem?_eq_some_iff.mp h).1
  have e:ixN xs.length (j:Int) = some j:=by
    unfold ixN
    rw [if_pos (by omega),if_pos (by omega)];simp
  unfold atI;rw [e];exact h
def PlainIx (b:Expr):Prop:=∀o i,subscripted b false o i = operate [o,i] (getItem o i)
def IxR (X:Cx) (r:R2):Prop:=
  ∀ (value slice:Expr) (pins:List (Addr×Obj)) (s:Shared) (σ:St) (H:Hp) (x y:V) (v u:Value) (Q:VK),Inv X pins σ H s→RelV x v→RelV y u→r x y H Q→
    subscripted slice false v u = operate [v,u] (getItem v u)→wpAny (model X.prog X.w) X.A (subscriptTail value slice v u) (EP X pins σ Q) X.xe s
def MtR (X:Cx) (id:String) (r:V→List V→Hp→VK→Prop):Prop:=
  ∀ (pins:List (Addr×Obj)) (s:Shared) (σ:St) (H:Hp) (x:V) (xs:List V) (v:Value) (us:List Value) (Q:VK),Inv X pins σ H s→RelV x v→Vals xs us→r x xs H Q→
    wpAny (model X.prog X.w) X.A (call (.builtin id) (v :: us)) (EP X pins σ Q) X.xe s
section
variable {X:Cx} {a b:Expr} {ta tb:TE} {pos:Pos}
theorem pe_ix {r:R2} (hr:IxR X r) (ha:PE X a ta) (hb:PE X b tb) (hs:PlainIx b):PE X (.Subscript a b pos) (tOp r ta tb):=by
  intro pins s σ H Q I h
  exact Subscript_ (binT ha hb I h fun v u s2 x y H2 I2 rx ry q=>hr a b pins s2 σ H2 x y v u Q I2 rx ry q (hs _ _))
def rIxL (K:PySem.W.Frag):R2:=fun x y H Q=>∃p xs i v,x = .ref p∧y = .int i∧SqL K H p xs∧atI xs i = some v∧Q v H
def rIxT (K:PySem.W.Frag):R2:=fun x y H Q=>∃p xs i v,x = .ref p∧y = .int i∧SqT K H p xs∧atI xs i = some v∧Q v H
def rIxS:R2:=fun x y H Q=>∃z i c,x = .str z∧y = .int i∧z.length≤sizeLine∧atI z.cps.toList i = some c∧Q (.str ⟨#[c]⟩) H
theorem ix_list:IxR X (rIxL X.K):=by
  intro value slice pins s σ H x y v u Q I rx ry h hs
  obtain⟨p,xs,i,z,rfl,rfl,hq,he,q⟩:=h
  cases rx
  obtain⟨t,rfl⟩:=ry
  obtain⟨its,r,pl,hz⟩:=I.list hq
  obtain⟨j,h1,h2,h3,h4,h5⟩:=atI_get he
  obtain⟨w,ew,rw'⟩:=r.get h2
  have hl:=r.length
  have hn:=line63
  have fin:EP X pins σ Q w s:=⟨z,H,I,rw',q⟩
  by_cases h0:0≤i
  · have hj:i.toNat = j:=by
      rw [seqIndex_of h0 h5] at h1
      exact Option.some.inj h1
    exact item_listR pl.isList h0 (by omega) (by rw [hj];simpa using ew) fin hs
  · have hj:(i + (its.toArray.size:Int)).toNat = j:=by
      rw [seqIndex_neg (by omega) h4] at h1
      rw [List.size_toArray,←hl]
      exact Option.some.inj h1
    exact subscriptTail_builtinR (x:=w) pl.isList.typeIs slot_list_getitem.lookup
      (wpAny_getItem_list_neg (Q:=fun r s'=>r = w∧EP X pins σ Q r s') pl.isList (by omega) (by rw [List.size_toArray] <;> omega) (by omega) (by rw [hj];simpa using ew) ⟨rfl,fin⟩) hs
theorem ix_tup:IxR X (rIxT X.K):=by
  intro value slice pins s σ H x y v u Q I rx ry h hs
  obtain⟨p,xs,i,z,rfl,rfl,hq,he,q⟩:=h
  cases rx
  obtain⟨t,rfl⟩:=ry
  obtain⟨its,r,pl,hz⟩:=I.tuple hq
  obtain⟨j,h1,h2,h3,h4,h5⟩:=atI_get he
  obtain⟨w,ew,rw'⟩:=r.get h2
  have hl:=r.length
  have hn:=line63
  have fin:EP X pins σ Q w s:=⟨z,H,I,rw',q⟩
  exact subscriptTail_builtinR (x:=w) pl.typeIs slot_tuple_getitem.lookup
    (getItem_tuple (j:=j) (Q:=fun r s'=>r = w∧EP X pins σ Q r s') pl (by omega) (by omega) (by rw [List.size_toArray,←hl];exact h1) (by simpa using ew) ⟨rfl,fin⟩) hs
def rIx (K:PySem.W.Frag):R2:=fun x y H Q=>rIxL K x y H Q∨rIxT K x y H Q∨rIxS x y H Q
def rSetL:V→V→V→Hp→(Hp→Prop)→Prop:=fun o i v H Q=>∃p xs k j,o = .ref p∧i = .int k∧H p = some (.lst xs)∧ixN xs.length k = some j∧Q (upd H p (.lst (xs.set j v)))
theorem slice_bounds (lo hi:Option Int) (n:Nat):(sliceBounds lo hi none n).1 = ((HT.sIx n 0 lo:Nat):Int)∧(sliceBounds lo hi none n).2.1 = ((HT.sIx n n hi:Nat):Int)∧(sliceBounds lo hi none n).2.2 = 1:=by
  refine⟨?_,?_,rfl⟩
  · cases lo with
    | none=>simp [sliceBounds,HT.sIx]
    | some i=>
      simp only [sliceBounds,HT.sIx,Option.getD_none,show (1:Int) > 0 by decide,if_true]
      by_cases h:i < 0
      · simp only [h,if_true] <;> omega
      · simp only [h,if_false] <;> omega
  · cases hi with
    | none=>simp [sliceBounds,HT.sIx]
    | some i=>
      simp only [sliceBounds,HT.sIx,Option.getD_none,show (1:Int) > 0 by decide,if_true]
      by_cases h:i < 0
      · simp only [h,if_true] <;> omega
      · simp only [h,if_false] <;> omega
theorem slicePick_cut (its:List Value) (lo hi:Option Int):slicePick its.toArray lo hi none = ((its.drop (HT.sIx its.length 0 lo)).take (HT.sIx its.length its.length hi - HT.sIx its.length 0 lo)).toArray:=by
  obtain⟨h1,h2,h3⟩:=slice_bounds lo hi its.toArray.size
  unfold slicePick
  rw [h1,h2,h3]
  simp only [sliceRange_one,pick_run,List.size_toArray] <;> rfl
def rSlL (K:PySem.W.Frag):V→Option Int→Option Int→Hp→VK→Prop:=fun x lo hi H Q=>∃a xs,x = .ref a∧SqL K H a xs∧∀p,H p = none→Q (.ref p) (upd H p (.lst (cutV xs lo hi)))
theorem sl_list:SlR X (rSlL X.K):=by
  intro pins s σ H x v vl vu lo hi sl Q I rx hs pl pu h
  obtain⟨a,xs,rfl,hx,q⟩:=h
  cases rx
  obtain⟨its,r,ht,hz⟩:=I.list hx
  have hlen:=r.length
  refine⟨"list",_,slot_list_getitem.lookup,ht.isList.typeIs,?_⟩
  refine wpAny_getItem_list_slice ht.isList hs pl pu .none (by simp) ?_ (by rw [List.size_toArray] <;> omega)
  rw [slicePick_cut,←hlen]
  refine⟨.ref s.heap.objs.size,_,I.laid (t':=s.toks) (o:= .lst (cutV xs lo hi)) (fun b ob q=>Heap.get?_push_of_some _ q) (Nat.le_refl _) ?_,rfl,q _ (I.hok.fresh (Nat.le_refl _))⟩
  exact⟨Nat.le_trans (cutV_length xs lo hi) hz,_,0,(r.drop (HT.sIx xs.length 0 lo)).take (HT.sIx xs.length xs.length hi - HT.sIx xs.length 0 lo),Heap.get?_push_size _ rfl⟩
def flatV:V→Bool
  | .non=>true
  | .bl _=>true
  | .int _=>true
  | .str _=>true
  | _=>false
def eqV:V→V→Bool
  | .non,.non=>true
  | .bl a,.bl b=>a == b
  | .bl a,.int b=>(if a then 1 else 0) == b
  | .int a,.bl b=>a == (if b then 1 else 0)
  | .int a,.int b=>a == b
  | .str a,.str b=>a == b
  | _,_=>false
def eqU (x:V) (u:Value):Bool:=match u with
  | .none=>eqV .non x
  | .bool b=>eqV (.bl b) x
  | .int i _=>eqV (.int i) x
  | .str z _=>eqV (.str z) x
  | _=>false
def inV (x:V) (xs:List V):Bool:=xs.any fun y=>eqV y x
def rIn (K:PySem.W.Frag) (neg:Bool):R2:=fun x y H Q=>∃p xs,y = .ref p∧(SqL K H p xs∨SqT K H p xs)∧flatV x = true∧xs.all flatV = true∧Q (.bl (if neg then !inV x xs else inV x xs)) H
theorem call_len_seq:CallR X (.builtin "len") (fun xs H Q=>∃p ys,xs = [.ref p]∧(SqL X.K H p ys∨SqT X.K H p ys)∧Q (.int ys.length) H):=by
  intro pins s σ H xs us Q I r h
  obtain⟨p,ys,rfl,hq,q⟩:=h
  obtain⟨u,rfl,rx⟩:=vals1 r
  cases rx
  have hn:=line63
  rcases hq with hq | hq
  · obtain⟨its,r',pl,hz⟩:=I.list hq
    have hlen:=r'.length
    exact Calls.call_len_list pl.isList (by simp only [List.size_toArray] <;> omega) ⟨.int ys.length,H,I.tok _,⟨s.toks + 1,by rw [List.size_toArray,hlen]⟩,q⟩
  · obtain⟨its,r',pl,hz⟩:=I.tuple hq
    have hlen:=r'.length
    exact len_tuple pl (by simp only [List.size_toArray] <;> omega) ⟨.int ys.length,H,I.tok _,⟨s.toks + 1,by rw [List.size_toArray,hlen]⟩,q⟩
theorem call_list_of:CallR X (.type "list") (fun xs H Q=>∃p ys,xs = [.ref p]∧(SqL X.K H p ys∨SqT X.K H p ys)∧∀l,H l = none→Q (.ref l) (upd H l (.lst ys))):=by
  intro pins s σ H xs us Q I r h
  obtain⟨p,ys,rfl,hq,q⟩:=h
  obtain⟨u,rfl,rx⟩:=vals1 r
  cases rx
  have fin:∀(its:List Value),Vals ys its→ys.length≤sizeLine→∀(h':Heap) (c':Nat),(∀b o',s.heap.get? b = some o'→h'.get? b = some o')→
      h'.get? s.heap.objs.size = some { cls:= .type "list",dict:=none,data:= .seq its.toArray c',slots:=#[] }→EP X pins σ Q (.ref s.heap.objs.size) { s with heap:=h' }:=fun its r' hz h' c' kp e=>
    ⟨.ref s.heap.objs.size,_,I.laid (t':=s.toks) kp (Nat.le_refl _) (show ObjOk X.prog X.w _ h' _ (.lst ys) from ⟨hz,its,c',r',e⟩),rfl,q _ (I.hok.fresh (Nat.le_refl _))⟩
  rcases hq with hq | hq
  · obtain⟨its,r',pl,hz⟩:=I.list hq
    have hlen:=r'.length
    obtain⟨o,ho,hc,n,hd⟩:=pl.isList
    exact call_list_seq p (.inl rfl) ho hc hd (fun h' c' kp e=>fin its r' hz h' c' kp e) (by simp only [List.size_toArray] <;> omega)
  · obtain⟨its,r',pl,hz⟩:=I.tuple hq
    have hlen:=r'.length
    obtain⟨o,ho,hc,n,hd⟩:=pl
    exact call_list_seq p (.inr rfl) ho hc hd (fun h' c' kp e=>fin its r' hz h' c' kp e) (by simp only [List.size_toArray] <;> omega)
def tyV (K:PySem.W.Frag) (T:String) (x:V) (H:Hp):Prop:=match x with
  | .str _=>T = "str"
  | .int _=>T = "int"
  | .ref p=>(T = "list"∧∃xs,SqL K H p xs)∨(T = "tuple"∧∃o,K.lookup p = some o∧o.cls = .type "tuple"∧o.dict = none)∨
      (T = "dict"∧((∃kvs,H p = some (.dK kvs))∨∃kvs,H p = some (.dT kvs)))∨(T = "set"∧∃S n,H p = some (.set S n))
  | _=>False
theorem tyV_is {pins:List (Addr×Obj)} {σ:St} {H:Hp} {s:Shared} {T:String} {x:V} {v:Value} (I:Inv X pins σ H s) (r:RelV x v) (ty:tyV X.K T x H) :
    s.TypeIs v T∧∀a,v = .ref a→∃ob,s.heap.get? a = some ob∧ob.dict = none:=by
  cases x with
  | str z=>
    obtain⟨t,rfl⟩:=r
    cases (show T = "str" from ty)
    exact⟨typeIs_str s z t,fun _ e=>nomatch e⟩
  | int i=>
    obtain⟨t,rfl⟩:=r
    cases (show T = "int" from ty)
    exact⟨typeIs_int s i t,fun _ e=>nomatch e⟩
  | ref p =>
    cases r
    rcases ty with ⟨rfl,xs,hq⟩ | ⟨rfl,o,hk,hc,hd⟩ | ⟨rfl,hk⟩ | ⟨rfl,S,n,hk⟩
    · obtain⟨its,_,pl,_⟩:=I.list hq
      refine⟨pl.isList.typeIs,fun a e=>?_⟩
      cases e
      obtain⟨o,n,e,c,hd,_⟩:=pl
      exact⟨o,e,hd⟩
    · refine⟨⟨o,I.kIn p o hk,hc⟩,fun a e=>?_⟩
      cases e
      exact⟨o,I.kIn _ o hk,hd⟩
    · have z:∃o,s.heap.get? p = some o∧o.ExactDict:=by
        rcases hk with ⟨kvs,hk⟩ | ⟨kvs,hk⟩
        · obtain⟨_,_,_,_,o,_,_,e,ex,_⟩:=I.hok p _ hk
          exact⟨o,e,ex⟩
        · obtain⟨_,_,_,_,o,_,_,e,ex,_⟩:=I.hok p _ hk
          exact⟨o,e,ex⟩
      obtain⟨o,e,ex⟩:=z
      refine⟨⟨o,e,ex.1⟩,fun a e2=>?_⟩
      cases e2
      exact⟨o,e,ex.2.1⟩
    · obtain⟨o,_,_,_,e,ex,_⟩:=I.hok p _ hk
      refine⟨⟨o,e,ex.1⟩,fun a e2=>?_⟩
      cases e2
      exact⟨o,e,ex.2.1⟩
  | _=>exact False.elim ty
def tBM0 (K:PySem.W.Frag) (T:String) (r:V→List V→Hp→VK→Prop) (to:TE):TE:=fun σ H Q=>to σ H fun x H1=>tyV K T x H1∧r x [] H1 Q
def tBM (K:PySem.W.Frag) (T:String) (r:V→List V→Hp→VK→Prop) (to:TE) (t:TA):TE:=fun σ H Q=>to σ H fun x H1=>tyV K T x H1∧t σ H1 fun xs H2=>r x xs H2 Q
variable {o e:Expr} {es:List Expr} {to:TE} {t:TA} {name:Str} {apos cpos:Pos} {T id:String} {r:V→List V→Hp→VK→Prop}
theorem pe_bm0 (pa:PlainAttrs T) (slot:Slot T name id) (hty:typeOf (.builtin id) = pure (.type "method_descriptor")) (hm:MtR X id r) (ho:PE X o to)
    (hbase:attributeBase o name X.env (eval o X.env) = eval o X.env:=by rfl) (hline:(apos.endLine == cpos.line) = true:=by rfl):PE X (.Call (.Attribute o name apos) [] [] cpos) (tBM0 X.K T r to):=by
  intro pins s σ H Q I h
  refine wpAny_Call_method0_late hbase hline (thn (ho pins s σ H _ I h) fun v s1 ⟨x,H1,I1,r1,ty,q1⟩=>?_)
  obtain⟨h1,h2⟩:=tyV_is I1 r1 ty
  exact⟨T,id,pa,slot,hty,h1,h2,Calls.callWith_builtin rfl (PySem.evalArgs_none (hm pins s1 σ H1 x [] v [] Q I1 r1 .nil q1))⟩
theorem pe_bm (pa:PlainAttrs T) (slot:Slot T name id) (hty:typeOf (.builtin id) = pure (.type "method_descriptor")) (hm:MtR X id r) (ho:PE X o to) (ha:PA X (e :: es) t)
    (hbase:attributeBase o name X.env (eval o X.env) = eval o X.env:=by rfl)
    (hfew:((backTo cpos (starEach (e :: es) X.env)).all (fun x=>!x.1) && (backToKw cpos (keywordEach [] X.env)).all (fun x=>x.1.isSome)
      && decide ((e :: es).length + ([]:List Keyword).length + (if ([]:List Keyword).isEmpty then 0 else 1) < 30)) = true:=by rfl)
    (hline:(apos.endLine == cpos.line) = true:=by rfl) (hs:starEach (e :: es) X.env = (false,eval e X.env) :: starEach es X.env:=by rfl) (hplain:(backTo cpos (starEach es X.env)).any (·.1) = false:=by rfl) :
    PE X (.Call (.Attribute o name apos) (e :: es) [] cpos) (tBM X.K T r to t):=by
  intro pins s σ H Q I h
  refine wpAny_Call_method_late hbase hfew hline rfl (thn (ho pins s σ H _ I h) fun v s1 ⟨x,H1,I1,r1,ty,q1⟩=>?_)
  obtain⟨h1,h2⟩:=tyV_is I1 r1 ty
  refine⟨T,id,pa,slot,hty,h1,h2,?_⟩
  have hA:=ha cpos pins s1 σ H1 _ I1 q1
  rw [hs] at hA ⊢
  refine Calls.callWith_builtin (by show (false || (backTo cpos (starEach es X.env)).any (·.1)) = false;rw [hplain] <;> rfl) (Calls.evalArgs_plain ?_)
  exact thn hA fun us s2 ⟨vs,H2,I2,r2,q2⟩=>hm pins s2 σ H2 x vs v us Q I2 r1 r2 q2
end
end L2
namespace L2
open PySem PySem.Spec PyProof.Rows
def MtM (X:Cx) (id:String) (r:V→List V→Hp→VK→Prop):Prop:=
  ∀ (pins:List (Addr×Obj)) (s:Shared) (σ:St) (H:Hp) (x:V) (xs:List V) (v:Value) (us:List Value) (Q:VK),Inv X pins σ H s→RelV x v→Vals xs us→r x xs H Q→
    wpAny (model X.prog X.w) X.A (call (.builtin id) (v :: us)) (EP X pins σ Q) X.xe s
theorem Vals.one:∀{x:V} {us:List Value},Vals [x] us→∃u,us = [u]∧RelV x u
  | _,_,.cons r .nil=>⟨_,rfl,r⟩
theorem Vals.two:∀{x y:V} {us:List Value},Vals [x,y] us→∃u v,us = [u,v]∧RelV x u∧RelV y v
  | _,_,_,.cons r (.cons q .nil)=>⟨_,_,rfl,r,q⟩
theorem Vals.zero:∀{us:List Value},Vals [] us→us = []
  | _,.nil=>rfl
theorem Vals.dropLast {xs:List V} {us:List Value} (h:Vals xs us):Vals xs.dropLast us.dropLast:=by
  induction h with
  | nil=>exact .nil
  | cons r t ih=>
    cases t with
    | nil=>exact .nil
    | cons q t'=>exact .cons r ih
theorem erase_last {α:Type} (l:List α):l.eraseIdx (l.length - 1) = l.dropLast:=by
  induction l with
  | nil=>rfl
  | cons a r ih=>
    cases r with
    | nil=>rfl
    | cons b r=>
      have e:(a :: b :: r).length - 1 = ((b :: r).length - 1) + 1:=by
        have h1:(a :: b :: r).length = r.length + 2:=rfl
        have h2:(b :: r).length = r.length + 1:=rfl
        omega
      rw [e,List.eraseIdx_cons_succ,ih]
      all_goals rfl
section
variable {X:Cx} {pins:List (Addr×Obj)} {σ:St} {H:Hp} {s:Shared} {l b:Addr} {xs ys zs:List V}
theorem Inv.lset {its its':List Value} {n:Nat} {f:Array Value→Array Value} {t':Nat} (I:Inv X pins σ H s) (hH:H l = some (.lst xs))
    (e:s.heap.get? l = some { cls:= .type "list",data:= .seq its.toArray n }) (hf:f its.toArray = its'.toArray) (hv:Vals ys its') (hz:ys.length≤sizeLine) :
    Inv X pins σ (upd H l (.lst ys)) { s with heap:=s.heap.update l (Obj.mapSeq f),toks:=t' }:=by
  have q:=PySem.IsL.update e f
  rw [hf] at q
  refine I.write (x:=l) (e:=l) (by rw [hH];exact trivial) (.inl rfl) (fun b' u hb hu=>(Heap.get?_update_other s.heap (Obj.mapSeq f) (Ne.symm hb)).trans hu) ⟨_,q⟩ ?_
  exact⟨hz,its',_,hv,q⟩
theorem Inv.lnew {its:List Value} {t':Nat} (I:Inv X pins σ H s) (hv:Vals ys its) (hz:ys.length≤sizeLine) :
    Inv X pins σ (upd H s.heap.objs.size (.lst ys)) { s with heap:=s.heap.push { cls:= .type "list",data:= .seq its.toArray },toks:=t' }:=
  I.laid (fun _ _ q=>Heap.get?_push_of_some _ q) (Nat.le_refl _) ⟨hz,its,0,hv,Heap.get?_push_size _ rfl⟩
theorem Inv.fresh (I:Inv X pins σ H s):H s.heap.objs.size = none:=I.hok.fresh (Nat.le_refl _)
theorem Inv.lstM (I:Inv X pins σ H s) (hH:H l = some (.lst xs)):xs.length≤sizeLine∧∃(its:List Value) (n:Nat),Vals xs its∧xs.length = its.length∧s.heap.get? l = some { cls:= .type "list",data:= .seq its.toArray n }:=by
  obtain⟨z,its,n,r,e⟩:=I.hok l _ hH
  exact⟨z,its,n,r,r.length,e⟩
theorem notLongL {n:Nat} (h:n≤sizeLine):Builtin.List.listTooLong n = false:=by
  unfold Builtin.List.listTooLong
  exact decide_eq_false (by omega)
end
section
variable {X:Cx}
def rAppend:V→List V→Hp→VK→Prop:=fun x vs H Q=>∃l xs y,x = .ref l∧vs = [y]∧H l = some (.lst xs)∧xs.length < sizeLine∧Q .non (upd H l (.lst (xs ++ [y])))
theorem mt_append:MtM X "list.append" rAppend:=by
  intro pins s σ H x vs v us Q I rx rv h
  obtain⟨l,xs,y,rfl,rfl,hH,hz,q⟩:=h
  cases rx
  obtain⟨u,rfl,ru⟩:=rv.one
  obtain⟨z,its,n,r,hl,e⟩:=I.lstM hH
  refine call_meets F.slot_list_append ⟨_,e,rfl⟩ F.entry_list_append (F.args_list_append_2 _ _) (PySem.list_append l its.toArray n u (by rw [List.size_toArray];omega)) ⟨e,?_⟩
  refine⟨.non,_,I.lset (its':=its ++ [u]) hH e (by simp) (r.append (.cons ru .nil)) ?_,rfl,q⟩
  rw [List.length_append,List.length_singleton]
  omega
def rExtend:V→List V→Hp→VK→Prop:=fun x vs H Q=>∃l b xs zs,x = .ref l∧vs = [.ref b]∧H l = some (.lst xs)∧H b = some (.lst zs)∧xs.length + zs.length≤sizeLine∧Q .non (upd H l (.lst (xs ++ zs)))
theorem mt_extend:MtM X "list.extend" rExtend:=by
  intro pins s σ H x vs v us Q I rx rv h
  obtain⟨l,b,xs,zs,rfl,rfl,hH,hB,hz,q⟩:=h
  cases rx
  obtain⟨u,rfl,ru⟩:=rv.one
  cases ru
  obtain⟨z,its,n,r,hl,e⟩:=I.lstM hH
  obtain⟨z2,its2,n2,r2,hl2,e2⟩:=I.lstM hB
  have hsz:its.toArray.size + its2.toArray.size≤sizeLine:=by rw [List.size_toArray,List.size_toArray];omega
  have hlong:¬ (!its.toArray.isEmpty && Builtin.List.listTooLong (its.toArray.size + its2.toArray.size)) = true:=by
    rw [notLongL hsz,Bool.and_false]
    exact Bool.false_ne_true
  refine call_meets F.slot_list_extend ⟨_,e,rfl⟩ F.entry_list_extend (F.args_list_extend_2 _ _)
    (AutoSeq1.list_extend_list_list_0 l its.toArray n b its2.toArray n2 hlong (by rw [List.size_toArray];omega) (by omega)) ⟨e,e2,?_⟩
  refine⟨.non,_,I.lset (its':=its ++ its2) hH e (by simp) (r.append r2) ?_,rfl,q⟩
  rw [List.length_append]
  omega
def rPop:V→List V→Hp→VK→Prop:=fun x vs H Q=>∃l xs y,x = .ref l∧vs = []∧H l = some (.lst xs)∧xs[xs.length - 1]? = some y∧Q y (upd H l (.lst xs.dropLast))
theorem mt_pop:MtM X "list.pop" rPop:=by
  intro pins s σ H x vs v us Q I rx rv h
  obtain⟨l,xs,y,rfl,rfl,hH,hy,q⟩:=h
  cases rx
  have hus:=rv.zero
  subst hus
  obtain⟨z,its,n,r,hl,e⟩:=I.lstM hH
  obtain⟨u,hu,ru⟩:=r.get hy
  have hy':its.toArray[its.toArray.size - 1]? = some u:=by
    show its.toArray[its.length - 1]? = some u
    rw [←Array.getElem?_toList,←hl]
    exact hu
  refine call_meets F.slot_list_pop ⟨_,e,rfl⟩ F.entry_list_pop (F.args_list_pop_1 _) (MeetsSeq.list_pop_last l its.toArray n u hy' (by rw [List.size_toArray];omega)) ⟨e,?_⟩
  refine⟨y,_,I.lset (its':=its.dropLast) hH e ?_ r.dropLast ?_,ru,q⟩
  · show its.toArray.eraseIdxIfInBounds (its.toArray.size - 1) = its.dropLast.toArray
    rw [List.size_toArray,List.eraseIdxIfInBounds_toArray,erase_last]
  · rw [List.length_dropLast]
    omega
def rPopAt:V→List V→Hp→VK→Prop:=fun x vs H Q=>∃l xs i k y,x = .ref l∧vs = [.int i]∧H l = some (.lst xs)∧ -(2 ^ 63)≤i∧i < 2 ^ 63∧seqIndex? i xs.length = some k∧xs[k]? = some y∧Q y (upd H l (.lst (xs.eraseIdx k)))
def rReverse:V→List V→Hp→VK→Prop:=fun x vs H Q=>∃l xs,x = .ref l∧vs = []∧H l = some (.lst xs)∧Q .non (upd H l (.lst xs.reverse))
def rClear:V→List V→Hp→VK→Prop:=fun x vs H Q=>∃l xs,x = .ref l∧vs = []∧H l = some (.lst xs)∧Q .non (upd H l (.lst []))
theorem mt_clear:MtM X "list.clear" rClear:=by
  intro pins s σ H x vs v us Q I rx rv h
  obtain⟨l,xs,rfl,rfl,hH,q⟩:=h
  cases rx
  have hus:=rv.zero
  subst hus
  obtain⟨z,its,n,r,hl,e⟩:=I.lstM hH
  refine call_meets F.slot_list_clear ⟨_,e,rfl⟩ F.entry_list_clear (F.args_list_clear_1 _) (AutoSeq1.list_clear_list_0 l its.toArray n (by rw [List.size_toArray];omega)) ⟨e,?_⟩
  exact⟨.non,_,I.lset (its':=[]) (ys:=[]) hH e rfl .nil (Nat.zero_le _),rfl,q⟩
def rCat:R2:=fun x y H Q=>∃l b xs zs,x = .ref l∧y = .ref b∧H l = some (.lst xs)∧H b = some (.lst zs)∧xs.length + zs.length≤sizeLine∧∀p,H p = none→Q (.ref p) (upd H p (.lst (xs ++ zs)))
theorem op_cat:OpR X (binaryOp .Add) rCat:=by
  intro pins s σ H x y v u Q I rx ry h
  obtain⟨l,b,xs,zs,rfl,rfl,hH,hB,hz,q⟩:=h
  cases rx
  cases ry
  obtain⟨z,its,n,r,hl,e⟩:=I.lstM hH
  obtain⟨z2,its2,n2,r2,hl2,e2⟩:=I.lstM hB
  refine PySem.P.add_list e e2 ?_ (by rw [List.size_toArray,List.size_toArray];omega)
  have ea:its.toArray ++ its2.toArray = (its ++ its2).toArray:=by simp
  rw [ea]
  exact⟨.ref _,_,I.lnew (t':=s.toks) (r.append r2) (by rw [List.length_append];omega),rfl,q _ I.fresh⟩
def rRep:R2:=fun x y H Q=>∃l k xs,x = .ref l∧y = .int k∧H l = some (.lst xs)∧ -(2 ^ 63)≤k∧k < 2 ^ 63∧xs.length * k.toNat≤sizeLine∧
  ∀p,H p = none→Q (.ref p) (upd H p (.lst (List.replicate k.toNat xs).flatten))
end
section
variable {prog:Program} {w:World} {A:Around} {E:Value→Shared→Prop} {s:Shared}
end
section
variable {X:Cx}
end
end L2
namespace Att
open PySem PySem.W PySem.Calls PyProof.Rows
theorem ints_of_wellAll {P:Params} {h:Heap}:∀(ns:List Int) (vs:List Value),WellAll P h vs (ns.map WData.int)→IntsAre vs ns:=by
  intro ns
  induction ns with
  | nil=>
    intro vs w
    rw [List.map_nil] at w
    cases w
    exact .nil
  | cons n ns ih=>
    intro vs w
    rw [List.map_cons] at w
    cases w with
    | cons a b=>
      cases a
      exact .cons _ _ (ih _ b)
theorem script_of {l:OpenLaw} {n:Nat} (hn:l.most = some n) {P:Params} {h:Heap} {args:List WData} {vals:List Value}
    (hpre:l.row.toRowW.claim.pre args = true) (hwl:WellAll P h vals args) :
    ∃a vs ns,vals = [Value.ref a]∧args = [WData.list (ns.map WData.int)]∧h.get? a = some { cls:= .type "list",data:= .seq vs.toArray }∧IntsAre vs ns∧ns.length≤n:=by
  have hsh:WShape.hasAll [] args [.list .int] = true:=(pre_splitW hpre).1
  have hc:l.pre.holds [] { args:=args } = true:=(pre_splitW hpre).2
  obtain⟨d,r,rfl,h1,h2⟩:=hasAllW_cons hsh
  obtain rfl:=hasAllW_nil h2
  obtain⟨xs,rfl,h3⟩:=hasW_list h1
  obtain⟨ns,rfl⟩:=items_int h3
  have hlen:ns.length≤n:=by
    unfold OpenLaw.pre at hc
    have h4:(WTm.not (.lt (.lit (.int (n:Int))) (.len (.arg 0)))).holds [] { args:=[.list (ns.map .int)] } = true:=by
      have h4:=(holds_andW hc).1
      rw [hn] at h4
      exact h4
    have h5:=condW_of h4 (w_not (w_lt w_lit (w_len_list (w_arg rfl))))
    rw [List.length_map] at h5
    refine Nat.le_of_not_lt fun q=>?_
    have q':(n:Int) < ((ns.length:Nat):Int):=by omega
    first
      | (rw [decide_eq_true q'] at h5;exact absurd h5 (by decide))
      | (simp at h5;omega)
  cases hwl with
  | cons w1 w2=>
    cases w2
    cases w1 with
    | list ho hall=>exact⟨_,_,ns,rfl,rfl,ho,ints_of_wellAll ns _ hall,hlen⟩
theorem post_true (l:OpenLaw) (args:List WData):l.row.toRowW.claim.post args (.bool true) args = true:=
  postW_of (r:=l.row.toRowW) (X:=(true == true))
    (show WShape.has [] (.bool true) .bool = true by first | rfl | decide | simp [WShape.has,WShape.arms,WShape.armsAll])
    (show (WTm.eq .res (.lit (.bool true))).value [] { args:=args,res:=some (.bool true),after:=args } = some (.bool (true == true)) from w_eq_bool (w_res rfl) w_lit) rfl
theorem attach_call {l:OpenLaw} {n:Nat} {q:Program} {loose:List Str} {XP:(Str→Option Value)→Heap→Prop} {YP:World→Heap→Prop} {d:DefRec}
    (hn:l.most = some n) (hdf:d.params.defaults = [])
    (call:∀(w:World) (s₀ s₁:Shared) (mg mb:Str→Option Value) (fa:Addr) (o:Obj) (pm cd doc:Value) (a:Addr) (vs:List Value) (ns:List Int),
      Ground q loose [] XP w s₀ mg mb s₁.heap→YP w s₁.heap→
      s₁.heap.get? fa = some o→o.data = .func (docDef d.name d.params d.body d.scope pm cd doc)→s₁.heap.CodeRec cd d.name→mg d.name = some (.ref fa)→
      s₁.heap.get? a = some { cls:= .type "list",data:= .seq vs.toArray }→IntsAre vs ns→ns.length≤n→s₁.gens = #[]→
      codeAny (model l.prog w) callerA (.call (.ref fa) ⟨[.ref a], []⟩) (fun r s'=>r = .ok (.ret (.bool true))∧OldK s₁.heap s'.heap∧s'.os = s₁.os∧AllBare s'.gens) s₁) :
    WalkO q loose XP YP l.row.toRowW d [] (fun f vs=>PySem.call f vs):=by
  intro w s₀ s₁ mg mb G Y fa o pm cd doc dV kV ho hd hcd hD hmg hg args vals as hpre hlay hrd hwl hlo
  obtain rfl:dV = .none:=Dflts.none hD hdf
  obtain rfl:kV = .none:=Dflts.noKw hD
  obtain⟨a,vs,ns,rfl,rfl,hobj,hints,hlen⟩:=script_of hn hpre hwl
  refine enter_call (codeAny_mono (call w s₀ s₁ mg mb fa o pm cd doc a vs ns G Y ho (fd_plain hd) hcd hmg hobj hints hlen hg) fun r s' hq=>?_)
  obtain⟨rfl,h2,h3,h4⟩:=hq
  exact⟨.inl ⟨.bool true,.bool true, [],rfl,fun _=>rfl,.bool true,post_true l _,fun _=>⟨List.Pairwise.nil,fun _ hm=>(nomatch hm)⟩⟩,h2,h3,h4⟩
section
variable {prog:Program} {w:World} {A:Around} {E:Value→Shared→Prop} {s:Shared} {K:Frag}
def noObjs (h:Heap):Heap:={ h with objs:=#[] }
def ledger (h:Heap) (L d:Addr):List (Addr×Obj):=(List.range h.objs.size).filterMap fun a=>if a = L∨a = d then none else (h.get? a).map fun o=>(a,o)
end
end Att
namespace L2
open PySem PySem.Spec PyProof.Rows
theorem vals_ints:∀{vs:List Value} {ns:List Int},IntsAre vs ns→Vals (ns.map V.int) vs
  | _,_,.nil=> .nil
  | _,_,.cons n t h=> .cons ⟨t,rfl⟩ (vals_ints h)
def Only (H:Hp):Prop:=∀b,H b = none∨∃o xs,H b = some (.frz o (.lst xs))
theorem law_call {P:Program} {w:World} {K:PySem.W.Frag} {mg mb:Str→Option Value} {CX:CXT} {k:Nat} {fa a:Addr} {fd:FuncData} {x:Str} {sp:Sp} {s₁:Shared} {vs:List Value} {ns:List Int}
    (KX:K.In s₁.heap) (hns:s₁.heap.Ns mainGlobals mg) (hb:s₁.heap.Ns builtinsNs mb) (hbb:∀x:Str,x≠"__name__"→mb x = bootBuiltins x) (hlim:s₁.heap.NoLimit) (hg:s₁.gens = #[])
    (ha:s₁.heap.get? a = some { cls:= .type "list",data:= .seq vs.toArray }) (hi:IntsAre vs ns) (hl:ns.length≤sizeLine) (hr:Room k callerA)
    (F:∀base:Heap,K.In base→base.Ns mainGlobals mg→FnOk P w K mg base CX k fa fd [x] sp) (hbind:∀(s:Shared) (u:Value),BindsTo s fd ⟨[u], []⟩ [(x,u)])
    (hsp:∀H:Hp,Only H→SqL K H a (ns.map V.int)→sp [.ref a] H (fun v _=>v = .bl true) fun _ _ _=>False)
    (hCX:∀H e s',CX [] H s₁ (fun _ _ _=>False) e s'→False) :
    codeAny (model P w) callerA (.call (.ref fa) ⟨[.ref a], []⟩) (fun r s'=>r = .ok (.ret (.bool true))∧OldK s₁.heap s'.heap∧s'.os = s₁.os∧AllBare s'.gens) s₁:=by
  have rv:=vals_ints hi
  have lenV:=hi.length
  have core :∀H:Hp,Only H→SqL K H a (ns.map V.int)→HOk P w H s₁.heap→(∀b,H b≠none→b = a)→(H a≠none→K.lookup a = none)→
      codeAny (model P w) callerA (.call (.ref fa) ⟨[.ref a], []⟩) (fun r s'=>r = .ok (.ret (.bool true))∧OldK s₁.heap s'.heap∧s'.os = s₁.os∧AllBare s'.gens) s₁:=by
    intro H hO hS hok hA hK
    have base_of:∀{b:Addr} {o:Obj},s₁.heap.get? b = some o→H b = none→(hidT s₁.heap H).get? b = some o:=fun e n=>hidT_get e n
    have noA:∀{b:Addr} {o:Obj} {es:Array DictEntry} {ep:Nat},s₁.heap.get? b = some o→o.data = .dict es ep→H b = none:=fun {b o es ep} e d=>by
      cases q:H b with
      | none=>rfl
      | some u=>
        have e':b = a:=hA b (by rw [q];simp)
        subst e'
        rw [ha] at e;cases e
        have d':Data.seq vs.toArray _ = Data.dict es ep:=d
        cases d'
    have nsK:∀{b:Addr} {m:Str→Option Value},s₁.heap.Ns b m→(hidT s₁.heap H).Ns b m:=fun {b m} ⟨o,es,ep,e,d,r⟩=>⟨o,es,ep,base_of e (noA e d),d,r⟩
    have hKb:K.In (hidT s₁.heap H):=fun b o e=>base_of (KX b o e) (by
      cases q:H b with
      | none=>rfl
      | some u=>
        have e':b = a:=hA b (by rw [q];simp)
        subst e'
        rw [hK (by rw [q];simp)] at e;cases e)
    have hM:Mod K mg (hidT s₁.heap H):=⟨hKb,nsK hns,⟨mb,nsK hb,hbb⟩,let ⟨mc,h1,h2⟩:=hlim;⟨mc,nsK h1,h2⟩⟩
    have e0:Env0 P w K mg (hidT s₁.heap H) callerA [] s₁ H:=⟨rfl,hM,fun b o e=>of_hidT e,Nat.le_of_eq (hidT_size _ _),trivial,fun b hb=>absurd (show b∈([]:List Addr) from hb) (by simp),hok,.of_eq hg⟩
    refine codeAny_mono ((F _ hKb (nsK hns)).run callerA [] s₁ H ⟨[.ref a], []⟩ [.ref a] [.ref a] _ _ hr e0 (hbind s₁ (.ref a)) (.cons rfl .nil) (hsp H hO hS)) fun r s' h=>?_
    cases r with
    | error e=>exact(hCX H e s' h).elim
    | ok fl =>
      cases fl with
      | next=>exact False.elim h
      | brk=>exact False.elim h
      | cont=>exact False.elim h
      | ret u=>
        obtain⟨v,H',os,bare,un,hok',r',q⟩:=h
        have q':v = .bl true:=q
        subst q'
        obtain rfl:u = Value.bool true:=r'
        refine⟨rfl,OldK.of_keep fun b o e=>?_,os,bare⟩
        cases q:H b with
        | none=>exact un.keep b o e q (by intro z;exact absurd (show b∈([]:List Addr) from z) (by simp)) (by simp)
        | some u=>
          rcases hO b with z | ⟨ob,xs,z⟩
          · rw [q] at z;cases z
          · have z2:=un.frzs b ob _ z
            obtain⟨e1,_⟩:=hok b _ z
            obtain⟨e2,_⟩:=hok' b _ z2
            rw [e] at e1;cases e1
            exact e2
  cases hk:K.lookup a with
  | some o=>
    have e:=KX a o hk
    rw [ha] at e
    cases e
    refine core (fun _=>none) (fun _=> .inl rfl) (.inr ⟨_,vs.toArray,_,hk,rfl,rfl,rfl,by rw [List.size_toArray,lenV];exact hl,by simpa using rv⟩) (fun b u z=>by have z':(none:Option HO) = some u:=z;cases z') (fun b z=>absurd rfl z) fun z=>absurd rfl z
  | none =>
    refine core (fun b=>if b = a then some (.frz { cls:= .type "list",data:= .seq vs.toArray } (.lst (ns.map V.int))) else none) (fun b=>?_) (.inl (.inr ⟨{ cls:= .type "list",data:= .seq vs.toArray },if_pos rfl⟩)) (fun b u z=>?_) (fun b z=>?_) fun _=>hk
    · by_cases hb:b = a
      · exact .inr ⟨_,_,if_pos hb⟩
      · exact .inl (if_neg hb)
    · by_cases hb:b = a
      · have z':=(if_pos hb).symm.trans z
        cases z'
        subst hb
        exact⟨ha,by rw [List.length_map];exact hl,vs,_,rv,ha⟩
      · have z':=(if_neg hb).symm.trans z
        cases z'
    · by_cases hb:b = a
      · exact hb
      · exact absurd (if_neg hb) z
end L2
namespace L2
open PySem PySem.Spec PyProof.Rows
abbrev KOf {K:PySem.W.Frag} {h:Heap} (_:K.In h):PySem.W.Frag:=K
theorem walk_of {l:PySem.W.OpenLaw} {n k:Nat} {q:Program} {loose:List Str} {XP:(Str→Option Value)→Heap→Prop} {YP:World→Heap→Prop} {d:DefRec} {K:Params→PySem.W.Frag} {CX:World→CXT} {sp:World→Sp} {x:Str}
    (hn:l.most = some n) (hn2:n≤sizeLine) (hdf:d.params.defaults = []) (hr:Room k callerA)
    (hY:∀(w:World) (h:Heap),YP w h→(K w.params).In h)
    (F : ∀(w:World) (mg:Str→Option Value) (fa:Addr) (h:Heap),(K w.params).In h→h.Ns mainGlobals mg→mg d.name = some (.ref fa)→
      ∃ fd:FuncData,(∀(s:Shared) (u:Value),BindsTo s fd ⟨[u], []⟩ [(x,u)])∧
        ∀base:Heap,(K w.params).In base→base.Ns mainGlobals mg→FnOk l.prog w (K w.params) mg base (CX w) k fa fd [x] (sp w))
    (hsp:∀(w:World) (H:Hp) (a:Addr) (ns:List Int),ns.length≤n→Only H→SqL (K w.params) H a (ns.map V.int)→sp w [.ref a] H (fun v _=>v = .bl true) fun _ _ _=>False)
    (hCX:∀(w:World) (H:Hp) (s:Shared) (e:Value) (s':Shared),CX w [] H s (fun _ _ _=>False) e s'→False) :
    PySem.W.WalkO q loose XP YP l.row.toRowW d [] (fun f vs=>PySem.call f vs):=by
  refine Att.attach_call hn hdf fun w s₀ s₁ mg mb fa o pm cd doc a vs ns G Y ho hd hcd hmg hobj hints hlen hg=>?_
  have KX:=hY w _ Y
  obtain⟨fd,hb,hF⟩:=F w mg fa _ KX G.T.g hmg
  exact law_call KX G.T.g G.T.b G.T.builtins G.T.nolimit hg hobj hints (Nat.le_trans hlen hn2) hr hF hb (fun H hO hS=>hsp w H a ns hlen hO hS) fun H e s'=>hCX w H s₁ e s'
end L2
namespace L2
open PySem PySem.Spec PyProof.Rows
def inClass (s:Stmt) (j:Nat):Stmt:=match s with
  | .ClassDef _ _ _ body _ _ _ _ _ _ _=>body.getD j (.Pass ⟨0,0,0,0⟩)
  | _=> .Pass ⟨0,0,0,0⟩
def defArgs (s:Stmt):Arguments:=match s with
  | .FunctionDef _ a _ _ _ _ _ _ _ _=>a
  | _=>{ posonlyargs:=[],args:=[],vararg:=none,kwonlyargs:=[],kw_defaults:=[],kwarg:=none,defaults:=[] }
def defBody (s:Stmt):List Stmt:=match s with
  | .FunctionDef _ _ b _ _ _ _ _ _ _=>b
  | _=>[]
def defScope (s:Stmt):Scope:=match s with
  | .FunctionDef _ _ _ _ _ _ sc _ _ _=>sc
  | _=>{ kind:= .function,names:=[],isGenerator:=false,isCoroutine:=false }
abbrev CX0:CXT:=fun _ _ _ _ _ _=>False
abbrev E0:XK:=fun _ _ _=>False
theorem pass0 {X:Cx}:Passes CX0 X E0:=fun _ _ _ _ _ _ _ h=>h.elim
structure Fun (K:PySem.W.Frag) (x qual:Str) (st:Stmt) (f:Addr) (fd:FuncData):Prop where
  ex :∃(oc:Value) (od:Option Addr) (kV doc pm:Value) (an:Option Addr) (cdv ct:Value) (osl:Array (Option Value)),
    fd = PySem.W.fnOf x qual (defArgs st) (defBody st) (defScope st) .none kV doc pm an cdv ct∧K.lookup f = some ⟨oc,od,.func fd,osl⟩∧PySem.W.codeIn K cdv qual = true
  kp:PySem.W.keepIn K (.ref f) = true
section
variable {P:Program} {w:World} {K:PySem.W.Frag} {mg:Str→Option Value} {base:Heap}
theorem Fun.ok {x qual:Str} {st:Stmt} {f:Addr} {fd:FuncData} {N ps:List Str} {k:Nat} {sp:Sp} (F:Fun K x qual st f fd) (S:FnScope N ps (defScope st)) (len:∀vs H Q E,sp vs H Q E→vs.length = ps.length)
    (hbody:∀(cdv:Value) (A:Around) (outer:List Env) (s:Shared) (H:Hp) (vs:List V) (Q:VK) (E:XK),Room k (A.deeper (envOfC qual (defScope st) s.heap.objs.size f cdv))→sp vs H Q E→
      ∃t,PSs (cxOf CX0 P w K mg base N qual (defScope st) f cdv A outer s H E).nox (defBody st) t∧t { nx:=fun _ H'=>Q .non H',rt:=Q } (start N vs) H):FnOk P w K mg base CX0 (k + 1) f fd ps sp:=by
  obtain⟨oc,od,kV,doc,pm,an,cdv,ct,osl,rfl,lk,hcd⟩:=F.ex
  refine fn_of lk hcd S len fun A outer s H vs Q E hr hsp=>?_
  obtain⟨t,h,q⟩:=hbody cdv A outer s H vs Q E hr hsp
  exact⟨t,h.nox,q⟩
theorem Fun.binds {x qual:Str} {st:Stmt} {f:Addr} {fd:FuncData} {ps:List Str} (F:Fun K x qual st f fd)
    (h:∀(kV doc pm:Value) (an:Option Addr) (cdv ct:Value) (us:List Value),us.length = ps.length→bindArgs (PySem.W.fnOf x qual (defArgs st) (defBody st) (defScope st) .none kV doc pm an cdv ct) ⟨us, []⟩ = pure (ps.zip us)):Binds K fd ps []:=by
  obtain⟨oc,od,kV,doc,pm,an,cdv,ct,osl,rfl,lk,hcd⟩:=F.ex
  exact .all (h kV doc pm an cdv ct)
theorem fun_mk {x qual:Str} {st:Stmt} {f:Addr} {oc:Value} {od an:Option Addr} {osl:Array (Option Value)} {kV doc pm cdv ct:Value} (l:K.lookup f = some ⟨oc,od,.func (PySem.W.fnOf x qual (defArgs st) (defBody st) (defScope st) .none kV doc pm an cdv ct),osl⟩)
    (c:PySem.W.codeIn K cdv qual = true) (k:PySem.W.keepIn K (.ref f) = true):Fun K x qual st f (PySem.W.fnOf x qual (defArgs st) (defBody st) (defScope st) .none kV doc pm an cdv ct):=⟨⟨oc,od,kV,doc,pm,an,cdv,ct,osl,rfl,l,c⟩,k⟩
end
theorem hu_of {A:Around} {k:Nat} (hr:Room k A):A.units + 1 < cLine:=Nat.lt_of_le_of_lt (Nat.add_le_add_left (by decide:1≤64) _) hr.units
theorem small1000 {n:Nat} (h:n≤1000):n < sizeLine:=Nat.lt_of_le_of_lt h (by decide)
section
variable {X:Cx}
theorem pv (i:Nat) {x:Str} {pos:Pos} (hN:X.N[i]? = some x:=by rfl) (hv:Vis X.env.scope x:=by first | exact Or.inl rfl | exact Or.inr (Or.inl rfl) | exact Or.inr (Or.inr rfl)) (hd:(x == ("__debug__":Str)) = false:=by decide)
    (hcd:(x == ("__classdict__":Str)) = false:=by decide):PE X (.Name x pos) (tVar i):=pe_var hN hv hd hcd
end
theorem iteF {A B:Prop} (h:B):if false = true then A else B:=by
  rw [if_neg Bool.false_ne_true]
  exact h
theorem iteT {A B:Prop} (h:A):if true = true then A else B:=by
  rw [if_pos rfl]
  exact h
theorem ite2 {c A B:Prop} [Decidable c] (h1:c→A) (h2:¬ c→B):if c then A else B:=by
  by_cases h:c
  · rw [if_pos h]
    exact h1 h
  · rw [if_neg h]
    exact h2 h
def Same (H H':Hp):Prop:=∀b o,H b = some o→H' b = some o
theorem Same.refl (H:Hp):Same H H:=fun _ _ h=>h
theorem Same.trans {H H1 H2:Hp} (a:Same H H1) (b:Same H1 H2):Same H H2:=fun c o h=>b c o (a c o h)
theorem Same.free {H H':Hp} (e:Same H H') {l:Addr} (h:H' l = Option.none):H l = Option.none:=by
  cases q:H l with
  | none=>rfl
  | some o=>
    rw [e l o q] at h
    cases h
theorem Same.seq {K:PySem.W.Frag} {H H':Hp} {a:Addr} {xs:List V} (e:Same H H') (h:SqL K H a xs):SqL K H' a xs:=by
  rcases h with (h | ⟨o,h⟩) | h
  · exact .inl (.inl (e _ _ h))
  · exact .inl (.inr ⟨o,e _ _ h⟩)
  · exact .inr h
end L2
namespace L2
open PySem PySem.Spec PyProof.Rows
theorem bt_len:bootBuiltins "len" = some (.builtin "len"):=by decide +kernel
theorem bt_isinstance:bootBuiltins "isinstance" = some (.builtin "isinstance"):=by decide +kernel
theorem bt_list:bootBuiltins "list" = some (.type "list"):=by decide +kernel
theorem bt_int:bootBuiltins "int" = some (.type "int"):=by decide +kernel
theorem bt_bool:bootBuiltins "bool" = some (.type "bool"):=by decide +kernel
theorem bits_leI {i:Int} {n:Nat} (h:i.natAbs < 2 ^ n):Builtin.Int.intBits i≤n:=by
  unfold Builtin.Int.intBits
  split
  · exact Nat.zero_le _
  · rename_i h0
    have h1:i.natAbs≠0:=by
      intro q
      apply h0
      have:i = 0:=by omega
      subst this;rfl
    exact(Nat.log2_lt h1).mpr h
def Big:Nat:=2 ^ 4000
def IsBig (i:Int):Prop:=i.natAbs < 2 ^ 4000
section
variable {X:Cx}
def rN (C:Nat→Nat→Prop) (g:Nat→Nat→Nat):R2:=fun x y H Q=>∃a b:Nat,x = .int a∧y = .int b∧C a b∧Q (.int ((g a b:Nat):Int)) H
def CShl (i j:Int):Prop:=0≤j∧j≤4000∧i.natAbs < 2 ^ 4000
def CMulB (i j:Int):Prop:=i.natAbs < 2 ^ 4000∧j.natAbs < 2 ^ 4000
theorem CMulB.ok {i j:Int} (h:CMulB i j):IntMulOk i j:=by
  unfold IntMulOk
  have h1:=bits_leI h.1
  have h2:=bits_leI h.2
  have h3:Builtin.Int.intTooBig ((Builtin.Int.intBits i:Int) + (Builtin.Int.intBits j:Int)) = false:=by
    unfold Builtin.Int.intTooBig
    apply decide_eq_false
    have:(8000:Int)≤bitsLine:=by decide
    omega
  simp only [h3,Bool.and_false]
  decide
theorem op_mulB:OpR X (binaryOp .Mult) (rI CMulB fun i j=> .int (i * j)):=opI fun _ _ _ _ _ _ _ hc q=>mul_int q hc.ok
def clsV:V→Option Value
  | .ref a=>some (.ref a)
  | .ty n=>some (.type n)
  | _=>none
theorem clsV_is {c:V} {cv u:Value} (e:clsV c = some cv) (r:RelV c u):u = cv:=by
  cases c <;> simp only [clsV] at e <;> first | (cases e;exact r) | cases e
theorem call_isi:CallR X (.builtin "isinstance") (fun xs H Q=>∃x c cv t b,xs = [x,c]∧clsV c = some cv∧TyOf X.K H x t∧PySem.W.kitOne X.K t cv = some b∧Q (.bl b) H):=by
  intro pins s σ H xs us Q I rv h
  obtain⟨x,c,cv,t,b,rfl,ec,ty,e,q⟩:=h
  obtain⟨u,v,rfl,rx,rc⟩:=rv.two
  cases clsV_is ec rc
  exact isinst_ok I rx ty e fun tk=>⟨.bl b,H,I.tok _,rfl,q⟩
end
section
variable {K:PySem.W.Frag}
theorem isi_int_int:PySem.W.kitOne K (.type "int") (.type "int") = some true:=by rfl
theorem isi_int_bool:PySem.W.kitOne K (.type "int") (.type "bool") = some false:=by first | rfl | decide +kernel
theorem isi_bool_bool:PySem.W.kitOne K (.type "bool") (.type "bool") = some true:=by rfl
theorem isi_bool_int:PySem.W.kitOne K (.type "bool") (.type "int") = some true:=by first | rfl | decide +kernel
end
section
variable {X:Cx} {e:Expr} {te:TE} {st:Stmt} {ts:TS}
def tCut (t:TE):TE:=fun σ H Q=>∃P:VK,t σ H P∧∀x H',P x H'→Q x H'
theorem pe_cut (h:PE X e te):PE X e (tCut te):=by
  intro pins s σ H Q I hw
  obtain⟨P,h1,h2⟩:=hw
  exact thn (h pins s σ H P I h1) fun v s1 ⟨x,H1,I1,r,q⟩=>⟨x,H1,I1,r,h2 x H1 q⟩
def tCutS (t:TS):TS:=fun D σ H=>∃N:St→Hp→Prop,t { D with nx:=N } σ H∧∀σ' H',N σ' H'→D.nx σ' H'
theorem ps_cut (h:PS X st ts):PS X st (tCutS ts):=by
  intro pins s σ H D I hw
  obtain⟨N,h1,h2⟩:=hw
  refine thn (h pins s σ H { D with nx:=N } I h1) fun f s1 q=>?_
  cases f with
  | next=>obtain⟨σ',H',I',q⟩:=q;exact⟨σ',H',I',h2 σ' H' q⟩
  | ret v=>exact q
  | brk=>exact q
  | cont=>exact q
end
theorem dec_true {p:Prop} [Decidable p] (h:decide p = true):p:=of_decide_eq_true h
theorem dec_false {p:Prop} [Decidable p] (h:¬ decide p = true):¬ p:=fun q=>h (decide_eq_true q)
theorem big_of {z:Int} {n:Nat} (h:z.natAbs < 2 ^ n) (hn:n≤4000:=by decide):z.natAbs < 2 ^ 4000:=Nat.lt_of_lt_of_le h (Nat.pow_le_pow_right (by decide) hn)
theorem big64 {z:Int} (h0: -18446744073709551616 < z) (h1:z < 18446744073709551616):z.natAbs < 2 ^ 4000:=big_of (n:=64) (by omega)
theorem at_mod {ns:List Int} {k:Int} (h:0 < ns.length):∃v:Int,atI (ns.map V.int) (k % (((ns.map V.int).length:Nat):Int)) = some (.int v):=by
  rw [List.length_map]
  have h0:0≤k % ((ns.length:Nat):Int):=Int.emod_nonneg _ (by omega)
  have h1:k % ((ns.length:Nat):Int) < ((ns.length:Nat):Int):=Int.emod_lt_of_pos _ (by omega)
  generalize k % ((ns.length:Nat):Int) = j at h0 h1
  have hk:j.toNat < ns.length:=by omega
  refine⟨ns[j.toNat],?_⟩
  have q:atI (ns.map V.int) ((j.toNat:Nat):Int) = some (.int ns[j.toNat]):=atI_nat (by rw [List.getElem?_map,List.getElem?_eq_getElem hk] <;> rfl)
  have e:((j.toNat:Nat):Int) = j:=by omega
  rw [e] at q
  exact q
def spLaw (K:PySem.W.Frag):Sp:=fun vs H Q _=>∃(a:Addr) (ns:List Int),vs = [.ref a]∧SqL K H a (ns.map V.int)∧ns.length≤63∧∀H',Q (.bl true) H'
def spDraw (K:PySem.W.Frag):Sp:=fun vs H Q _=>∃(a:Addr) (ns:List Int) (k m:Int),vs = [.ref a,.int k,.int m]∧SqL K H a (ns.map V.int)∧ns.length≤63∧0≤k∧k≤100000∧0 < m∧∀d:Int,0≤d→d < m→Q (.int d) H
end L2
namespace L2
open PySem PySem.Spec PyProof.Rows
def TrD (h B:Heap) (e:Addr) (k a0:Value) (od:Option Addr) (fl:Value):Prop:=
  ∃oe vs T oT ts,(h.get? e = some oe∧oe.cls = k∧oe.dict = od∧oe.data = .fields vs)∧(vs[0]? = some a0∧vs[1]? = some (.ref T))∧(B.get? T = none∧T≠e)∧h.get? T = some oT∧oT.data = .fields ts∧ts[3]? = some fl
def FlyD (B:Heap) (l:List Env) (e:Addr) (k a0:Value) (od:Option Addr) (h:Heap):Prop:=(B.StaysIn h∧B.get? e = none)∧h.FunFrames B l∧TrD h B e k a0 od .none
def HeldD (B:Heap) (l:List Env) (e:Addr) (k a0:Value) (od:Option Addr) (L:Addr) (h:Heap):Prop:=(B.StaysIn h∧B.get? e = none)∧h.FunFrames B l∧TrD h B e k a0 od (rawInt L)
section
variable {M:Model} {A:Around} {E:Value→Shared→Prop} {s:Shared} {B:Heap} {env:Env} {outer l:List Env} {L e:Addr} {k a0:Value} {od:Option Addr}
end
end L2
namespace L2
open PySem PySem.Spec PyProof.Rows
structure Fly (P:Program) (w:World) (outer:List Env) (H H':Hp) (s s':Shared) (a t:Addr) (cls:Value) (od:Option Addr) (B:Heap):Prop where
  os:s'.os = s.os
  bare:AllBare s'.gens
  un:Un (frs outer) [] H H' s.heap s'.heap
  hok:HOk P w H' s'.heap
  new:H' a = none
  fly:FlyD B outer a cls (.ref t) od s'.heap
  old:∀b o,s.heap.get? b = some o→H b = none→b∉frs outer→B.get? b = some o
  trk:∀b u,H' b = some u→∃o,s'.heap.get? b = some o∧B.get? b = some o
  all:∀b o,s.heap.get? b = some o→b∉frs outer→∃o',B.get? b = some o'
def CXR (P:Program) (w:World):CXT:=fun outer H s E e s'=>∃(a t:Addr) (cls:Value) (od:Option Addr) (H':Hp) (B:Heap),e = .ref a∧Fly P w outer H H' s s' a t cls od B∧E cls od H'
section
variable {P:Program} {w:World} {K:PySem.W.Frag} {mg:Str→Option Value} {base:Heap} {N:List Str} {qual:Str} {scope:Scope} {f:Addr} {cd:Value} {A:Around} {outer:List Env} {s:Shared} {H:Hp} {E:XK}
end
end L2
namespace L2
open PySem PySem.Spec PyProof.Rows
section
variable {P:Program} {w:World} {K:PySem.W.Frag} {mg:Str→Option Value} {base:Heap} {N:List Str} {qual:Str} {scope:Scope} {f:Addr} {cd:Value} {A:Around} {outer:List Env} {s:Shared} {H:Hp} {E:XK}
def tRaise (C:Addr) (E:XK) (t:TA):TS:=fun _ σ H=>t σ H fun vs H1=>vs.length≤sizeLine∧E (.ref C) none H1
end
section
variable {X:Cx}
def PEX (X:Cx) (e:Expr) (t:St→Hp→VK→XK→Prop):Prop:=∀(pins:List (Addr×Obj)) (s:Shared) (σ:St) (H:Hp) (Q:VK) (EX:XK),Inv X pins σ H s→t σ H Q EX→
  wpAny (model X.prog X.w) X.A (eval e X.env) (EP X pins σ Q) (fun ev s'=>∃H1 s1,Inv X pins σ H1 s1∧CXR X.prog X.w X.stack H1 s1 EX ev s') s
def excO (cls:Value) (a:Addr) (od:Option Addr):HO:= .ext fun h=>∃o vs,h.get? a = some o∧(o.cls = cls∧o.dict = od)∧o.data = .fields vs
abbrev Cx.marked (X:Cx) (e:Value):Cx:={ X with A:=X.A.mark (some e),calm:=false,xe:=fun _ _=>False }
def sufE (D:Ends) (i:Nat):Ends:={ nx:=fun σ' H'=>D.nx (σ'.set i none) H',rt:=D.rt,bk:=fun σ' H'=>D.bk (σ'.set i none) H',ct:=fun σ' H'=>D.ct (σ'.set i none) H' }
def tTryAs (tx:St→Hp→VK→XK→Prop) (K:PySem.W.Frag) (C:Addr) (i:Nat) (ts:TS):TS:=fun D σ H=>
  tx σ H (fun _ H1=>D.nx σ H1) fun cls od H1=>PySem.W.exmOne K cls (.ref C) = some true∧∀a,H1 a = none→ts (sufE D i) (σ.set i (some (.ref a))) (upd H1 a (excO cls a od))
def tTry0 (tx:St→Hp→VK→XK→Prop) (K:PySem.W.Frag) (C:Addr) (ts:TS):TS:=fun D σ H=>
  tx σ H (fun _ H1=>D.nx σ H1) fun cls od H1=>PySem.W.exmOne K cls (.ref C) = some true∧∀a,H1 a = none→ts D σ (upd H1 a (excO cls a od))
variable {e:Expr} {tx:St→Hp→VK→XK→Prop} {p1 np hpos pos:Pos} {y n:Str} {C:Addr} {i:Nat} {b₀:Stmt} {suite:List Stmt} {ts:TS}
end
end L2
namespace L2
open PySem PySem.Spec PyProof.Rows
structure RoomN (k:Nat) (A:Around):Prop where
  dp:A.depth + 3 * k + 5 < recursionLimit
  un:A.units + 16 * k + 200 < cLine
structure FnOkN (P:Program) (w:World) (K:PySem.W.Frag) (mg:Str→Option Value) (base:Heap) (CX:CXT) (k:Nat) (f:Addr) (fd:FuncData) (ps:List Str) (sp:Sp):Prop where
  len:∀vs H Q E,sp vs H Q E→vs.length = ps.length
  run:∀(A:Around) (outer:List Env) (s:Shared) (H:Hp) (args:Args) (us:List Value) (vs:List V) (Q:VK) (E:XK),RoomN k A→Env0 P w K mg base A outer s H→BindsTo s fd args (ps.zip us)→Vals vs us→sp vs H Q E→
    codeAny (model P w) A (.call (.ref f) args) (CR CX outer P w H s Q E) s
section
variable {X:Cx} {CX:CXT} {k:Nat} {f C:Addr} {fd:FuncData} {ps:List Str} {sp:Sp} {dvs:List V} {ds:List Value} {E:XK} {x m:Str} {p pos apos:Pos} {e o:Expr} {es:List Expr} {ta:TE} {t:TA}
end
def cxOfN (CX:CXT) (P:Program) (w:World) (K:PySem.W.Frag) (mg:Str→Option Value) (base:Heap) (N:List Str) (qual:Str) (scope:Scope) (f:Addr) (cd:Value) (A:Around) (outer:List Env) (s:Shared) (H:Hp) (E:XK):Cx where
  prog:=P
  w:=w
  K:=K
  mg:=mg
  base:=base
  A:=A.deeper (envOfC qual scope s.heap.objs.size f cd)
  N:=N
  s₀:=s
  H₀:=H
  env:=envOfC qual scope s.heap.objs.size f cd
  outer:=outer
  stack:=envOfC qual scope s.heap.objs.size f cd :: outer
  ex:=[]
  calm:=false
  fn:=fun _=>true
  pn:=[]
  xe:=fun e s'=>wpAny (model P w) (A.deeper (envOfC qual scope s.heap.objs.size f cd)) (leaving (envOfC qual scope s.heap.objs.size f cd) e) (fun _ s''=>CX outer H s E e s'') (fun e' s''=>CX outer H s E e' s'') s'
section
variable {P:Program} {w:World} {K:PySem.W.Frag} {mg:Str→Option Value} {base:Heap}
end
end L2
namespace L2
open PySem PySem.Spec PyProof.Rows
theorem PE.imp {X:Cx} {e:Expr} {t t':TE} (h:PE X e t) (i:∀σ H Q,t' σ H Q→t σ H Q):PE X e t':=fun pins s σ H Q I q=>h pins s σ H Q I (i σ H Q q)
theorem OpR.imp {X:Cx} {f:Value→Value→Sem Value} {r r':R2} (h:OpR X f r) (i:∀x y H Q,r' x y H Q→r x y H Q):OpR X f r':=fun pins s σ H x y v u Q I rx ry q=>h pins s σ H x y v u Q I rx ry (i x y H Q q)
theorem CallR.imp {X:Cx} {f:Value} {r r':List V→Hp→VK→Prop} (h:CallR X f r) (i:∀xs H Q,r' xs H Q→r xs H Q):CallR X f r':=fun pins s σ H xs us Q I rv q=>h pins s σ H xs us Q I rv (i xs H Q q)
theorem IxR.imp {X:Cx} {r r':R2} (h:IxR X r) (i:∀x y H Q,r' x y H Q→r x y H Q):IxR X r':=fun va sl pins s σ H x y v u Q I rx ry q hs=>h va sl pins s σ H x y v u Q I rx ry (i x y H Q q) hs
def oV (o:Option (Option V)) (k:V→Prop):Prop:=@Option.rec (Option V) (fun _=>Prop) False (fun o=>@Option.rec V (fun _=>Prop) False k o) o
def vI (x:V) (k:Int→Prop):Prop:=@V.rec (fun _=>Prop) False (fun _=>False) k (fun _=>False) (fun _=>False) (fun _=>False) (fun _=>False) (fun _=>False) x
def vB (x:V) (k:Bool→Prop):Prop:=@V.rec (fun _=>Prop) False k (fun _=>False) (fun _=>False) (fun _=>False) (fun _=>False) (fun _=>False) (fun _=>False) x
def vS (x:V) (k:Str→Prop):Prop:=@V.rec (fun _=>Prop) False (fun _=>False) (fun _=>False) k (fun _=>False) (fun _=>False) (fun _=>False) (fun _=>False) x
def vR (x:V) (k:Addr→Prop):Prop:=@V.rec (fun _=>Prop) False (fun _=>False) (fun _=>False) (fun _=>False) (fun _=>False) (fun _=>False) k (fun _=>False) x
def l1 (vs:List V) (k:V→Prop):Prop:=@List.rec V (fun _=>Prop) False (fun x r _=>@List.rec V (fun _=>Prop) (k x) (fun _ _ _=>False) r) vs
def l2 (vs:List V) (k:V→V→Prop):Prop:=@List.rec V (fun _=>Prop) False (fun x r _=>l1 r fun y=>k x y) vs
theorem oV.ex {o:Option (Option V)} {k:V→Prop} (h:oV o k):∃v,o = some (some v)∧k v:=by
  cases o with
  | none=>exact h.elim
  | some o=>cases o with
    | none=>exact h.elim
    | some v=>exact⟨v,rfl,h⟩
theorem vI.ex {x:V} {k:Int→Prop} (h:vI x k):∃i,x = .int i∧k i:=by
  cases x with
  | int i=>exact⟨i,rfl,h⟩
  | _=>exact h.elim
theorem vB.ex {x:V} {k:Bool→Prop} (h:vB x k):∃i,x = .bl i∧k i:=by
  cases x with
  | bl i=>exact⟨i,rfl,h⟩
  | _=>exact h.elim
theorem vR.ex {x:V} {k:Addr→Prop} (h:vR x k):∃i,x = .ref i∧k i:=by
  cases x with
  | ref i=>exact⟨i,rfl,h⟩
  | _=>exact h.elim
theorem l1.ex {vs:List V} {k:V→Prop} (h:l1 vs k):∃x,vs = [x]∧k x:=by
  match vs,h with
  | [x],h=>exact⟨x,rfl,h⟩
theorem l2.ex {vs:List V} {k:V→V→Prop} (h:l2 vs k):∃x y,vs = [x,y]∧k x y:=by
  match vs,h with
  | [x,y],h=>exact⟨x,y,rfl,h⟩
def dVar (i:Nat):TE:=fun σ H Q=>oV σ[i]? fun v=>Q v H
section
variable {X:Cx}
theorem dv (i:Nat) {x:Str} {pos:Pos} (hN:X.N[i]? = some x:=by rfl) (hv:Vis X.env.scope x:=by first | exact Or.inl rfl | exact Or.inr (Or.inl rfl) | exact Or.inr (Or.inr rfl)) (hd:(x == ("__debug__":Str)) = false:=by decide)
    (hcd:(x == ("__classdict__":Str)) = false:=by decide):PE X (.Name x pos) (dVar i):=(pe_var hN hv hd hcd).imp fun σ H Q h=>h.ex
def mI (C:Int→Int→Prop) (g:Int→Int→V):R2:=fun x y H Q=>vI x fun i=>vI y fun j=>C i j∧Q (g i j) H
def mI0 (g:Int→Int→V):R2:=fun x y H Q=>vI x fun i=>vI y fun j=>Q (g i j) H
theorem mI.to {C:Int→Int→Prop} {g:Int→Int→V}:∀x y H Q,mI C g x y H Q→rI C g x y H Q:=fun x y H Q h=>by
  obtain⟨i,rfl,h1⟩:=vI.ex h
  clear h
  obtain⟨j,rfl,h⟩:=vI.ex h1
  exact⟨_,_,rfl,rfl,h.1,h.2⟩
theorem mI0.to {g:Int→Int→V}:∀x y H Q,mI0 g x y H Q→rI0 g x y H Q:=fun x y H Q h=>by
  obtain⟨i,rfl,h1⟩:=vI.ex h
  clear h
  obtain⟨j,rfl,h⟩:=vI.ex h1
  exact⟨_,_,rfl,rfl,h⟩
def mU (g:Int→V):V→Hp→VK→Prop:=fun x H Q=>vI x fun i=>Q (g i) H
theorem z_add:OpR X (binaryOp .Add) (mI0 fun i j=> .int (i + j)):=op_add.imp mI0.to
theorem z_sub:OpR X (binaryOp .Sub) (mI0 fun i j=> .int (i - j)):=op_sub.imp mI0.to
theorem z_mul:OpR X (binaryOp .Mult) (mI CMulB fun i j=> .int (i * j)):=op_mulB.imp mI.to
theorem z_fdiv:OpR X (binaryOp .FloorDiv) (mI CDiv fun i j=> .int (i / j)):=op_fdiv.imp mI.to
theorem z_mod:OpR X (binaryOp .Mod) (mI (fun _ j=>0 < j) fun i j=> .int (i % j)):=op_mod.imp mI.to
theorem z_pow:OpR X (binaryOp .Pow) (mI CPow fun i j=> .int (i ^ j.toNat)):=op_pow.imp mI.to
theorem z_gt:OpR X (compareOp .Gt) (mI0 fun i j=> .bl (decide (j < i))):=op_gt.imp mI0.to
theorem dI {i j:Int}:decide (V.int i = V.int j) = decide (i = j):=by
  by_cases h:i = j
  · rw [decide_eq_true h,decide_eq_true (congrArg V.int h)]
  · rw [decide_eq_false h,decide_eq_false fun z=>h (V.int.inj z)]
theorem dS {i j:Str}:decide (V.str i = V.str j) = decide (i = j):=by
  by_cases h:i = j
  · rw [decide_eq_true h,decide_eq_true (congrArg V.str h)]
  · rw [decide_eq_false h,decide_eq_false fun z=>h (V.str.inj z)]
theorem dB {i j:Bool}:decide (V.bl i = V.bl j) = decide (i = j):=by
  by_cases h:i = j
  · rw [decide_eq_true h,decide_eq_true (congrArg V.bl h)]
  · rw [decide_eq_false h,decide_eq_false fun z=>h (V.bl.inj z)]
def eqW (f:Bool→Prop) (x y:V):Prop:=@V.rec (fun _=>Prop)
  (@V.rec (fun _=>Prop) (f true) (fun _=>False) (fun _=>f false) (fun _=>f false) (fun _=>False) (fun _=>False) (fun _=>False) (fun _=>False) y)
  (fun i=>@V.rec (fun _=>Prop) False (fun j=>f (decide (i = j))) (fun _=>False) (fun _=>False) (fun _=>False) (fun _=>False) (fun _=>False) (fun _=>False) y)
  (fun i=>@V.rec (fun _=>Prop) (f false) (fun _=>False) (fun j=>f (decide (i = j))) (fun _=>f false) (fun _=>False) (fun _=>False) (fun _=>False) (fun _=>False) y)
  (fun i=>@V.rec (fun _=>Prop) (f false) (fun _=>False) (fun _=>f false) (fun j=>f (decide (i = j))) (fun _=>False) (fun _=>False) (fun _=>False) (fun _=>False) y)
  (fun _=>False) (fun _=>False) (fun _=>False) (fun _=>False) x
theorem eqW.ex {f:Bool→Prop} {x y:V} (h:eqW f x y):scal x y = true∧f (decide (x = y)):=by
  cases x with
  | non=>cases y <;> first | exact h.elim | exact⟨rfl,h⟩
  | bl i=>cases y <;> first | exact h.elim | (exact⟨rfl,by rw [dB];exact h⟩)
  | int i=>cases y <;> first | exact h.elim | exact⟨rfl,h⟩ | (exact⟨rfl,by rw [dI];exact h⟩)
  | str i=>cases y <;> first | exact h.elim | exact⟨rfl,h⟩ | (exact⟨rfl,by rw [dS];exact h⟩)
  | _=>exact h.elim
def mEq:R2:=fun x y H Q=>eqW (fun b=>Q (.bl b) H) x y
def mNe:R2:=fun x y H Q=>eqW (fun b=>Q (.bl (!b)) H) x y
theorem z_eq:OpR X (compareOp .Eq) mEq:=op_eq.imp fun x y H Q h=>eqW.ex (f:=fun b=>Q (.bl b) H) h
def vN (x:V) (k:Prop):Prop:=@V.rec (fun _=>Prop) k (fun _=>False) (fun _=>False) (fun _=>False) (fun _=>False) (fun _=>False) (fun _=>False) (fun _=>False) x
def mIsN:R2:=fun x y H Q=>vN y (Q (.bl (decide (x = .non))) H)
def mNotN:R2:=fun x y H Q=>vN y (Q (.bl (!decide (x = .non))) H)
section
variable {a b c:Expr} {ta tb tc:TE} {pos:Pos} {rest:List Expr}
theorem vB_iff {x:V} {k:Bool→Prop}:vB x k = ∃i,x = .bl i∧k i:=propext ⟨vB.ex,fun ⟨i,e,h⟩=>by subst e;exact h⟩
def dTest (t:TE):TT:=fun σ H Q=>t σ H fun x H'=>vB x fun k=>Q k H'
theorem dTest_eq (t:TE):dTest t = tTest t:=by
  funext σ H Q
  unfold dTest tTest
  simp only [vB_iff]
theorem dTest_eqB (t:TE):dTest t = tB t:=by
  funext σ H Q
  unfold dTest tB
  simp only [vB_iff]
theorem md_cmp {op:CmpOp} {r:R2} (ho:OpR X (compareOp op) r) (ha:PE X a ta) (hb:PE X b tb) (hm:behindInMarks op b = false):PT X (.Compare a [op] [b] pos) (dTest (tOp r ta tb)):=by
  rw [dTest_eq];exact pt_cmpR ho ha hb hm
theorem md_val {e:Expr} {t:TE} (h:PE X e t) (he:∀whole,isTrue e X.env whole = (do let v←whole;standAt e.pos;holding [v] (truthy v)):=by intro _;rfl):PT X e (dTest t):=by
  rw [dTest_eqB];exact pt_val h he
def dAnd (ta tb:TE):TE:=fun σ H Q=>ta σ H fun x H1=>vB x fun c=>if c = true then tb σ H1 Q else Q (.bl false) H1
def dOr (ta tb:TE):TE:=fun σ H Q=>ta σ H fun x H1=>vB x fun c=>if c = true then Q (.bl true) H1 else tb σ H1 Q
def dNot (ta:TE):TE:=fun σ H Q=>ta σ H fun x H1=>vB x fun c=>Q (.bl (!c)) H1
theorem dAnd_eq:dAnd ta tb = tAndV ta tb:=by
  funext σ H Q
  unfold dAnd tAndV
  simp only [vB_iff]
theorem dNot_eq:dNot ta = tNotV ta:=by
  funext σ H Q
  unfold dNot tNotV
  simp only [vB_iff]
theorem md_and (ha:PE X a ta) (hb:PE X (.BoolOp .And (b :: rest) pos) tb):PE X (.BoolOp .And (a :: b :: rest) pos) (dAnd ta tb):=by
  rw [dAnd_eq];exact pe_and ha hb
theorem md_not (ha:PE X a ta):PE X (.UnaryOp .Not a pos) (dNot ta):=by
  rw [dNot_eq];exact pe_not ha
end
def SqA (K:PySem.W.Frag) (H:Hp) (a:Addr) (xs:List V):Prop:=SqL K H a xs∨SqT K H a xs
def mIxL (K:PySem.W.Frag):R2:=fun x y H Q=>vR x fun p=>vI y fun i=>∃xs v,SqL K H p xs∧atI xs i = some v∧Q v H
def mIxT (K:PySem.W.Frag):R2:=fun x y H Q=>vR x fun p=>vI y fun i=>∃xs v,SqT K H p xs∧atI xs i = some v∧Q v H
def mIxS:R2:=fun x y H Q=>vS x fun z=>vI y fun i=>∃c,z.length≤sizeLine∧atI z.cps.toList i = some c∧Q (.str ⟨#[c]⟩) H
theorem z_ixL:IxR X (mIxL X.K):=ix_list.imp fun x y H Q h=>by
  obtain⟨p,rfl,h⟩:=vR.ex h
  obtain⟨i,rfl,xs,v,h1,h2,h3⟩:=vI.ex h
  exact⟨_,xs,_,v,rfl,rfl,h1,h2,h3⟩
theorem z_ixT:IxR X (mIxT X.K):=ix_tup.imp fun x y H Q h=>by
  obtain⟨p,rfl,h⟩:=vR.ex h
  obtain⟨i,rfl,xs,v,h1,h2,h3⟩:=vI.ex h
  exact⟨_,xs,_,v,rfl,rfl,h1,h2,h3⟩
def mLen (K:PySem.W.Frag):List V→Hp→VK→Prop:=fun xs H Q=>l1 xs fun x=>vR x fun p=>∃ys,SqA K H p ys∧Q (.int ys.length) H
theorem z_len:CallR X (.builtin "len") (mLen X.K):=call_len_seq.imp fun xs H Q h=>by
  obtain⟨x,rfl,h⟩:=l1.ex h
  obtain⟨p,rfl,ys,h1,h2⟩:=vR.ex h
  exact⟨_,ys,rfl,h1,h2⟩
def mLenS:List V→Hp→VK→Prop:=fun xs H Q=>l1 xs fun x=>vS x fun z=>z.length≤sizeLine∧Q (.int z.length) H
def mListOf (K:PySem.W.Frag):List V→Hp→VK→Prop:=fun xs H Q=>l1 xs fun x=>vR x fun p=>∃ys,SqA K H p ys∧∀l,H l = none→Q (.ref l) (upd H l (.lst ys))
theorem z_listOf:CallR X (.type "list") (mListOf X.K):=call_list_of.imp fun xs H Q h=>by
  obtain⟨x,rfl,h⟩:=l1.ex h
  obtain⟨p,rfl,ys,h1,h2⟩:=vR.ex h
  exact⟨_,ys,rfl,h1,h2⟩
def mMin2:List V→Hp→VK→Prop:=fun xs H Q=>l2 xs fun x y=>vI x fun i=>vI y fun j=>Q (.int (min i j)) H
def mMax2:List V→Hp→VK→Prop:=fun xs H Q=>l2 xs fun x y=>vI x fun i=>vI y fun j=>Q (.int (max i j)) H
def isiR (T:String) (f:V→Hp→VK→Prop):List V→Hp→VK→Prop:=fun xs H Q=>l2 xs fun x c=>c = .ty T∧f x H Q
def mIsiInt:V→Hp→VK→Prop:=fun x H Q=>@V.rec (fun _=>Prop) False (fun _=>Q (.bl true) H) (fun _=>Q (.bl true) H) (fun _=>Q (.bl false) H) (fun _=>False) (fun _=>False) (fun _=>False) (fun _=>False) x
def mIsiBool:V→Hp→VK→Prop:=fun x H Q=>@V.rec (fun _=>Prop) False (fun _=>Q (.bl true) H) (fun _=>Q (.bl false) H) (fun _=>False) (fun _=>False) (fun _=>False) (fun _=>False) (fun _=>False) x
def mIsiStr:V→Hp→VK→Prop:=fun x H Q=>@V.rec (fun _=>Prop) False (fun _=>False) (fun _=>Q (.bl false) H) (fun _=>Q (.bl true) H) (fun _=>False) (fun _=>False) (fun _=>False) (fun _=>False) x
def mIsiList:V→Hp→VK→Prop:=fun x H Q=>@V.rec (fun _=>Prop) False (fun _=>False) (fun _=>Q (.bl false) H) (fun _=>Q (.bl false) H) (fun _=>False) (fun _=>False) (fun p=>(∃xs,H p = some (.lst xs))∧Q (.bl true) H) (fun _=>False) x
def mIsiTuple:V→Hp→VK→Prop:=fun x H Q=>@V.rec (fun _=>Prop) False (fun _=>False) (fun _=>Q (.bl false) H) (fun _=>False) (fun _=>False) (fun _=>False) (fun p=>(∃xs,H p = some (.tup xs))∧Q (.bl true) H) (fun _=>False) x
end
section
variable {K:PySem.W.Frag}
theorem isi_str_int:PySem.W.kitOne K (.type "str") (.type "int") = some false:=by first | rfl | decide +kernel
end
section
variable {X:Cx}
theorem isi_of {T:String} {f:V→Hp→VK→Prop} (h:∀x H Q,f x H Q→∃t b,TyOf X.K H x t∧PySem.W.kitOne X.K t (.type T) = some b∧Q (.bl b) H):CallR X (.builtin "isinstance") (isiR T f):=call_isi.imp fun xs H Q q=>by
  obtain⟨x,c,rfl,q⟩:=l2.ex q
  obtain⟨ec,q2⟩:=q
  subst ec
  obtain⟨t,b,h1,h2,h3⟩:=h x H Q q2
  exact⟨_,_,_,t,b,rfl,rfl,h1,h2,h3⟩
theorem z_isi_int:CallR X (.builtin "isinstance") (isiR "int" mIsiInt):=isi_of fun x H Q q=>by
  cases x with
  | int i=>exact⟨_,_,.int _,isi_int_int,q⟩
  | bl i=>exact⟨_,_,.bl _,isi_bool_int,q⟩
  | str i=>exact⟨_,_,.str _,isi_str_int,q⟩
  | _=>exact q.elim
theorem z_isi_bool:CallR X (.builtin "isinstance") (isiR "bool" mIsiBool):=isi_of fun x H Q q=>by
  cases x with
  | int i=>exact⟨_,_,.int _,isi_int_bool,q⟩
  | bl i=>exact⟨_,_,.bl _,isi_bool_bool,q⟩
  | _=>exact q.elim
def tCutA (t:TA):TA:=fun σ H Q=>∃P:List V→Hp→Prop,t σ H P∧∀x H',P x H'→Q x H'
theorem pa_cut {es:List Expr} {t:TA} (h:PA X es t):PA X es (tCutA t):=by
  intro pos pins s σ H Q I hw
  obtain⟨P,h1,h2⟩:=hw
  exact thn (h pos pins s σ H P I h1) fun v s1 ⟨x,H1,I1,r,q⟩=>⟨x,H1,I1,r,h2 x H1 q⟩
section
variable {o e:Expr} {es:List Expr} {to:TE} {t:TA} {apos cpos:Pos}
def dBl (to:TE):TE:=fun σ H Q=>to σ H fun x H1=>vI x fun i=>Q (.int ((Builtin.Int.intBits i:Nat):Int)) H1
def dAppend (K:PySem.W.Frag) (to:TE) (t:TA):TE:=fun σ H Q=>to σ H fun x H1=>vR x fun l=>(∃xs,SqL K H1 l xs)∧t σ H1 fun vs H2=>l1 vs fun y=>∃xs,H2 l = some (.lst xs)∧xs.length < sizeLine∧Q .non (upd H2 l (.lst (xs ++ [y])))
theorem md_append (ho:PE X o to) (ha:PA X [e] t) (hbase:attributeBase o "append" X.env (eval o X.env) = eval o X.env:=by rfl)
    (hfew:((backTo cpos (starEach [e] X.env)).all (fun x=>!x.1) && (backToKw cpos (keywordEach [] X.env)).all (fun x=>x.1.isSome)
      && decide (([e]:List Expr).length + ([]:List Keyword).length + (if ([]:List Keyword).isEmpty then 0 else 1) < 30)) = true:=by rfl)
    (hline:(apos.endLine == cpos.line) = true:=by rfl) (hs:starEach [e] X.env = (false,eval e X.env) :: starEach [] X.env:=by rfl) (hplain:(backTo cpos (starEach [] X.env)).any (·.1) = false:=by rfl) :
    PE X (.Call (.Attribute o "append" apos) [e] [] cpos) (dAppend X.K to t):=
  (pe_bm PySem.F.plainAttrs_list PySem.F.slot_list_append PySem.F.type_list_append mt_append (pe_cut ho) (pa_cut ha) hbase hfew hline hs hplain).imp fun σ H Q h=>⟨_,h,fun x H1 q=>by
    obtain⟨l,rfl,q1,q2⟩:=vR.ex q
    refine⟨.inl ⟨rfl,q1⟩,_,q2,fun vs H2 q3=>?_⟩
    obtain⟨y,rfl,xs,h1,h2,h3⟩:=l1.ex q3
    exact⟨l,xs,y,rfl,rfl,h1,h2,h3⟩⟩
def dPop (K:PySem.W.Frag) (to:TE):TE:=fun σ H Q=>to σ H fun x H1=>vR x fun l=>∃xs y,H1 l = some (.lst xs)∧xs[xs.length - 1]? = some y∧Q y (upd H1 l (.lst xs.dropLast))
def dPart (t:TE):TO:=fun σ H Q=>t σ H fun x H1=>vI x fun i=>Q (some i) H1
theorem PO.imp {e:Option Expr} {t t':TO} (h:PO X e t) (i:∀σ H Q,t' σ H Q→t σ H Q):PO X e t':=fun pins s σ H Q I q=>h pins s σ H Q I (i σ H Q q)
theorem md_part (h:PE X e to):PO X (some e) (dPart to):=(po_some (pe_cut h)).imp fun σ H Q q=>⟨_,q,fun x H1 z=>vI.ex z⟩
def mSlL (K:PySem.W.Frag):V→Option Int→Option Int→Hp→VK→Prop:=fun x lo hi H Q=>vR x fun a=>∃xs,SqL K H a xs∧∀p,H p = none→Q (.ref p) (upd H p (.lst (cutV xs lo hi)))
theorem SlR.imp {r r':V→Option Int→Option Int→Hp→VK→Prop} (h:SlR X r) (i:∀x lo hi H Q,r' x lo hi H Q→r x lo hi H Q):SlR X r':=by
  intro pins s σ H x v vl vu lo hi sl Q I rx hs pl pu q
  exact h pins s σ H x v vl vu lo hi sl Q I rx hs pl pu (i _ _ _ _ _ q)
theorem z_slL:SlR X (mSlL X.K):=sl_list.imp fun x lo hi H Q h=>by
  obtain⟨a,rfl,xs,h1,h2⟩:=vR.ex h
  exact⟨_,xs,rfl,h1,h2⟩
variable {tg:Expr}
theorem PI.imp {iter:Expr} {w w':TI} (h:PI X tg iter w) (i:∀σ H R,w' σ H R→w σ H R):PI X tg iter w':=fun pins s σ H R I q=>h pins s σ H R I (i σ H R q)
def dList (K:PySem.W.Frag) (tl:TE):TI:=fun σ H R=>tl σ H fun x H1=>vR x fun a=>(∃xs,SqL K H1 a xs)∧R (Itl K a) H1
def dTupI (K:PySem.W.Frag) (tl:TE):TI:=fun σ H R=>tl σ H fun x H1=>vR x fun a=>(∃xs,SqT K H1 a xs)∧R (Itt K a) H1
theorem mi_list {l:Expr} {tl:TE} (hl:PE X l tl):PI X tg l (dList X.K tl):=(pi_list (pe_cut hl)).imp fun σ H R h=>⟨_,h,fun x H1 q=>vR.ex q⟩
def dRng1 (ta:TA):TI:=fun σ H R=>ta σ H fun vs H1=>l1 vs fun x=>vI x fun j=>(-(2 ^ 62)≤j∧j < 2 ^ 62)∧R (Itr 0 j.toNat) H1
def dRng2 (ta:TA):TI:=fun σ H R=>ta σ H fun vs H1=>l2 vs fun x y=>vI x fun i=>vI y fun j=>(-(2 ^ 62)≤i∧i < 2 ^ 62∧ -(2 ^ 62)≤j∧j < 2 ^ 62)∧R (Itr i (j - i).toNat) H1
theorem mi_range1 {a:Expr} {ta:TA} {p pos:Pos} (hg:Gl X "range") (hm:X.mg "range" = none) (ha:PA X [a] ta) (hs:starEach [a] X.env = [(false,eval a X.env)]:=by rfl):PI X tg (.Call (.Name "range" p) [a] [] pos) (dRng1 ta):=
  (pi_range1 hg hm (pa_cut ha) hs).imp fun σ H R h=>⟨_,h,fun vs H1 q=>by
    obtain⟨x,rfl,q⟩:=l1.ex q
    obtain⟨j,rfl,q⟩:=vI.ex q
    exact⟨j,rfl,q.1.1,q.1.2,q.2⟩⟩
def mSetL:V→V→V→Hp→(Hp→Prop)→Prop:=fun o i v H Q=>vR o fun p=>vI i fun k=>∃xs j,H p = some (.lst xs)∧ixN xs.length k = some j∧Q (upd H p (.lst (xs.set j v)))
end
end
end L2
namespace L2
open PySem PySem.Spec PyProof.Rows
section
variable {M:Model} {A:Around} {E:Value→Shared→Prop} {s:Shared} {B:Heap} {env:Env} {outer l:List Env} {L e:Addr} {k a0 fl:Value} {od:Option Addr}
end
end L2
namespace L2
open PySem PySem.Spec PyProof.Rows
def subN (N:List Str) (ix:List Nat):List Str:=ix.map fun i=>N.getD i ""
def subS (σ:St) (ix:List Nat):St:=ix.map fun i=>σ.getD i none
def compXe (X:Cx) (scope:Scope) (cl:List (Str×Addr)) (C:Addr):Value→Shared→Prop:=notedBy (model X.prog X.w) X.A (compEnvC scope cl C X.env) fun e s'=>
  ∃m,s'.heap.Ns C m∧∀h',Heap.SameBut C s'.heap h'→∀cenv:Env,cenv.locals = C→wpAny (model X.prog X.w) X.A (PySem.passOn "comprehension.variables-let-go" e cenv:Sem Value) (fun _ _=>False) X.xe { s' with heap:=h' }
def cxComp (X:Cx) (scope:Scope) (cl:List (Str×Addr)) (x:Str) (ix:List Nat) (C:Addr) (fp:List Addr) (s₀:Shared) (H₀:Hp):Cx:=
  { X with N:=x :: subN X.N ix,s₀:=s₀,H₀:=H₀,env:=compEnvC scope cl C X.env,outer:=X.stack,ex:=fp,fn:=fun _=>false,pn:=[],xe:=compXe X scope cl C }
structure CompScope (X:Cx) (scope:Scope) (cl:List (Str×Addr)) (x:Str) (ix:List Nat):Prop where
  clos:closureFor scope X.env = pure cl
  kind:scope.kind = .function
  loc:scope.names.lookup x = some .local
  one:∀y∈scope.names,y.2 = .local→y.1 = x∨y.1 = ".0"
  locs:∀y∈scope.names,y.2 = .local→scope.names.lookup y.1 = some .local
  nocell:∀y∈scope.names,y.2≠ .cell
  free:∀y∈scope.names,y.2 = .free→(X.env.kindOf y.1 = some .cell∨X.env.kindOf y.1 = some .free)
  cells:∀y∈scope.names,y.2 = .free→∃c,cl.lookup y.1 = some c
  same:∀y∈cl,X.env.cells.lookup y.1 = some y.2
  nd:((".0":Str) :: x :: subN X.N ix).Nodup
section
variable {X:Cx} {scope:Scope} {cl:List (Str×Addr)} {x:Str} {ix:List Nat} {C:Addr} {fp:List Addr}
end
def PTs (X:Cx) (ifs:List Expr) (t:TT):Prop:=
  ∀ (pins:List (Addr×Obj)) (s:Shared) (σ:St) (H:Hp) (Q:Bool→Hp→Prop),Inv X pins σ H s→t σ H Q→
    wpAny (model X.prog X.w) X.A (forIn ifs true fun c r=>if r = true then do let ok←isTrue c X.env (eval c X.env);pure (ForInStep.yield ok) else pure (ForInStep.yield r)) (TP X pins σ Q) X.xe s
def tYes:TT:=fun _ H Q=>Q true H
section
variable {prog:Program} {w:World} {A:Around} {R:Result→Shared→Prop} {s:Shared}
end
def cWord (J:It) (tt:TT) (te:TE) (σc:V→St) (H1:Hp) (Q:VK):Prop:=∃W:Nat→Nat→List V→Hp→Prop,(∃m,W 0 m [] H1)∧∀i m ys H,W i m ys H→ys.length < sizeLine∧
  ((J.stop i H∧∀p,H p = none→Q (.ref p) (upd H p (.lst ys)))∨
   (J.go i H∧∃N:List V→Hp→Prop,(∀ys' H',N ys' H'→∃m',m' < m∧W (i + 1) m' ys' H')∧∀x H',J.yld i H x H'→tt (σc x) H' fun b H3=>if b = true then te (σc x) H3 fun y H4=>N (ys ++ [y]) H4 else N ys H3))
structure CompAt (X:Cx) (C:Addr) (fp:List Addr) (s:Shared) (H:Hp):Prop where
  inv:∃pins σ,Inv X pins σ H s∧∀b∈fp,FpOk X pins H b
  low:∀b∈fp,b < s.heap.objs.size
  up:s.heap.objs.size≤C
def tComp (ix:List Nat) (wi:TI) (tt:TT) (te:TE):TE:=fun σ H Q=>wi σ H fun J H1=>cWord J tt te (fun x=>some x :: subS σ ix) H1 Q
section
variable {X:Cx} {scope:Scope} {cl:List (Str×Addr)} {x:Str} {ix:List Nat} {elt iter:Expr} {ifs:List Expr} {pos px:Pos} {wi:TI} {tt:TT} {te:TE}
def closFrom (env:Env):List (Str×NameKind)→List (Str×Addr)→List (Str×Addr)
  | [],cs=>cs
  | (n,k) :: r,cs=>closFrom env r (if k == .free then (n,(env.cells.lookup n).getD 0) :: cs else cs)
def compOk (scope:Scope) (env:Env) (x:Str):Bool:=scope.names.all fun y=>(y.2 != .local || ((y.1 == x || y.1 == ".0") && scope.names.lookup y.1 == some .local)) && y.2 != .cell && (y.2 != .free || env.kindOf y.1 == some .cell || env.kindOf y.1 == some .free)
end
end L2
namespace L2
open PySem PySem.Spec PyProof.Rows PySem.W PySem.Builtin PySem.Builtin.ObjectAttr PySem.Builtin.Getset_descriptor
section
variable {prog:Program} {w:World} {A:Around} {E:Value→Shared→Prop} {K:PySem.W.Frag} {a C:Addr}
structure ExcC (K:PySem.W.Frag) (C:Addr):Prop where
  cd:(PySem.W.clsIn K C).isSome = true
  ga:PySem.W.findIn K (.ref C) "__getattribute__" = some (some (.builtin "BaseException.__getattribute__"))
  hk:PySem.W.findIn K (.ref C) "__getattr__" = some none
  cl:PySem.W.findIn K (.ref C) "__class__" = some (some (.builtin "object.__class__"))
  gt:PySem.W.specialIn K (.builtin "object.__class__") "__get__" = some (some (.builtin "getset_descriptor.__get__"))
  tk:PySem.W.takesIn K (.builtin "object.__class__") = some true
  ob:PySem.W.mroIn K C (.type "object") = some true
  ba:PySem.W.mroIn K C (.type "BaseException") = some true
end
section
variable {X:Cx}
end
end L2
namespace L2
open PySem PySem.Spec PyProof.Rows
mutual
inductive DV (K:PySem.W.Frag) (H:Hp):V→PyData→Prop
  | non:DV K H .non .none
  | bl (b:Bool):DV K H (.bl b) (.bool b)
  | int (i:Int):DV K H (.int i) (.int i)
  | str (x:Str):DV K H (.str x) (.str x)
  | lst {a:Addr} {xs:List V} {ds:List PyData}:SqL K H a xs→DVs K H xs ds→DV K H (.ref a) (.list ds)
  | tup {a:Addr} {xs:List V} {ds:List PyData}:SqT K H a xs→DVs K H xs ds→DV K H (.ref a) (.tuple ds)
inductive DVs (K:PySem.W.Frag) (H:Hp):List V→List PyData→Prop
  | nil:DVs K H [] []
  | cons {x:V} {xs:List V} {d:PyData} {ds:List PyData}:DV K H x d→DVs K H xs ds→DVs K H (x :: xs) (d :: ds)
end
section
variable {X:Cx} {pins:List (Addr×Obj)} {σ:St} {H:Hp} {s:Shared}
mutual
theorem Inv.reads (I:Inv X pins σ H s):∀{x:V} {d:PyData} {u:Value},DV X.K H x d→RelV x u→∃as,Reads s.heap u d as
  | _,_,_,.non,r=>by cases r;exact⟨_,Reads.none⟩
  | _,_,_,.bl b,r=>by cases r;exact⟨_,Reads.bool b⟩
  | _,_,_,.int i,r=>by obtain⟨t,rfl⟩:=r;exact⟨_,Reads.int i t⟩
  | _,_,_,.str x,r=>by obtain⟨t,rfl⟩:=r;exact⟨_,Reads.str x t⟩
  | _,_,_,.lst h r,rr=>by
    cases rr
    obtain⟨its,rv,⟨o,n,e,c,_,dt⟩,_⟩:=I.list h
    obtain⟨as,q⟩:=Inv.readsAll I r rv
    exact⟨_,reads_list_at e c dt (by simpa using q)⟩
  | _,_,_,.tup h r,rr=>by
    cases rr
    obtain⟨its,rv,⟨o,e,c,n,dt⟩,_⟩:=I.tuple h
    obtain⟨as,q⟩:=Inv.readsAll I r rv
    exact⟨_,reads_tuple_at e c dt (by simpa using q)⟩
theorem Inv.readsAll (I:Inv X pins σ H s):∀{xs:List V} {ds:List PyData} {us:List Value},DVs X.K H xs ds→Vals xs us→∃as,ReadsAll s.heap us ds as
  | _,_,_,.nil,.nil=>⟨_,ReadsAll.nil⟩
  | _,_,_,.cons h r,.cons q p=>by
    obtain⟨as,q1⟩:=Inv.reads I h q
    obtain⟨bs,q2⟩:=Inv.readsAll I r p
    exact⟨_,ReadsAll.cons q1 q2⟩
end
end
section
variable {X:Cx}
theorem z_neD (hu:X.A.units + 64 < cLine):OpR X (compareOp .NotEq) (fun x y H Q=>∃d e,DV X.K H x d∧DV X.K H y e∧SeqAt.shaped d = true∧SeqAt.shaped e = true∧Q (.bl (!PyData.eqv d e)) H):=by
  intro pins s σ H x y v u Q I rx ry h
  obtain⟨d,e,hd,he,sd,se,q⟩:=h
  obtain⟨as,ra⟩:=I.reads hd rx
  obtain⟨bs,rb⟩:=I.reads he ry
  exact ne_dataH ra rb sd se hu ⟨.bl _,H,I,rfl,q⟩
theorem z_neS (hu:X.A.units + 64 < cLine):OpR X (compareOp .NotEq) (fun x y H Q=>∃d,DV X.K H x d∧DV X.K H y d∧SeqAt.shaped d = true∧Q (.bl false) H):=(z_neD hu).imp fun x y H Q ⟨d,h1,h2,h3,q⟩=>⟨d,d,h1,h2,h3,h3,by rw [SeqAt.eqv_refl d (SeqAt.canLay_of_shaped h3)];exact q⟩
def mEqL (K:PySem.W.Frag):R2:=fun x y H Q=>vR x fun a=>vR y fun b=>∃ns ms:List Int,SqL K H a (ns.map V.int)∧SqL K H b (ms.map V.int)∧Q (.bl (decide (ns = ms))) H
def mNeL (K:PySem.W.Frag):R2:=fun x y H Q=>vR x fun a=>vR y fun b=>∃ns ms:List Int,SqL K H a (ns.map V.int)∧SqL K H b (ms.map V.int)∧Q (.bl (!decide (ns = ms))) H
end
end L2
namespace L2
open PySem PySem.Spec PyProof.Rows
section
variable {X:Cx}
def mSum (K:PySem.W.Frag):List V→Hp→VK→Prop:=fun xs H Q=>l1 xs fun x=>vR x fun p=>∃ns:List Int,SqL K H p (ns.map V.int)∧Q (.int ns.sum) H
def mBest (K:PySem.W.Frag) (lt:Int→Int→Prop):List V→Hp→VK→Prop:=fun xs H Q=>l1 xs fun x=>vR x fun p=>∃ns:List Int,SqL K H p (ns.map V.int)∧ns≠ []∧∀m,m∈ns→(∀z∈ns,lt m z)→Q (.int m) H
def mCat:R2:=fun x y H Q=>vR x fun l=>vR y fun b=>∃xs zs,H l = some (.lst xs)∧H b = some (.lst zs)∧xs.length + zs.length≤sizeLine∧∀p,H p = none→Q (.ref p) (upd H p (.lst (xs ++ zs)))
theorem z_cat:OpR X (binaryOp .Add) mCat:=op_cat.imp fun x y H Q h=>by
  obtain⟨l,rfl,hh⟩:=vR.ex h
  clear h
  obtain⟨b,rfl,xs,zs,h1,h2,h3,h4⟩:=vR.ex hh
  exact⟨l,b,xs,zs,rfl,rfl,h1,h2,h3,h4⟩
end
end L2
namespace L2
open PySem PySem.Spec PyProof.Rows
def l3 (vs:List V) (k:V→V→V→Prop):Prop:=@List.rec V (fun _=>Prop) False (fun x r _=>l2 r fun y z=>k x y z) vs
def Itrc (lo c:Int) (n:Nat):It:=⟨fun i _=>i < n,fun i H x H'=>H' = H∧x = .int (lo + i * c),fun i _=>n≤i⟩
section
variable {X:Cx} {tg:Expr}
def dRng3 (ta:TA):TI:=fun σ H R=>ta σ H fun vs H1=>l3 vs fun x y z=>vI x fun i=>vI y fun j=>vI z fun c=>c≠0∧Builtin.divisionGoesByPylong (j - i) c = false∧∃n:Nat,Builtin.Range.small i j c = true∧Builtin.Range.rangeSize i j c = (n:Int)∧R (Itrc i c n) H1
end
section
variable {X:Cx}
def kinds (ns:List Int):Nat:=(firstMet (fun i=>ns.getD i 0) ns.length).length
def mSetOf (K:PySem.W.Frag):List V→Hp→VK→Prop:=fun xs H Q=>l1 xs fun x=>vR x fun p=>∃ns:List Int,SqL K H p (ns.map V.int)∧ns.length≤1000∧∀l S,H l = none→Q (.ref l) (upd H l (.set S (kinds ns)))
def mLenSet:List V→Hp→VK→Prop:=fun xs H Q=>l1 xs fun x=>vR x fun p=>∃S n,H p = some (.set S n)∧Q (.int (n:Nat)) H
end
end L2
namespace L2
open PySem PySem.Spec PyProof.Rows
section
variable {X:Cx} {a b c:Expr} {ta tb tc:TE} {pos:Pos}
def dChain (r r':R2) (ta tb tc:TE):TE:=fun σ H Q=>ta σ H fun x H1=>tb σ H1 fun y H2=>r x y H2 fun z H3=>vB z fun k=>if k = true then tc σ H3 fun u H4=>r' y u H4 Q else Q (.bl false) H3
def mInI (K:PySem.W.Frag) (f:Bool→Bool):R2:=fun x y H Q=>vI x fun z=>vR y fun p=>∃ns:List Int,SqA K H p (ns.map V.int)∧Q (.bl (f (decide (z∈ns)))) H
end
end L2
namespace L2
open PySem PySem.Spec PyProof.Rows
section
variable {X:Cx} {K:PySem.W.Frag}
end
end L2
namespace L2
open PySem PySem.Spec PyProof.Rows
section
variable {X:Cx}
def mRep:R2:=fun x y H Q=>vR x fun l=>vI y fun k=>∃xs,H l = some (.lst xs)∧(-(2 ^ 63)≤k∧k < 2 ^ 63)∧xs.length * k.toNat≤sizeLine∧∀p,H p = none→Q (.ref p) (upd H p (.lst (List.replicate k.toNat xs).flatten))
def mInt:List V→Hp→VK→Prop:=fun xs H Q=>l1 xs fun x=>@V.rec (fun _=>Prop) False (fun b=>Q (.int (if b then 1 else 0)) H) (fun i=>Q (.int i) H) (fun _=>False) (fun _=>False) (fun _=>False) (fun _=>False) (fun _=>False) x
def mIsB:R2:=fun x y H Q=>vB x fun b=>vB y fun c=>Q (.bl (b == c)) H
section
variable {o e:Expr} {es:List Expr} {to:TE} {t:TA} {apos cpos:Pos}
def dExtend (to:TE) (t:TA):TE:=fun σ H Q=>to σ H fun x H1=>vR x fun l=>(∃xs,H1 l = some (.lst xs))∧t σ H1 fun vs H2=>l1 vs fun y=>vR y fun b=>∃xs zs,H2 l = some (.lst xs)∧H2 b = some (.lst zs)∧xs.length + zs.length≤sizeLine∧Q .non (upd H2 l (.lst (xs ++ zs)))
def dPopAt (to:TE) (t:TA):TE:=fun σ H Q=>to σ H fun x H1=>vR x fun l=>(∃xs,H1 l = some (.lst xs))∧t σ H1 fun vs H2=>l1 vs fun y=>vI y fun i=>∃xs k y,H2 l = some (.lst xs)∧(-(2 ^ 63)≤i∧i < 2 ^ 63)∧seqIndex? i xs.length = some k∧xs[k]? = some y∧Q y (upd H2 l (.lst (xs.eraseIdx k)))
end
def mAll (K:PySem.W.Frag):List V→Hp→VK→Prop:=fun xs H Q=>l1 xs fun x=>vR x fun p=>∃bs:List Bool,SqL K H p (bs.map V.bl)∧Q (.bl (bs.all id)) H
end
end L2
namespace L2
open PySem PySem.Spec PyProof.Rows
section
variable {X:Cx} {o e value:Expr} {es:List Expr} {to ta tv:TE} {t:TA} {apos cpos pos pos':Pos} {C:Addr} {f m:Str}
def dClear (to:TE):TE:=fun σ H Q=>to σ H fun x H1=>vR x fun l=>∃xs,H1 l = some (.lst xs)∧Q .non (upd H1 l (.lst []))
theorem md_clear (ho:PE X o to) (hbase:attributeBase o "clear" X.env (eval o X.env) = eval o X.env:=by rfl) (hline:(apos.endLine == cpos.line) = true:=by rfl):PE X (.Call (.Attribute o "clear" apos) [] [] cpos) (dClear to):=
  (pe_bm0 PySem.F.plainAttrs_list PySem.F.slot_list_clear PySem.F.type_list_clear mt_clear (pe_cut ho) hbase hline).imp fun σ H Q h=>⟨_,h,fun x H1 q=>by
    obtain⟨l,rfl,xs,h1,h2⟩:=vR.ex q
    exact⟨.inl ⟨rfl,xs,SqL.of h1⟩,l,xs,rfl,rfl,h1,h2⟩⟩
def dFld (C:Addr) (ta:TE) (f:Str):TE:=fun σ H Q=>ta σ H fun x H1=>vR x fun a=>∃dx fs v,H1 a = some (.ins C dx fs)∧fs.lookup f = some v∧Q v H1
def dSet (C:Addr) (ta tv:TE) (f:Str):TS:=fun D σ H=>tv σ H fun y H1=>ta σ H1 fun x H2=>vR x fun a=>∃dx fs,H2 a = some (.ins C dx fs)∧fs.length < 1000∧D.nx σ (upd H2 a (.ins C dx (putF f y fs)))
variable {CX:CXT} {k:Nat} {fa:Addr} {fd:FuncData} {ps:List Str} {sp:Sp} {dvs:List V} {ds:List Value} {E:XK}
def dMeth (C:Addr) (m:Str) (sp:Sp) (dvs:List V) (E:XK) (ta:TE) (t:TA):TE:=fun σ H Q=>ta σ H fun x H1=>vR x fun a=>(∃dx fs,H1 a = some (.ins C dx fs)∧fs.lookup m = none)∧t σ H1 fun vs H2=>sp (.ref a :: (vs ++ dvs)) H2 Q E
end
end L2
namespace L2
open PySem PySem.Spec PyProof.Rows
section
variable {X:Cx}
noncomputable def eDat (h:Heap) (d:PyData):Value→Bool:=by
  classical
  exact fun y=>if g:∃d' as,Reads h y d' as then PyData.eqv g.choose d else false
theorem eDat_eq {h:Heap} {d d':PyData} {y:Value} {as:List Addr} (r:Reads h y d' as):eDat h d y = PyData.eqv d' d:=by
  have g:∃d' as,Reads h y d' as:=⟨d',as,r⟩
  unfold eDat
  simp only [dif_pos g]
  obtain⟨bs,r'⟩:=g.choose_spec
  rw [(reads_det (fun b o e _=>e) r r').1]
theorem any_dat {h:Heap} {d:PyData}:∀{us:List Value} {ds:List PyData} {as:List Addr},ReadsAll h us ds as→us.any (eDat h d) = ds.any fun e=>PyData.eqv e d
  | _,_,_,.nil=>rfl
  | _,_,_,.cons r t=>by rw [List.any_cons,List.any_cons,eDat_eq r,any_dat t]
theorem mem_dat {A:Around} {s:Shared} {d:PyData} {v:Value} {bs:List Addr} (rv:Reads s.heap v d bs) (hd:SeqAt.shaped d = true) (hu:A.units + 64 < cLine):∀{us:List Value} {ds:List PyData} {as:List Addr},ReadsAll s.heap us ds as→(∀e∈ds,SeqAt.shaped e = true)→∀u∈us,SeqAt.EqAt A s u v (eDat s.heap d u)
  | _,_,_,.nil,_=>fun u hu=>by cases hu
  | _, _,_,.cons r t,f=>fun u hm=>by
    rcases List.mem_cons.mp hm with rfl | hm
    · rw [eDat_eq r]
      have h1:=f _ List.mem_cons_self
      exact SeqAt.eqAt_reads _ _ A s _ _ _ _ r rv (SeqAt.canLay_of_shaped h1) (SeqAt.canLay_of_shaped hd) (SeqAt.room_of_shaped h1 hu)
    · exact mem_dat rv hd hu t (fun e he=>f e (List.mem_cons_of_mem _ he)) u hm
def mInD (K:PySem.W.Frag) (f:Bool→Bool):R2:=fun x y H Q=>vR y fun p=>∃d ds xs,DV K H x d∧SqL K H p xs∧DVs K H xs ds∧SeqAt.shaped d = true∧(∀e∈ds,SeqAt.shaped e = true)∧Q (.bl (f (ds.any fun e=>PyData.eqv e d))) H
theorem z_inD (hu:X.A.in1.units + 64 < cLine):OpR X (compareOp .In) (mInD X.K id):=by
  intro pins s σ H x y v u Q I rx ry h
  obtain⟨p,rfl,d,ds,xs,hd,hS,hs,sd,ss,q⟩:=vR.ex h
  cases ry
  obtain⟨its,rv,pl,_⟩:=I.list hS
  obtain⟨as,ra⟩:=I.reads hd rx
  obtain⟨bs,rb⟩:=I.readsAll hs rv
  refine SeqAt.in_listAt (eDat s.heap d) pl.isList (fun w hw=>mem_dat ra sd hu rb ss w (by simpa using hw)) ⟨.bl _,H,I,rfl,?_⟩
  rw [show its.toArray.any (eDat s.heap d) = its.any (eDat s.heap d) by simp,any_dat rb]
  exact q
end
def prD (p:Int×Int):PyData:= .tuple [.int p.1,.int p.2]
theorem prD_eqv (p q:Int×Int):PyData.eqv (prD p) (prD q) = decide (p = q):=by
  obtain⟨a,b⟩:=p
  obtain⟨c,d⟩:=q
  simp only [prD,PyData.eqv,PyData.eqvAll,Bool.and_true]
  by_cases h1:a = c <;> by_cases h2:b = d <;> simp [h1,h2]
theorem prD_any (p:Int×Int) (ps:List (Int×Int)):(ps.map prD).any (fun e=>PyData.eqv e (prD p)) = decide (p∈ps):=by
  induction ps with
  | nil=>simp
  | cons q r ih=>
    rw [List.map_cons,List.any_cons,ih,prD_eqv]
    by_cases h1:q = p
    · simp [h1]
    · have h2:¬ p = q:=fun z=>h1 z.symm
      simp [h1,h2]
theorem prD_shaped (p:Int×Int):SeqAt.shaped (prD p) = true:=by
  obtain⟨a,b⟩:=p
  rfl
inductive PrsQ (K:PySem.W.Frag) (H:Hp):List Addr→List (Int×Int)→Prop
  | nil:PrsQ K H [] []
  | cons {q:Addr} {p:Int×Int} {qs:List Addr} {ps:List (Int×Int)}:SqT K H q [.int p.1,.int p.2]→PrsQ K H qs ps→PrsQ K H (q :: qs) (p :: ps)
theorem PrsQ.dvs {K:PySem.W.Frag} {H:Hp}:∀{qs:List Addr} {ps:List (Int×Int)},PrsQ K H qs ps→DVs K H (qs.map V.ref) (ps.map prD)
  | _,_,.nil=> .nil
  | _,_,.cons h t=> .cons (.tup h (.cons (.int _) (.cons (.int _) .nil))) (PrsQ.dvs t)
section
variable {X:Cx}
def mInP (K:PySem.W.Frag) (f:Bool→Bool):R2:=fun x y H Q=>vR x fun t=>vR y fun l=>∃(p:Int×Int) (ps:List (Int×Int)) (qs:List Addr),SqT K H t [.int p.1,.int p.2]∧SqL K H l (qs.map V.ref)∧PrsQ K H qs ps∧Q (.bl (f (decide (p∈ps)))) H
theorem mInP.to {K:PySem.W.Frag} {f:Bool→Bool}:∀x y H Q,mInP K f x y H Q→mInD K f x y H Q:=fun x y H Q h=>by
  obtain⟨t,rfl,hh⟩:=vR.ex h
  obtain⟨l,rfl,p,ps,qs,h1,h2,h3,q⟩:=vR.ex hh
  refine⟨prD p,ps.map prD,qs.map V.ref,.tup h1 (.cons (.int _) (.cons (.int _) .nil)),h2,h3.dvs,prD_shaped p,fun e he=>?_,?_⟩
  · obtain⟨z,_,rfl⟩:=List.mem_map.mp he
    exact prD_shaped z
  · rw [prD_any];exact q
theorem z_inP (hu:X.A.in1.units + 64 < cLine):OpR X (compareOp .In) (mInP X.K id):=(z_inD hu).imp mInP.to
end
end L2
namespace L2
open PySem
theorem Room.units1 {k:Nat} {A:Around} (r:Room k A):A.in1.units + 64 < cLine:=by have:=r.un;show A.units + 1 + 64 < _;omega
end L2
namespace L2
open PySem
def TupK (K:PySem.W.Frag) (a:Addr) (ns:List Int):Prop:=∃(o:Obj) (its:Array Value) (n:Nat),K.lookup a = some o∧o.cls = .type "tuple"∧o.data = .seq its n∧its.size≤sizeLine∧Vals (ns.map V.int) its.toList
end L2
namespace L2
open PySem PySem.Spec PyProof.Rows
theorem cutV_take (xs:List V) (a:Nat):cutV xs none (some (a:Int)) = xs.take a:=by
  unfold cutV
  rw [HT.sIx_nat,HT.sIx_none,List.drop_zero,Nat.sub_zero]
  by_cases h:a≤xs.length
  · rw [Nat.min_eq_left h]
  · rw [Nat.min_eq_right (by omega),List.take_of_length_le (Nat.le_refl _),List.take_of_length_le (by omega)]
end L2
namespace L2
open PySem PySem.Spec PyProof.Rows
def mNotB:R2:=fun x y H Q=>vB x fun b=>vB y fun c=>Q (.bl (b != c)) H
end L2
namespace L2
open PySem PySem.Spec PyProof.Rows
section
variable {κ:Type} [DecidableEq κ]
def valV (kvs:List (κ×V)) (k:κ):Option V:=(kvs.find? fun kv=>decide (kv.1 = k)).map (·.2)
def putK (kvs:List (κ×V)) (k:κ) (v:V):List (κ×V):=
  if (kvs.any fun kv=>decide (kv.1 = k)) = true then kvs.map (fun kv=>if kv.1 = k then (kv.1,v) else kv) else kvs ++ [(k,v)]
def dropK (kvs:List (κ×V)) (k:κ):List (κ×V):=kvs.filter fun kv=>decide (kv.1≠k)
theorem valV_nil {k:κ}:valV ([]:List (κ×V)) k = none:=rfl
theorem valV_pos {p:κ×V} {r:List (κ×V)} {k:κ} (e:p.1 = k):valV (p :: r) k = some p.2:=by simp [valV,List.find?_cons,e]
theorem valV_neg {p:κ×V} {r:List (κ×V)} {k:κ} (e:¬ p.1 = k):valV (p :: r) k = valV r k:=by simp [valV,List.find?_cons,e]
theorem valV_any (k:κ):∀kvs:List (κ×V),(kvs.any fun kv=>decide (kv.1 = k)) = (valV kvs k).isSome
  | []=>rfl
  | p :: r=>by
    rw [List.any_cons]
    by_cases e:p.1 = k
    · simp only [valV_pos e,decide_eq_true e,Bool.true_or,Option.isSome_some]
    · rw [valV_neg e,decide_eq_false e,Bool.false_or];exact valV_any k r
theorem valV_map (k j:κ) (y:V):∀kvs:List (κ×V),valV (kvs.map fun kv=>if kv.1 = k then (kv.1,y) else kv) j = (valV kvs j).map fun x=>if j = k then y else x
  | []=>rfl
  | p :: r=>by
    have ih:=valV_map k j y r
    rw [List.map_cons]
    by_cases h:p.1 = k
    · rw [if_pos h]
      by_cases e:p.1 = j
      · rw [valV_pos (p:=(p.1,y)) e,valV_pos e,Option.map_some,if_pos (e.symm.trans h)]
      · rw [valV_neg (p:=(p.1,y)) e,valV_neg e,ih]
    · rw [if_neg h]
      by_cases e:p.1 = j
      · rw [valV_pos (p:=p) e,valV_pos e,Option.map_some,if_neg (fun z=>h (e.trans z))]
      · rw [valV_neg (p:=p) e,valV_neg e,ih]
theorem valV_snoc (k j:κ) (y:V):∀kvs:List (κ×V),valV kvs k = none→valV (kvs ++ [(k,y)]) j = if j = k then some y else valV kvs j
  | [],_=>by
    by_cases e:k = j
    · rw [if_pos e.symm];exact valV_pos (p:=(k,y)) e
    · rw [if_neg (fun z=>e z.symm)];exact valV_neg (p:=(k,y)) e
  | p :: r,hn=>by
    rw [List.cons_append]
    have hk:¬ p.1 = k:=fun z=>by rw [valV_pos z] at hn;cases hn
    rw [valV_neg hk] at hn
    have ih:=valV_snoc k j y r hn
    by_cases e:p.1 = j
    · rw [valV_pos e,valV_pos e,if_neg (fun z=>hk (e.trans z))]
    · rw [valV_neg e,valV_neg e,ih]
theorem valV_put (kvs:List (κ×V)) (k j:κ) (y:V):valV (putK kvs k y) j = if j = k then some y else valV kvs j:=by
  unfold putK
  by_cases a:(kvs.any fun kv=>decide (kv.1 = k)) = true
  · rw [if_pos a,valV_map]
    rw [valV_any] at a
    by_cases e:j = k
    · obtain⟨x,hx⟩:=Option.isSome_iff_exists.mp a
      rw [if_pos e,e,hx,Option.map_some,if_pos rfl]
    · rw [if_neg e]
      cases valV kvs j with
      | none=>rfl
      | some x=>rw [Option.map_some,if_neg e]
  · rw [if_neg a]
    refine valV_snoc k j y kvs ?_
    rw [valV_any] at a
    cases q:valV kvs k with
    | none=>rfl
    | some x=>rw [q] at a;exact(a rfl).elim
theorem length_putK (kvs:List (κ×V)) (k:κ) (v:V):(putK kvs k v).length≤kvs.length + 1:=by
  unfold putK
  split
  · rw [List.length_map];omega
  · rw [List.length_append,List.length_cons,List.length_nil];omega
theorem RelO.isSome_eq {o:Option V} {u:Option Value} (r:RelO o u):o.isSome = u.isSome:=by
  cases o with
  | none=>cases u with
    | none=>rfl
    | some _=>exact(show False from r).elim
  | some _=>cases u with
    | none=>exact(show False from r).elim
    | some _=>rfl
theorem KV.val {kvs:List (κ×V)} {vs:List (κ×Value)} (r:KV kvs vs) (k:κ):RelO (valV kvs k) (valueAt vs k):=by
  unfold KV at r
  induction r with
  | nil=>exact True.intro
  | @cons p q ps qs h t ih=>
    obtain⟨h1,h2⟩:=h
    by_cases e:p.1 = k
    · have e':q.1 = k:=h1.symm.trans e
      have b:valueAt (q :: qs) k = some q.2:=by simp [valueAt,List.find?_cons,e']
      rw [valV_pos e,b];exact h2
    · have e':¬ q.1 = k:=fun z=>e (h1.trans z)
      have b:valueAt (q :: qs) k = valueAt qs k:=by simp [valueAt,List.find?_cons,e']
      rw [valV_neg e,b];exact ih
theorem KV.any {kvs:List (κ×V)} {vs:List (κ×Value)} (r:KV kvs vs) (k:κ):(kvs.any fun kv=>decide (kv.1 = k)) = vs.any fun kv=>decide (kv.1 = k):=by
  unfold KV at r
  induction r with
  | nil=>rfl
  | cons h t ih=>rw [List.any_cons,List.any_cons,ih,h.1]
theorem KV.repl {kvs:List (κ×V)} {vs:List (κ×Value)} (r:KV kvs vs) (k:κ) {y:V} {u:Value} (ry:RelV y u) :
    KV (kvs.map fun kv=>if kv.1 = k then (kv.1,y) else kv) (vs.map fun kv=>if kv.1 = k then (kv.1,u) else kv):=by
  unfold KV at r ⊢
  induction r with
  | nil=>exact .nil
  | @cons p q ps qs h t ih=>
    rw [List.map_cons,List.map_cons]
    refine .cons ?_ ih
    obtain⟨h1,h2⟩:=h
    by_cases e:p.1 = k
    · rw [if_pos e,if_pos (h1.symm.trans e)];exact⟨h1,ry⟩
    · rw [if_neg e,if_neg (fun z=>e (h1.trans z))];exact⟨h1,h2⟩
theorem KV.put {kvs:List (κ×V)} {vs:List (κ×Value)} (r:KV kvs vs) (k:κ) {y:V} {u:Value} (ry:RelV y u):KV (putK kvs k y) (stored vs k u):=by
  unfold putK stored
  rw [r.any k]
  by_cases e:(vs.any fun kv=>decide (kv.1 = k)) = true
  · rw [if_pos e,if_pos e];exact r.repl k ry
  · rw [if_neg e,if_neg e];exact Paired.snoc r ⟨rfl,ry⟩
theorem KV.length {kvs:List (κ×V)} {vs:List (κ×Value)} (r:KV kvs vs):kvs.length = vs.length:=Paired.length r
end
theorem kV_is {P:Program} {w:World} {k:Key} {u:Value} (r:RelV (kV k) u):(mixKind P w).is k u = true:=by
  cases k with
  | inl i=>obtain⟨t,e⟩:=(show ∃t,u = Value.int i t from r);subst e;exact mixKind_int P w i t
  | inr x=>obtain⟨t,e⟩:=(show ∃t,u = Value.str x t from r);subst e;exact mixKind_str P w x t
theorem items_are {P:Program} {w:World}:∀{ks:List Key} {us:List Value},Vals (ks.map kV) us→ItemsAre (mixKind P w) ks us
  | [],_,r=>by rw [List.map_nil] at r;cases r;exact .nil
  | k :: ks,_,r=>by
    rw [List.map_cons] at r
    cases r with
    | cons h t=>exact .cons (kV_is h) (items_are t)
abbrev KT (H:Hp):List (List Key×V)→List (List Key×Addr×Value)→Prop:=Paired fun p q=>p.1 = q.1∧H q.2.1 = some (.tup (p.1.map kV))∧RelV p.2 q.2.2
theorem KT.val {H:Hp} {kvs:List (List Key×V)} {xs:List (List Key×Addr×Value)} (r:KT H kvs xs) (k:List Key):RelO (valV kvs k) ((atKey xs k).map (·.2)):=by
  induction r with
  | nil=>exact True.intro
  | @cons p q ps qs h t ih=>
    obtain⟨h1,_,h2⟩:=h
    by_cases e:p.1 = k
    · have e':q.1 = k:=h1.symm.trans e
      have b:atKey (q :: qs) k = some q.2:=by simp [atKey,List.find?_cons,e']
      rw [valV_pos e,b];exact h2
    · have e':¬ q.1 = k:=fun z=>e (h1.trans z)
      have b:atKey (q :: qs) k = atKey qs k:=by simp [atKey,List.find?_cons,e']
      rw [valV_neg e,b];exact ih
theorem KT.repl {H:Hp} {kvs:List (List Key×V)} {xs:List (List Key×Addr×Value)} (r:KT H kvs xs) (k:List Key) {y:V} {u:Value} (ry:RelV y u) :
    KT H (kvs.map fun kv=>if kv.1 = k then (kv.1,y) else kv) (xs.map (putAt k u)):=by
  induction r with
  | nil=>exact .nil
  | @cons p q ps qs h t ih=>
    rw [List.map_cons,List.map_cons]
    refine .cons ?_ ih
    obtain⟨h1,h2,h3⟩:=h
    unfold putAt
    by_cases e:p.1 = k
    · rw [if_pos e,if_pos (h1.symm.trans e)];exact⟨h1,h2,ry⟩
    · rw [if_neg e,if_neg (fun z=>e (h1.trans z))];exact⟨h1,h2,h3⟩
theorem KT.put {H:Hp} {kvs:List (List Key×V)} {xs:List (List Key×Addr×Value)} (r:KT H kvs xs) (k:List Key) {b:Addr} {y:V} {u:Value} (hb:H b = some (.tup (k.map kV))) (ry:RelV y u) :
    KT H (putK kvs k y) (storedH xs k b u):=by
  have e:(kvs.any fun kv=>decide (kv.1 = k)) = (atKey xs k).isSome:=by
    rw [valV_any,(r.val k).isSome_eq,Option.isSome_map]
  unfold putK storedH
  rw [e]
  by_cases q:(atKey xs k).isSome = true
  · rw [if_pos q,if_pos q];exact r.repl k ry
  · rw [if_neg q,if_neg q];exact Paired.snoc r ⟨rfl,hb,ry⟩
theorem KT.keeps {H H':Hp} {kvs:List (List Key×V)} {xs:List (List Key×Addr×Value)} (r:KT H kvs xs) (ht:∀b ys,H b = some (.tup ys)→H' b = some (.tup ys)):KT H' kvs xs:=
  Paired.mapP r fun _ _ z=>⟨z.1,ht _ _ z.2.1,z.2.2⟩
section
variable {P:Program} {w:World} {H:Hp} {h:Heap} {a:Addr}
theorem rd_of {u:HO} (ok:HOk P w H h) (e:Rd H a u):ObjOk P w H h a u:=e.ok ok
theorem dk_rd {kvs:List (Key×V)} (ok:HOk P w H h) (e:Rd H a (.dK kvs)):kvs.length≤sizeLine∧(a == sysModules) = false∧∃vs,KV kvs vs∧h.DictOf (mixKind P w) a vs:=
  show ObjOk P w H h a (.dK kvs) from rd_of ok e
theorem dk_of {kvs:List (Key×V)} (ok:HOk P w H h) (e:H a = some (.dK kvs)):kvs.length≤sizeLine∧(a == sysModules) = false∧∃vs,KV kvs vs∧h.DictOf (mixKind P w) a vs:=dk_rd ok (.inl e)
theorem key_of {ks:List Key} (ok:HOk P w H h) (e:H a = some (.tup (ks.map kV))):(tupleKind (mixKind P w)).is h ks a:=by
  obtain⟨_,its,r,o,h1,h2,n,h3⟩:=(show ObjOk P w H h a (.tup (ks.map kV)) from ok a _ e)
  exact⟨o,its.toArray,n,h1,h2,h3,by simpa using items_are r⟩
theorem dt_rd {kvs:List (List Key×V)} (ok:HOk P w H h) (e:Rd H a (.dT kvs)):kvs.length≤sizeLine∧(a == sysModules) = false∧
    ∃xs,KT H kvs xs∧h.DictOfH (tupleKind (mixKind P w)) a xs:=by
  obtain⟨z,y,xs,r,o,es,ep,h1,h2,h3,h4,h5⟩:=(show ObjOk P w H h a (.dT kvs) from rd_of ok e)
  refine⟨z,y,xs,r,o,es,ep,h1,h2,h3,h4,fun x hx=>?_,h5⟩
  have all:∀{l:List (List Key×V)} {m:List (List Key×Addr×Value)},KT H l m→∀x∈m,(tupleKind (mixKind P w)).is h x.1 x.2.1:=by
    intro l m q
    induction q with
    | nil=>intro x hx;exact nomatch hx
    | @cons p q ps qs hq t ih=>
      intro x hx
      rcases List.mem_cons.mp hx with e | hx
      · subst e
        exact key_of ok (by rw [←hq.1];exact hq.2.1)
      · exact ih x hx
  exact all r x hx
theorem dt_of {kvs:List (List Key×V)} (ok:HOk P w H h) (e:H a = some (.dT kvs)):kvs.length≤sizeLine∧(a == sysModules) = false∧
    ∃xs,KT H kvs xs∧h.DictOfH (tupleKind (mixKind P w)) a xs:=dt_rd ok (.inl e)
end
def DGet (H:Hp) (a:Addr) (y:V) (r:Option V):Prop:=
  (∃kvs k,Rd H a (.dK kvs)∧y = kV k∧r = valV kvs k)∨∃kvs k b,Rd H a (.dT kvs)∧y = .ref b∧H b = some (.tup (k.map kV))∧r = valV kvs k
def DPut (H:Hp) (a:Addr) (y v:V) (H':Hp):Prop:=
  (∃kvs k,H a = some (.dK kvs)∧y = kV k∧kvs.length < sizeLine∧H' = upd H a (.dK (putK kvs k v)))∨
  ∃kvs k b,H a = some (.dT kvs)∧y = .ref b∧H b = some (.tup (k.map kV))∧kvs.length < sizeLine∧H' = upd H a (.dT (putK kvs k v))
section
variable {X:Cx} {pins:List (Addr×Obj)} {σ:St} {H:Hp} {s:Shared} {a:Addr} {y v:V} {u r:Value} {o:Option V} {A:Around} {E:Value→Shared→Prop}
theorem Inv.big (I:Inv X pins σ H s):sysModules < s.heap.objs.size:=by
  have h:mainGlobals < s.heap.objs.size:=(I.mod.glob.keeps I.bk).lt
  exact Nat.lt_trans (by decide) h
theorem d_in {Q:Value→Shared→Prop} (hu:A.units + 1 < cLine) (I:Inv X pins σ H s) (g:DGet H a y o) (ry:RelV y u) (h:∀s',Inv X pins σ H s'→Q (.bool o.isSome) s') :
    wpAny (model X.prog X.w) A (compareOp .In u (.ref a)) Q E s:=by
  rcases g with ⟨kvs,k,e,ey,l⟩ | ⟨kvs,k,b,e,ey,eb,l⟩
  · subst ey
    obtain⟨z,hd,vs,rel,dd⟩:=dk_rd I.hok e
    refine wpAny_in_of (kV_is ry) hd dd.mapOf ?_
    rw [←(rel.val k).isSome_eq,←l]
    exact h _ (I.tok _)
  · subst ey
    cases (show u = Value.ref b from ry)
    obtain⟨z,hd,xs,rel,dd⟩:=dt_rd I.hok e
    refine wpAny_in_heap (tupleKind_room_in1 hu) (key_of I.hok eb) hd dd ?_
    have q:=(rel.val k).isSome_eq
    rw [Option.isSome_map] at q
    rw [←q,←l]
    exact h _ (I.tok _)
theorem d_write {h':Heap} {t':Nat} {ob:HO} (I:Inv X pins σ H s) (mu:Mut (H a)) (hs:Heap.SameBut a s.heap h') (he:∃q,h'.get? a = some q) (new:ObjOk X.prog X.w (upd H a ob) h' a ob) :
    Inv X pins σ (upd H a ob) { s with heap:=h',toks:=t' }:=
  I.write (x:=a) (e:=a) mu (.inl rfl) (fun b q hb z=>(hs.2 b hb).trans z) he new
theorem dk_new {P:Program} {w:World} {H':Hp} {h':Heap} {kvs:List (Key×V)} {vs:List (Key×Value)} (z:kvs.length≤sizeLine) (hd:(a == sysModules) = false) (rel:KV kvs vs) (dd:h'.DictOf (mixKind P w) a vs) :
    ObjOk P w H' h' a (.dK kvs):=⟨z,hd,vs,rel,dd⟩
theorem d_setItem {H':Hp} {Q:Unit→Shared→Prop} (hu:A.units + 1 < cLine) (I:Inv X pins σ H s) (g:DPut H a y v H') (ry:RelV y u) (rv:RelV v r) (h:∀s',Inv X pins σ H' s'→Q () s') :
    wpAny (model X.prog X.w) A (setItem (.ref a) u r) Q E s:=by
  rcases g with ⟨kvs,k,e,ey,l,eH⟩ | ⟨kvs,k,b,e,ey,eb,l,eH⟩
  · subst ey eH
    obtain⟨z,hd,vs,rel,dd⟩:=dk_of I.hok e
    have hz:vs.length≤sizeLine:=by rw [←rel.length];exact z
    have hl:(putK kvs k v).length≤sizeLine:=by have:=length_putK kvs k v;omega
    refine wpAny_setItem_pairs (hsz:=hz) (kV_is ry) dd fun h' dd' hs=>h _ ?_
    have he:∃q,h'.get? a = some q:=let ⟨q,_,_,hq,_⟩:=dd';⟨q,hq⟩
    exact d_write I (by rw [e];exact True.intro) hs he (dk_new hl hd (rel.put k rv) dd')
  · subst ey eH
    cases (show u = Value.ref b from ry)
    obtain⟨z,hd,xs,rel,dd⟩:=dt_of I.hok e
    have hz:xs.length≤sizeLine:=by rw [←Paired.length rel];exact z
    have hl:(putK kvs k v).length≤sizeLine:=by have:=length_putK kvs k v;omega
    refine wpAny_setItem_heap (hsz:=hz) (tupleKind_room_in1 hu) (key_of I.hok eb) dd fun h' dd' hs=>h _ ?_
    obtain⟨q,es,ep,hq,h2,h3,h4,_,h5⟩:=dd'
    refine d_write I (by rw [e];exact True.intro) hs ⟨q,hq⟩ ⟨hl,hd,_,(rel.put k eb rv).keeps fun c ys ec=>?_,q,es,ep,hq,h2,h3,h4,h5⟩
    rw [upd_ne (ne_of ec e (fun z=>nomatch z))]
    exact ec
end
section
variable {X:Cx} {pins:List (Addr×Obj)} {σ:St} {H:Hp} {s:Shared} {a:Addr} {kvs:List (Key×V)} {k:Key} {u:Value} {A:Around} {E:Value→Shared→Prop}
end
def NoSl (i:Expr):Prop:=∀ov iv,subscripted i false ov iv = operate [ov,iv] (getItem ov iv)
def tDGet (td ty:TE):TE:=fun σ H Q=>td σ H fun x H1=>ty σ H1 fun y H2=>∃a v,x = .ref a∧DGet H2 a y (some v)∧Q v H2
def tDIn (ty td:TE):TE:=fun σ H Q=>ty σ H fun y H1=>td σ H1 fun x H2=>∃a o,x = .ref a∧DGet H2 a y o∧Q (.bl o.isSome) H2
def tDNotIn (ty td:TE):TE:=fun σ H Q=>ty σ H fun y H1=>td σ H1 fun x H2=>∃a o,x = .ref a∧DGet H2 a y o∧Q (.bl (!o.isSome)) H2
def sDPut (td ty tv:TE):TS:=fun D σ H=>tv σ H fun v H1=>td σ H1 fun x H2=>ty σ H2 fun y H3=>∃a H4,x = .ref a∧DPut H3 a y v H4∧D.nx σ H4
def sDAug (td ty tv:TE) (rd:V→V→Hp→VK→Prop):TS:=fun D σ H=>td σ H fun x H1=>ty σ H1 fun y H2=>∃a v,x = .ref a∧DGet H2 a y (some v)∧
  tv σ H2 fun y2 H3=>rd v y2 H3 fun z H4=>∃H5,DPut H4 a y z H5∧D.nx σ H5
def sDDel (td ty:TE):TS:=fun D σ H=>td σ H fun x H1=>ty σ H1 fun y H2=>∃a kvs k,x = .ref a∧H2 a = some (.dK kvs)∧y = kV k∧(valV kvs k).isSome = true∧D.nx σ (upd H2 a (.dK (dropK kvs k)))
section
variable {X:Cx} {o i e value:Expr} {pos pos' tpos:Pos} {td ty tv:TE}
theorem pc_din (hu:X.A.units + 1 < cLine) (hi:PE X i ty) (ho:PE X o td):PC X .In i o (tDIn ty td):=by
  intro pins s σ H Q I h
  refine thn (hi pins s σ H _ I h) fun iv s1 ⟨y,H1,I1,ry,q1⟩=>thn (ho pins s1 σ H1 _ I1 q1) fun u s2 ⟨x,H2,I2,rx,a,ov,ex,g,q2⟩=>?_
  subst ex
  obtain rfl:u = Value.ref a:=rx
  exact d_in hu I2 g ry fun s3 I3=>⟨.bl ov.isSome,H2,I3,rfl,q2⟩
theorem ps_dput (hu:X.A.units + 1 < cLine) (ho:PE X o td) (hi:PE X i ty) (hv:PE X value tv) (hs:swapsWith value (some (.Subscript o i pos')) pos.line X.env = pure false) :
    PS X (.Assign [.Subscript o i pos'] value pos) (sDPut td ty tv):=by
  intro pins s σ H D I h
  refine wpAny_Assign_Subscript (thn (hv pins s σ H _ I h) fun r s1 ⟨v,H1,I1,rv,q1⟩=>thn (ho pins s1 σ H1 _ I1 q1) fun u s2 ⟨x,H2,I2,rx,q2⟩=>thn (hi pins s2 σ H2 _ I2 q2) fun iv s3 ⟨y,H3,I3,ry,a,H4,ex,g,q3⟩=>?_) hs
  subst ex
  obtain rfl:u = Value.ref a:=rx
  exact d_setItem hu I3 g ry rv fun s4 I4=>⟨σ,H4,I4,q3⟩
end
theorem dt_empty {P:Program} {w:World} {H:Hp} (h:Heap) (hb:sysModules < h.objs.size):ObjOk P w H (h.push { cls:= .type "dict",data:= .dict #[] }) h.objs.size (.dT []):=
  ⟨Nat.zero_le _,beq_eq_false_iff_ne.mpr (Ne.symm (Nat.ne_of_lt hb)), [],.nil,_, #[],0,Heap.get?_push_size _ rfl,⟨rfl,rfl,rfl⟩,rfl,rfl,List.nodup_nil⟩
def tDNewK:TE:=fun _ H Q=>∀p,H p = none→Q (.ref p) (upd H p (.dK []))
def tDNewT:TE:=fun _ H Q=>∀p,H p = none→Q (.ref p) (upd H p (.dT []))
section
variable {X:Cx} {pos:Pos}
theorem pe_dnewT:PE X (.Dict [] [] pos) tDNewT:=fun pins s σ H Q I h=>
  wpAny_Dict_empty ⟨.ref s.heap.objs.size,_,I.laid (a:=s.heap.objs.size) (o:= .dT []) (t':=s.toks) (fun _ _ q=>Heap.get?_push_of_some _ q) (Nat.le_refl _) (dt_empty s.heap I.big),rfl,h _ (I.hok.fresh (Nat.le_refl _))⟩
end
def tPairs:List (TE×TE)→St→Hp→(List (V×V)→Hp→Prop)→Prop
  | [],_,H,Q=>Q [] H
  | (tk,tv) :: r,σ,H,Q=>tk σ H fun x H1=>tv σ H1 fun y H2=>tPairs r σ H2 fun ps H3=>Q ((x,y) :: ps) H3
abbrev VV:List (V×V)→List (Value×Value)→Prop:=Paired fun p q=>RelV p.1 q.1∧RelV p.2 q.2
def PPs (X:Cx) (pos:Pos) (keys:List (Option Expr)) (values:List Expr) (trs:List (TE×TE)):Prop:=
  ∀ (pins:List (Addr×Obj)) (s:Shared) (σ:St) (H:Hp) (Q:List (V×V)→Hp→Prop),Inv X pins σ H s→tPairs trs σ H Q→
    wpAny (model X.prog X.w) X.A (evalPairs (pairTrees keys values X.env pos)) (fun vs s'=>∃ps H',Inv X pins σ H' s'∧VV ps vs∧Q ps H') X.xe s
def mergeK (kvs more:List (Key×V)):List (Key×V):=more.foldl (fun acc kv=>putK acc kv.1 kv.2) kvs
def tDisp (trs:List (TE×TE)):TE:=fun σ H Q=>∀p,H p = none→tPairs trs σ (upd H p (.dK [])) fun ps H2=>H2 p = some (.dK [])∧∃kvs:List (Key×V),ps = kvs.map (fun kv=>(kV kv.1,kv.2))∧kvs.length≤15∧Q (.ref p) (upd H2 p (.dK (mergeK [] kvs)))
structure M1 (X:Cx) (o:Expr) (m:Str) (apos:Pos) (e:Expr) (cpos:Pos):Prop where
  base:attributeBase o m X.env (eval o X.env) = eval o X.env
  few:((backTo cpos (starEach [e] X.env)).all (fun x=>!x.1) && (backToKw cpos (keywordEach [] X.env)).all (fun x=>x.1.isSome)
    && decide (([e]:List Expr).length + ([]:List Keyword).length + (if ([]:List Keyword).isEmpty then 0 else 1) < 30)) = true
  line:(apos.endLine == cpos.line) = true
  trees:backTo cpos (starEach [e] X.env) = [(false,eval e X.env)]
structure M2 (X:Cx) (o:Expr) (m:Str) (apos:Pos) (e f:Expr) (cpos:Pos):Prop where
  base:attributeBase o m X.env (eval o X.env) = eval o X.env
  few:((backTo cpos (starEach [e,f] X.env)).all (fun x=>!x.1) && (backToKw cpos (keywordEach [] X.env)).all (fun x=>x.1.isSome)
    && decide (([e,f]:List Expr).length + ([]:List Keyword).length + (if ([]:List Keyword).isEmpty then 0 else 1) < 30)) = true
  line:(apos.endLine == cpos.line) = true
  trees:backTo cpos (starEach [e,f] X.env) = [(false,eval e X.env),(false,eval f X.env)]
def IsD (H:Hp) (a:Addr):Prop:=(∃kvs,Rd H a (.dK kvs))∨∃kvs,Rd H a (.dT kvs)
section
variable {X:Cx} {pins:List (Addr×Obj)} {σ:St} {H:Hp} {s:Shared} {a:Addr} {y d:V} {u r:Value} {o:Option V} {A:Around} {E:Value→Shared→Prop}
end
def tDGet1 (td ty:TE):TE:=fun σ H Q=>td σ H fun x H1=>∃a,x = .ref a∧IsD H1 a∧ty σ H1 fun y H2=>∃o,DGet H2 a y o∧Q (o.getD .non) H2
def tDGet2 (td ty tx:TE):TE:=fun σ H Q=>td σ H fun x H1=>∃a,x = .ref a∧IsD H1 a∧ty σ H1 fun y H2=>tx σ H2 fun z H3=>∃o,DGet H3 a y o∧Q (o.getD z) H3
def tDPop1 (td ty:TE):TE:=fun σ H Q=>td σ H fun x H1=>∃a,x = .ref a∧IsD H1 a∧ty σ H1 fun y H2=>∃kvs k v,H2 a = some (.dK kvs)∧y = kV k∧valV kvs k = some v∧Q v (upd H2 a (.dK (dropK kvs k)))
def tDPop2 (td ty tx:TE):TE:=fun σ H Q=>td σ H fun x H1=>∃a,x = .ref a∧IsD H1 a∧ty σ H1 fun y H2=>tx σ H2 fun z H3=>∃kvs k,H3 a = some (.dK kvs)∧y = kV k∧
  (∀v,valV kvs k = some v→Q v (upd H3 a (.dK (dropK kvs k))))∧(valV kvs k = none→Q z H3)
section
variable {X:Cx} {o e f:Expr} {apos cpos:Pos} {td ty tx:TE}
end
section
variable {X:Cx} {pins:List (Addr×Obj)} {σ:St} {H:Hp} {s:Shared} {a:Addr} {kvs:List (Key×V)} {A:Around} {E:Value→Shared→Prop}
end
section
variable {X:Cx} {pins:List (Addr×Obj)} {σ:St} {H:Hp} {s:Shared} {a:Addr} {y:V} {u:Value} {A:Around} {E:Value→Shared→Prop}
end
end L2
namespace L2
open PySem PySem.Spec PyProof.Rows
section
variable {κ:Type} [DecidableEq κ]
end
end L2
namespace L2
open PySem PySem.Spec PyProof.Rows
def CellO (c:Addr) (v:V):HO:= .ext fun h=>∃u,RelV v u∧h.IsCell c (some u)
def CodeO (c:Addr) (qual:Str):HO:= .ext fun h=>h.CodeRec (.ref c) qual
def defName (s:Stmt):Str:=match s with
  | .FunctionDef n _ _ _ _ _ _ _ _ _=>n
  | _=>""
def FnO (f:Addr) (st:Stmt) (qual:Str) (cl:List (Str×Addr)) (c':Addr):HO:=
  .ext fun h=>∃doc pm ctv,h.get? f = some (PySem.W.fnMade (defName st) qual (defArgs st) (defBody st) (defScope st) cl doc pm c' ctv)
def hidC (H:Hp) (cs:List Addr):Hp:=fun b=>if b∈cs then none else H b
def bckC (H H':Hp) (cs:List Addr):Hp:=fun b=>if b∈cs then H b else H' b
theorem hidC_in {H:Hp} {cs:List Addr} {b:Addr} (h:b∈cs):hidC H cs b = none:=by unfold hidC;rw [if_pos h]
theorem hidC_out {H:Hp} {cs:List Addr} {b:Addr} (h:b∉cs):hidC H cs b = H b:=by unfold hidC;rw [if_neg h]
theorem bckC_in {H H':Hp} {cs:List Addr} {b:Addr} (h:b∈cs):bckC H H' cs b = H b:=by unfold bckC;rw [if_pos h]
theorem bckC_out {H H':Hp} {cs:List Addr} {b:Addr} (h:b∉cs):bckC H H' cs b = H' b:=by unfold bckC;rw [if_neg h]
def Cells (H:Hp) (cl:List (Str×Addr)) (ys:List Str) (ws:List V):Prop:=
  cl.map (·.1) = ys∧(cl.map (·.2)).Nodup∧Paired (fun (p:Str×Addr) (v:V)=>H p.2 = some (CellO p.2 v)) cl ws
theorem Cells.at {H:Hp}:∀{cl:List (Str×Addr)} {ws:List V},Paired (fun (p:Str×Addr) (v:V)=>H p.2 = some (CellO p.2 v)) cl ws→∀{i:Nat} {p:Str×Addr},cl[i]? = some p→∃v,ws[i]? = some v∧H p.2 = some (CellO p.2 v)
  | _,_,.nil,i,p,h=>by simp at h
  | _,_,.cons r t,0,p,h=>by simp at h;subst h;exact⟨_,rfl,r⟩
  | _,_,.cons r t,i + 1,p,h=>Cells.at t (i:=i) (by simpa using h)
theorem Cells.is {H:Hp} {cl:List (Str×Addr)} {ws:List V} (r:Paired (fun (p:Str×Addr) (v:V)=>H p.2 = some (CellO p.2 v)) cl ws) {c:Addr} (h:c∈cl.map (·.2)):∃v,H c = some (CellO c v):=by
  obtain⟨p,hp,rfl⟩:=List.mem_map.mp h
  obtain⟨i,hi,e⟩:=List.getElem_of_mem hp
  obtain⟨v,_,q⟩:=Cells.at r (i:=i) (p:=p) (by rw [List.getElem?_eq_getElem hi,e])
  exact⟨v,q⟩
structure ClScope (N ps ys:List Str) (sc:Scope):Prop where
  kind:sc.kind = .function
  co:sc.isCoroutine = false
  gen:sc.isGenerator = false
  nd:N.Nodup
  pre:N.take (ps.length + ys.length) = ps ++ ys
  par:∀x∈ps,sc.names.lookup x = some .local
  fre:∀x∈ys,sc.names.lookup x = some .free
  only:∀y∈sc.names,y.2≠ .cell∧(y.2 = .free→y.1∈ys)
def startC (N:List Str) (vs ws:List V):St:=(vs ++ ws).map some ++ List.replicate (N.length - (vs ++ ws).length) none
def cxC (P:Program) (w:World) (K:PySem.W.Frag) (mg:Str→Option Value) (base:Heap) (N:List Str) (qual:Str) (scope:Scope) (f:Addr) (cd:Value) (cl:List (Str×Addr)) (A:Around) (outer:List Env) (s:Shared) (H:Hp):Cx where
  prog:=P
  w:=w
  K:=K
  mg:=mg
  base:=base
  A:=A.deeper (PySem.W.envX qual scope s.heap.objs.size f cd cl)
  N:=N
  s₀:=s
  H₀:=H
  env:=PySem.W.envX qual scope s.heap.objs.size f cd cl
  outer:=outer
  stack:=PySem.W.envX qual scope s.heap.objs.size f cd cl :: outer
  ex:=[]
  calm:=true
  fn:=fun _=>false
  pn:=[]
  xe:=fun _ _=>False
theorem lkp_mem {α:Type}:∀{l:List (Str×α)} {x:Str} {u:α},(l.map (·.1)).Nodup→(x,u)∈l→l.lookup x = some u
  | [],_,_,_,h=>nomatch h
  | (y, v) :: r,x,u,nd,h=>by
    rw [List.map_cons,List.nodup_cons] at nd
    rcases List.mem_cons.mp h with e | h'
    · cases e
      rw [List.lookup_cons_self]
    · have hne:(x == y) = false:=by
        rw [beq_eq_false_iff_ne]
        intro z
        exact nd.1 (by rw [←z];exact List.mem_map.mpr ⟨(x,u),h',rfl⟩)
      rw [List.lookup_cons,hne]
      exact lkp_mem nd.2 h'
theorem hidC_hok {P:Program} {w:World} {H:Hp} {h h':Heap} {cs:List Addr} (x:HOk P w H h) (hc:∀c∈cs,∃v,H c = some (CellO c v)) (k:∀b u,h.get? b = some u→h'.get? b = some u):HOk P w (hidC H cs) h':=fun a o e=>by
  have ha:a∉cs:=fun z=>by rw [hidC_in z] at e;cases e
  rw [hidC_out ha] at e
  have nx:∀b u,H b = some u→(∀φ,u≠ .ext φ)→b∉cs:=fun b u q hn z=>by
    obtain⟨v,e2⟩:=hc b z
    rw [q] at e2
    exact hn _ (Option.some.inj e2)
  refine(x a o e).stay (fun b u _ q=>k b u q) (fun b q=>?_) fun b xs q=>?_
  · rw [hidC_out (nx b _ q fun φ z=>by cases z)];exact q
  · rw [hidC_out (nx b _ q fun φ z=>by cases z)];exact q
theorem inv_startC {P:Program} {w:World} {K:PySem.W.Frag} {mg:Str→Option Value} {base:Heap} {N ps ys:List Str} {qual:Str} {scope:Scope} {f:Addr} {cd:Value} {cl:List (Str×Addr)} {A:Around} {outer:List Env} {s:Shared} {h':Heap} {tk:Nat} {H:Hp} {us:List Value} {vs ws:List V}
    (S:ClScope N ps ys scope) (hd:A.handled = none) (e0:Env0 P w K mg base A outer s H) (hl:vs.length = ps.length) (r:Vals vs us) (hc:Cells H cl ys ws)
    (hn:h'.Ns s.heap.objs.size (fun x=>(ps.zip us).reverse.lookup x)) (hk:∀b o,s.heap.get? b = some o→h'.get? b = some o) :
    Inv (cxC P w K mg base N qual scope f cd cl A outer s (hidC H (cl.map (·.2)))) [] (startC N vs ws) (hidC H (cl.map (·.2))) { s with heap:=h',toks:=tk }:=by
  obtain⟨c1,c2,c3⟩:=hc
  have his:∀c∈cl.map (·.2),∃v,H c = some (CellO c v):=fun c h=>Cells.is c3 h
  have cwl:cl.length = ws.length:=Paired.length c3
  have cyl:cl.length = ys.length:=by rw [←c1,List.length_map]
  have hpl:ps.length + ys.length≤N.length:=by have:=congrArg List.length S.pre;rw [List.length_take,List.length_append] at this;omega
  have ndPY:(ps ++ ys).Nodup:=by rw [←S.pre];exact S.nd.sublist (List.take_sublist _ _)
  have ndP:=(List.nodup_append.mp ndPY).1
  have ndY:=(List.nodup_append.mp ndPY).2.1
  have lk:∀x c,cl.lookup x = some c→c∈cl.map (·.2):=fun x c h=>List.mem_map.mpr ⟨(x,c),PySem.mem_of_lookup h,rfl⟩
  have old:∀c∈cl.map (·.2),c < s.heap.objs.size:=fun c h=>by
    obtain⟨v,e⟩:=his c h
    exact(e0.hok c _ e).lt
  refine⟨⟨e0.mod,S.kind,rfl,rfl,Nat.le_refl _,fun y z c h1 h2=>?_,fun y hy=>?_,(fun y c h _=>by cases h),(fun _=>hd),Around.frames_deeper e0.frames,.inr ⟨rfl,rfl⟩,fun b z=>absurd (show b∈([]:List Addr) from z) (by simp),fun b o e=>⟨(e0.bs b o e).1,?_⟩,e0.bsz,fun b _ _ z=>absurd (show b∈([]:List Addr) from z) (by simp),fun b z=>absurd (show b∈([]:List Addr) from z) (by simp),e0.funs,fun b hb=>?_⟩,
    rfl,e0.bare,Un.kept hk,⟨_,hn,fun i y v h1 h2 h3=>?_⟩,fun y c h=>?_,?_,fun y c h=>hidC_in (lk y c h),fun p hp=>absurd (show p∈([]:List (Addr×Obj)) from hp) (by simp),hidC_hok e0.hok his hk,?_⟩
  · have m1:(y,c)∈cl:=PySem.mem_of_lookup h1
    have m2:(z,c)∈cl:=PySem.mem_of_lookup h2
    obtain⟨i,hi,e1⟩:=List.getElem_of_mem m1
    obtain⟨j,hj,e2⟩:=List.getElem_of_mem m2
    have:(cl.map (·.2))[i]? = (cl.map (·.2))[j]?:=by
      rw [List.getElem?_map,List.getElem?_map,List.getElem?_eq_getElem hi,List.getElem?_eq_getElem hj,e1,e2];rfl
    have:=(List.getElem?_inj (by rw [List.length_map];exact hi) c2).mp this
    subst this
    rw [e1] at e2
    exact congrArg Prod.fst e2
  · have hy:scope.names.lookup y = some .cell∨scope.names.lookup y = some .free:=hy
    have hf:y∈ys:=by
      rcases hy with hy | hy
      · exact absurd rfl (S.only _ (PySem.mem_of_lookup hy)).1
      · exact(S.only _ (PySem.mem_of_lookup hy)).2 rfl
    rw [←c1] at hf
    obtain⟨p,hp,rfl⟩:=List.mem_map.mp hf
    have q:cl.lookup p.1 = some p.2:=lkp_mem (by rw [c1];exact ndY) hp
    exact⟨p.2,q⟩
  · by_cases hb:b∈cl.map (·.2)
    · exact hidC_in hb
    · exact(hidC_out hb).trans (e0.bs b o e).2
  · by_cases hb':b∈cl.map (·.2)
    · exact hidC_in hb'
    · exact(hidC_out hb').trans (e0.frf b hb)
  · have hiv:i < (vs ++ ws).length:=by
      unfold startC at h2
      by_cases hi:i < (vs ++ ws).length
      · exact hi
      · rw [List.getElem?_append_right (by simpa using hi),List.getElem?_replicate] at h2
        split at h2 <;> cases h2
    have ha:(vs ++ ws)[i]? = some v:=by
      unfold startC at h2
      rw [List.getElem?_append_left (by simpa using hiv),List.getElem?_map] at h2
      cases e:(vs ++ ws)[i]? with
      | none=>rw [e] at h2;cases h2
      | some a=>rw [e] at h2;cases h2;rfl
    rw [List.length_append] at hiv
    have hp:(ps ++ ys)[i]? = some y:=by
      rw [←S.pre,List.getElem?_take_of_lt (by omega)];exact h1
    by_cases hi:i < ps.length
    · rw [List.getElem?_append_left hi] at hp
      rw [List.getElem?_append_left (by omega)] at ha
      obtain⟨u,hu,rv⟩:=r.get ha
      refine⟨u,rv,.inl ⟨S.par y (List.mem_of_getElem? hp),?_⟩⟩
      have hm:(y,u)∈ps.zip us:=List.mem_of_getElem? (i:=i) (by rw [List.getElem?_zip_eq_some];exact⟨hp,hu⟩)
      have ul:us.length = ps.length:=by rw [←r.length];exact hl
      refine lkp_mem ?_ (List.mem_reverse.mpr hm)
      unfold List.Nodup
      rw [List.map_reverse,List.pairwise_reverse,List.map_fst_zip (by omega)]
      exact ndP.imp fun h=>h.symm
    · rw [List.getElem?_append_right (by omega)] at hp
      rw [List.getElem?_append_right (by omega),hl] at ha
      obtain⟨p,hp2,e⟩:∃p,cl[i - ps.length]? = some p∧p.1 = y:=by
        rw [←c1,List.getElem?_map] at hp
        exact Option.map_eq_some_iff.mp hp
      obtain⟨v',ev,q⟩:=Cells.at c3 hp2
      rw [ha] at ev;cases ev
      obtain⟨⟨u,ru,hcell⟩,_,st⟩:=e0.hok _ _ q
      refine⟨u,ru,.inr ⟨.inr (S.fre y (List.mem_of_getElem? hp)),p.2,?_,?_⟩⟩
      · subst e
        have q:cl.lookup p.1 = some p.2:=lkp_mem (by rw [c1];exact ndY) (List.mem_of_getElem? hp2)
        exact q
      · obtain⟨o,ho,hd⟩:=hcell
        exact⟨o,hk _ _ ho,hd⟩
  · obtain⟨v,e⟩:=his c (lk y c h)
    obtain⟨⟨u,ru,o,ho,hd⟩,_,st⟩:=e0.hok _ _ e
    exact⟨_,o,hk _ _ ho,hd⟩
  · show hidC H _ s.heap.objs.size = none
    rw [hidC_out fun z=>absurd (old _ z) (Nat.lt_irrefl _)]
    exact e0.hok.fresh (Nat.le_refl _)
  · unfold startC
    show _ = N.length
    rw [List.length_append,List.length_map,List.length_replicate,List.length_append]
    omega
theorem cl_run {P:Program} {w:World} {K:PySem.W.Frag} {mg:Str→Option Value} {base:Heap} {k:Nat} {f c':Addr} {st:Stmt} {qual:Str} {cl:List (Str×Addr)} {N ps ys:List Str} {A:Around} {outer:List Env} {s:Shared} {H:Hp} {args:Args} {us:List Value} {vs ws:List V} {Q:VK} {E:XK}
    (S:ClScope N ps ys (defScope st)) (hr:Room (k + 1) A) (e0:Env0 P w K mg base A outer s H) (hf:H f = some (FnO f st qual cl c')) (hcd:H c' = some (CodeO c' qual)) (hc:Cells H cl ys ws) (hl:vs.length = ps.length) (r:Vals vs us)
    (hb:∀doc pm ctv,BindsTo s (PySem.W.fnX (defName st) qual (defArgs st) (defBody st) (defScope st) cl .none .none doc pm none (.ref c') ctv) args (ps.zip us))
    (hbody:Room k (A.deeper (PySem.W.envX qual (defScope st) s.heap.objs.size f (.ref c') cl))→∃t,PSs (cxC P w K mg base N qual (defScope st) f (.ref c') cl A outer s (hidC H (cl.map (·.2)))) (defBody st) t∧
      t { nx:=fun _ H'=>Q .non (bckC H H' (cl.map (·.2))),rt:=fun v H'=>Q v (bckC H H' (cl.map (·.2))) } (startC N vs ws) (hidC H (cl.map (·.2)))) :
    codeAny (model P w) A (.call (.ref f) args) (CR CX0 outer P w H s Q E) s:=by
  obtain⟨⟨doc,pm,ctv,ho⟩,_,_⟩:=e0.hok _ _ hf
  obtain⟨hrec,_,_⟩:=e0.hok _ _ hcd
  have his:∀c∈cl.map (·.2),∃v,H c = some (CellO c v):=fun c h=>Cells.is hc.2.2 h
  have lim:s.heap.NoLimit:=e0.mod.nolimit.keeps fun b o e=>(e0.bs b o e).1
  have hloc:∀y∈ps.zip us,(defScope st).names.lookup y.1 = some .local:=fun ⟨n,v⟩ hy=>S.par n (List.of_mem_zip hy).1
  refine codeAny_call_function hr.depth ho rfl S.co S.gen rfl hrec (hb doc pm ctv _ _ _ _ ?_)
  refine wpAny_newFunctionEnv (fun y hy=>(S.only y hy).1) hloc (fun h' hn hsb=>?_) S.kind
  have hk:∀b o,s.heap.get? b = some o→h'.get? b = some o:=fun b o e=>by
    have hne:b≠s.heap.objs.size:=Nat.ne_of_lt (Heap.lt_size e)
    rw [hsb.2 b hne]
    exact Heap.get?_push_of_some _ e
  refine⟨lim.keeps hk,codeAny_func ?_⟩
  obtain⟨t,ht,hq⟩:=hbody (hr.deeper _)
  have I:=inv_startC (qual:=qual) (f:=f) (cd:= .ref c') (tk:=s.toks + (ps.zip us).length) S hr.hd e0 hl r hc hn hk
  refine wpAny_mono (ht [] _ _ _ _ I hq) (fun fl s' hs=>?_) fun e s' hs=>hs.elim
  have fin :∀{σ':St} {H':Hp} {v:V} {u:Value},Inv (cxC P w K mg base N qual (defScope st) f (.ref c') cl A outer s (hidC H (cl.map (·.2)))) [] σ' H' s'→RelV v u→Q v (bckC H H' (cl.map (·.2)))→CE outer P w H s Q u s':=by
    intro σ' H' v u J rv q
    have nx:∀b u,H b = some u→(∀φ,u≠ .ext φ)→b∉cl.map (·.2):=fun b u q hn z=>by
      obtain⟨v,e2⟩:=his b z
      rw [q] at e2
      exact hn _ (Option.some.inj e2)
    have nn:∀b,H b = none→b∉cl.map (·.2):=fun b q z=>by
      obtain⟨v,e2⟩:=his b z
      rw [q] at e2;cases e2
    have hJ:∀c∈cl.map (·.2),H' c = none:=fun c hm=>by
      obtain⟨p,hp,rfl⟩:=List.mem_map.mp hm
      have q:cl.lookup p.1 = some p.2:=lkp_mem (by rw [hc.1];exact(List.nodup_append.mp (show (ps ++ ys).Nodup by rw [←S.pre];exact S.nd.sublist (List.take_sublist _ _))).2.1) hp
      exact J.freeC p.1 p.2 q
    have un:=J.base
    have un':Un (frs outer) [] (hidC H (cl.map (·.2))) H' s.heap s'.heap:=un
    refine⟨v,bckC H H' (cl.map (·.2)),J.os,J.bare,⟨fun b o e n hb he=>un'.keep b o e (by rw [hidC_out (nn b n)];exact n) hb he,fun b o e n hb he=>un'.slot b o e (by rw [hidC_out (nn b n)];exact n) hb he,fun b o e n he=>?_,un'.there,fun b xs q=>?_,fun b o u q=>?_,fun b ps' q=>?_⟩,fun b o e=>?_,rv,q⟩
    · rw [bckC_out (nn b n)]
      exact un'.free b o e (by rw [hidC_out (nn b n)];exact n) he
    · have hb:=nx b _ q fun φ z=>by cases z
      rw [bckC_out hb]
      exact un'.tups b xs (by rw [hidC_out hb];exact q)
    · have hb:=nx b _ q fun φ z=>by cases z
      rw [bckC_out hb]
      exact un'.frzs b o u (by rw [hidC_out hb];exact q)
    · have hb:=nx b _ q fun φ z=>by cases z
      obtain⟨more,e⟩:=un'.tbls b ps' (by rw [hidC_out hb];exact q)
      exact⟨more,by rw [bckC_out hb];exact e⟩
    · by_cases hb:b∈cl.map (·.2)
      · rw [bckC_in hb] at e
        obtain⟨v2,e2⟩:=his b hb
        have hbf:b∉frs outer:=fun z=>by
          have:=e0.frf b z
          rw [e2] at this;cases this
        rw [e2] at e
        cases e
        obtain⟨p,⟨ob,eo⟩,stb⟩:=e0.hok b _ e2
        have kk:∀u,s.heap.get? b = some u→s'.heap.get? b = some u:=fun u q=>un'.keep b u q (hidC_in hb) hbf (by simp)
        exact⟨stb _ _ p kk,⟨ob,kk _ eo⟩,stb⟩
      · rw [bckC_out hb] at e
        refine(J.hok b o e).stay (fun d u _ q=>q) (fun d q=>?_) fun d xs q=>?_
        · have hd:d∉cl.map (·.2):=fun z=>by rw [hJ d z] at q;cases q
          rw [bckC_out hd];exact q
        · have hd:d∉cl.map (·.2):=fun z=>by rw [hJ d z] at q;cases q
          rw [bckC_out hd];exact q
  cases fl with
  | ret u=>
    obtain⟨v,σ',H',J,rv,q⟩:=hs
    exact fin J rv q
  | next=>
    obtain⟨σ',H',J,q⟩:=hs
    exact fin (v:=V.non) (u:=Value.none) J rfl q
  | brk=>
    obtain⟨_,_,_,q⟩:=hs
    exact False.elim q
  | cont=>
    obtain⟨_,_,_,q⟩:=hs
    exact False.elim q
end L2
namespace L2
open PySem PySem.Spec PyProof.Rows
def Bm (K:PySem.W.Frag) (mg:Str→Option Value) (bm:Addr):Prop:=mg "__builtins__" = some (.ref bm)∧bm≠builtinsNs∧bm≠mainGlobals∧∃o,K.lookup bm = some o∧o.cls = .type "module"∧o.dict = some builtinsNs∧o.data = .plain
def TabP (P:Addr) (pos:Pos) (qual:Str) (H:Hp):Prop:=∃ps,H P = some (.tbl ps)∧TriplesOk ps.toList∧(codeAmong pos ps.toList = none∨∃c',codeAmong pos ps.toList = some (.ref c')∧H c' = some (CodeO c' qual))
abbrev fst_ (nm:Str) (params:Arguments) (body:List Stmt) (scope:Scope) (pos:Pos):Stmt:= .FunctionDef nm params body [] none [] scope none nm pos
theorem FnO.stb {st:Stmt} {qual:Str} {cl:List (Str×Addr)} {c' f:Addr}:∀h1 h2:Heap,(∃doc pm ctv,h1.get? f = some (PySem.W.fnMade (defName st) qual (defArgs st) (defBody st) (defScope st) cl doc pm c' ctv))→(∀o,h1.get? f = some o→h2.get? f = some o)→
    ∃doc pm ctv,h2.get? f = some (PySem.W.fnMade (defName st) qual (defArgs st) (defBody st) (defScope st) cl doc pm c' ctv):=fun h1 h2 ⟨doc,pm,ctv,e⟩ k=>⟨doc,pm,ctv,k _ e⟩
theorem CodeO.stb {c:Addr} {qual:Str}:∀h1 h2:Heap,h1.CodeRec (.ref c) qual→(∀o,h1.get? c = some o→h2.get? c = some o)→h2.CodeRec (.ref c) qual:=fun h1 h2 x k=>by
  obtain⟨c2,oc,vs,t,e,ho,hd,hv⟩:=x
  cases e
  exact⟨_,oc,vs,t,rfl,k _ ho,hd,hv⟩
section
variable {X:Cx} {pins:List (Addr×Obj)} {σ:St} {H:Hp} {s:Shared} {A:Around} {E:Value→Shared→Prop} {c0 P bm:Addr} {nm qual:Str} {params:Arguments} {body:List Stmt} {scope:Scope} {pos:Pos} {cl:List (Str×Addr)} {Q:Value→Shared→Prop}
theorem mk_fn (I:Inv X pins σ H s) (hcode:X.env.code = .ref c0) (C:PySem.W.codeHdIn X.K c0 P = true) (hb:Bm X.K X.mg bm) (hT:TabP P pos qual H) (hcl:closureFor scope X.env = pure cl)
    (h:∀f c' H' s',H f = none→(∀b o,b≠P→H b = some o→H' b = some o)→TabP P pos qual H'→H' c' = some (CodeO c' qual)→H' f = some (FnO f (fst_ nm params body scope pos) qual cl c')→Inv X pins σ H' s'→Q (.ref f) s') :
    wpAny (model X.prog X.w) A (makeFunction nm qual params (.stmts body) scope X.env [] [] [] pos pos.line) Q E s:=by
  obtain⟨ps,hP,ht,hh⟩:=hT
  have hPo:s.heap.get? P = some (PySem.W.tabObj ps):=I.hok _ _ hP
  have hPl:=Heap.lt_size hPo
  have hg:=I.mod.glob.keeps I.bk
  have CH:PySem.W.CodeHd s.heap c0 P:=PySem.W.codeHd_of_K I.kIn C
  obtain⟨b1,b2,b3,ob,b4,b5,b6,b7⟩:=hb
  have bob:=I.kIn _ _ b4
  have hgP:mainGlobals≠P:=fun q=>by
    obtain⟨o,es,ep,e,hd,_⟩:=hg
    rw [q,hPo] at e;cases e;cases hd
  have hbP:bm≠P:=fun q=>by
    rw [q,hPo] at bob;cases bob;cases b5
  have hB:s.heap.BuiltinsAt X.mg P:=⟨bm,ob,b1,b2,b3,hbP,bob,b5,b6,b7⟩
  have nP:∀d u,H d = some u→(∀qs,u≠ .tbl qs)→d≠P:=fun d u q hn z=>by
    rw [z,hP] at q
    exact hn _ (Option.some.inj q).symm
  rcases hh with hnf | ⟨c',hf,hc'⟩
  · refine PySem.W.makeFunction_K (mg:=X.mg) hcl I.ok.glob hg hcode CH hPo ht hnf hgP hB fun c' ctv doc h' tk hx hge hlt hrec htb=>?_
    obtain⟨fO,hfO⟩:∃fO,fO = PySem.W.fnMade nm qual params body scope cl doc ((X.mg "__name__").getD .none) c' ctv:=⟨_,rfl⟩
    rw [←hfO]
    have fne:h'.objs.size≠P:=Nat.ne_of_gt (Heap.lt_size htb)
    have cne:c'≠P:=Nat.ne_of_gt (Nat.lt_of_lt_of_le hPl hge)
    have fc:h'.objs.size≠c':=Nat.ne_of_gt hlt
    have hsz:s.heap.objs.size≤h'.objs.size:=Nat.le_trans hge (Nat.le_of_lt hlt)
    have hfn:H h'.objs.size = none:=I.hok.fresh hsz
    have hcn:H c' = none:=I.hok.fresh hge
    obtain⟨H',hH'⟩:∃H',H' = upd (upd (upd H P (.tbl (ps ++ #[rawInt pos.line,rawInt pos.col,.ref c']))) c' (CodeO c' qual)) h'.objs.size (FnO h'.objs.size (fst_ nm params body scope pos) qual cl c'):=⟨_,rfl⟩
    have h1:H' h'.objs.size = some (FnO h'.objs.size (fst_ nm params body scope pos) qual cl c'):=by rw [hH',upd_same]
    have h2:H' c' = some (CodeO c' qual):=by rw [hH',upd_ne fc.symm,upd_same]
    have h3:H' P = some (.tbl (ps ++ #[rawInt pos.line,rawInt pos.col,.ref c'])):=by rw [hH',upd_ne fne.symm,upd_ne cne.symm,upd_same]
    have h4:∀b,b≠P→b≠c'→b≠h'.objs.size→H' b = H b:=fun b n1 n2 n3=>by rw [hH',upd_ne n3,upd_ne n2,upd_ne n1]
    have h5:∀b o,b≠P→H b = some o→H' b = some o:=fun b o n q=>by
      have l:=(I.hok b o q).lt
      rw [h4 b n (Nat.ne_of_lt (Nat.lt_of_lt_of_le l hge)) (Nat.ne_of_lt (Nat.lt_of_lt_of_le l hsz))];exact q
    have hk:∀b o,b≠P→s.heap.get? b = some o→(h'.push fO).get? b = some o:=fun b o n q=>Heap.get?_push_of_some _ (hx b o n q)
    refine h h'.objs.size c' H' _ hfn h5 ⟨_,h3,?_,.inr ⟨c',?_,h2⟩⟩ h2 h1 (I.call' (ch:=[]) rfl ⟨fun b o e n _ _=>hk b o (fun z=>by rw [z,hP] at n;cases n) e,fun b o e n _ _=>⟨o.slots,hk b o (fun z=>by rw [z,hP] at n;cases n) e⟩,fun b o e n _=>?_,fun b o e _=>?_,fun b xs q=>h5 b _ (nP b _ q fun _ z=>by cases z) q,fun b o u q=>h5 b _ (nP b _ q fun _ z=>by cases z) q,fun b qs q=>?_⟩ (fun b o e=>?_) I.bare (fun b z=>absurd z (by simp)))
    · rw [Array.toList_append];exact TriplesOk_snoc _ _ _ _ ht
    · rw [Array.toList_append];exact codeAmong_snoc _ ht hnf
    · have l:=Heap.lt_size e
      rw [h4 b (fun z=>by rw [z,hP] at n;cases n) (Nat.ne_of_lt (Nat.lt_of_lt_of_le l hge)) (Nat.ne_of_lt (Nat.lt_of_lt_of_le l hsz))];exact n
    · by_cases z:b = P
      · rw [z];exact⟨_,Heap.get?_push_of_some _ htb⟩
      · exact⟨o,hk b o z e⟩
    · by_cases z:b = P
      · rw [z,hP] at q
        cases q
        exact⟨_,by rw [z];exact h3⟩
      · exact⟨#[],by rw [h5 b _ z q];simp⟩
    · by_cases z1:b = h'.objs.size
      · subst z1
        rw [h1] at e
        cases e
        refine⟨⟨doc,(X.mg "__name__").getD .none,ctv,?_⟩,⟨fO,Heap.get?_push_size _ (by rw [hfO];rfl)⟩,FnO.stb⟩
        rw [hfO]
        exact Heap.get?_push_size _ rfl
      · by_cases z2:b = c'
        · subst z2
          rw [h2] at e
          cases e
          have hr:(h'.push fO).CodeRec (.ref b) qual:=CodeO.stb _ _ hrec fun o q=>Heap.get?_push_of_some _ q
          obtain⟨c2,oc,vs,t,e2,ho,_⟩:=id hr
          cases e2
          exact⟨hr,⟨oc,ho⟩,CodeO.stb⟩
        · by_cases z3:b = P
          · subst z3
            rw [h3] at e
            cases e
            exact Heap.get?_push_of_some _ htb
          · rw [h4 b z3 z2 z1] at e
            refine(I.hok b o e).stay (fun d u hd q=>hk d u ?_ q) (fun d q=>h5 d _ (nP d _ q fun _ z=>by cases z) q) fun d xs q=>h5 d _ (nP d _ q fun _ z=>by cases z) q
            rcases hd with rfl | hd
            · exact z3
            · exact nP d _ hd fun _ z=>by cases z
  · refine PySem.W.makeFunction_hit (mg:=X.mg) hcl I.ok.glob hg hcode CH hPo ht hf hB fun ctv doc h' tk hx hsz=>?_
    obtain⟨fO,hfO⟩:∃fO,fO = PySem.W.fnMade nm qual params body scope cl doc ((X.mg "__name__").getD .none) c' ctv:=⟨_,rfl⟩
    have hk:∀b o,s.heap.get? b = some o→(h'.push fO).get? b = some o:=fun b o q=>Heap.get?_push_of_some _ (hx b o q)
    have hfn:H h'.objs.size = none:=I.hok.fresh hsz
    have h5:∀b o,H b = some o→upd H h'.objs.size (FnO h'.objs.size (fst_ nm params body scope pos) qual cl c') b = some o:=fun b o q=>by
      rw [upd_ne (ne_of_none q hfn)];exact q
    rw [show (⟨.type "function",none,.func (PySem.W.fnX nm qual params body scope cl .none .none doc ((X.mg "__name__").getD .none) none (.ref c') ctv), #[]⟩:Obj) = fO from hfO.symm]
    refine h h'.objs.size c' (upd H h'.objs.size (FnO h'.objs.size (fst_ nm params body scope pos) qual cl c')) _ hfn (fun b o _ q=>h5 b o q) ⟨ps,h5 _ _ hP,ht,.inr ⟨c',hf,h5 _ _ hc'⟩⟩ (h5 _ _ hc') upd_same (I.call' (ch:=[]) rfl (Un.laid hk hsz hfn) (I.hok.laid hk hsz ?_) I.bare (fun b z=>absurd z (by simp)))
    refine⟨⟨doc,(X.mg "__name__").getD .none,ctv,?_⟩,⟨fO,Heap.get?_push_size _ (by rw [hfO];rfl)⟩,FnO.stb⟩
    rw [hfO]
    exact Heap.get?_push_size _ rfl
end
end L2
namespace L2
open PySem PySem.Spec PyProof.Rows
def PF (X:Cx) (sts:List Stmt) (u:St→Hp→Prop) (Φ:Flow→Shared→Prop):Prop:=∀(pins:List (Addr×Obj)) (s:Shared) (σ:St) (H:Hp),Inv X pins σ H s→u σ H→wpAny (model X.prog X.w) X.A (execs sts X.env) Φ X.xe s
def uSeq (t:TS) (u:St→Hp→Prop):St→Hp→Prop:=fun σ H=>t { nx:=u,rt:=fun _ _=>False } σ H
section
variable {X:Cx} {st:Stmt} {rest:List Stmt} {t:TS} {u:St→Hp→Prop} {Φ:Flow→Shared→Prop}
theorem pf_cons (h1:PS X st t) (h2:PF X rest u Φ):PF X (st :: rest) (uSeq t u) Φ:=by
  intro pins s σ H I h
  refine wpAny_execs_cons (thn (h1 pins s σ H _ I h) fun f s1 q=>?_)
  cases f with
  | next=>
    obtain⟨σ',H',I',q⟩:=q
    exact h2 pins s1 σ' H' I' q
  | ret v=>obtain⟨_,_,_,_,_,q⟩:=q;exact q.elim
  | brk=>obtain⟨_,_,_,q⟩:=q;exact q.elim
  | cont=>obtain⟨_,_,_,q⟩:=q;exact q.elim
def PhiM (X:Cx) (y:Str) (Q:VK) (fl:Flow) (s':Shared):Prop:=∃g c w v σ2 H2 pins,fl = .ret (.ref g)∧Inv X pins σ2 H2 s'∧X.env.cells.lookup y = some c∧RelV w v∧s'.heap.IsCell c (some v)∧Q (.ref g) (upd H2 c (CellO c w))
def uMk (P:Addr) (pos:Pos) (iq:Str) (st:Stmt) (y:Str) (iy:Nat) (Q:VK):St→Hp→Prop:=fun σ H=>∃w,σ[iy]? = some (some w)∧TabP P pos iq H∧
  ∀g c c' H3,H g = none→H c = none→(∀b o,b≠P→H b = some o→H3 b = some o)→TabP P pos iq H3→H3 c' = some (CodeO c' iq)→H3 c = some (CellO c w)→H3 g = some (FnO g st iq [(y,c)] c')→Q (.ref g) H3
theorem pf_mk {c0 P bm:Addr} {nm iq y:Str} {ip:Arguments} {ib:List Stmt} {isc:Scope} {pos p1 p2:Pos} {iy im:Nat} {Q:VK} (hcode:X.env.code = .ref c0) (C:PySem.W.codeHdIn X.K c0 P = true) (hb:Bm X.K X.mg bm) (hcl:∀c,X.env.cells.lookup y = some c→closureFor isc X.env = pure [(y,c)])
    (hN:X.N.Nodup) (hm:X.N[im]? = some nm) (hml:X.env.scope.names.lookup nm = some .local) (hy:X.N[iy]? = some y) (hyc:X.env.scope.names.lookup y = some .cell) (hne:iy≠im)
    (hd0:ip.defaults = []) (hk0:ip.kw_defaults = []) (ha:annTrees ip none X.env = []) (hq:qualnameIn X.env nm nm = iq) (hdb:(nm == ("__debug__":Str)) = false) (hcd:(nm == ("__classdict__":Str)) = false) :
    PF X [fst_ nm ip ib isc pos,.Return (some (.Name nm p1)) p2] (uMk P pos iq (fst_ nm ip ib isc pos) y iy Q) (PhiM X y Q):=by
  intro pins s σ H I ⟨w,hw,hT,k⟩
  obtain⟨c,hc⟩:=I.ok.has y (.inl hyc)
  refine wpAny_execs_cons (PySem.W.nestDef_K hd0 hk0 ha ?_)
  rw [hq]
  refine mk_fn I hcode C hb hT (hcl c hc) fun g c' H' s' hg hsm hT' hc' hf' J=>?_
  refine store_ok (v:= .ref g) J hN hm (.inl hml) rfl (fun s2 J2=>?_) (.inr hml)
  refine wpAny_execs_cons (wpAny_Return_some ?_)
  have hlen:im < σ.length:=by rw [I.len];exact(List.getElem?_eq_some_iff.mp hm).1
  refine thn (pe_var hm (.inl hml) hdb hcd pins s2 (σ.set im (some (.ref g))) H' (fun v H''=>v = .ref g∧H'' = H') J2 ⟨_,List.getElem?_set_self hlen,rfl,rfl⟩) fun v s3 ⟨v',H'',J3,rv,e1,e2⟩=>?_
  subst e1 e2
  obtain rfl:v = Value.ref g:=rv
  obtain⟨m,_,hl⟩:=J3.loc
  obtain⟨uv,ru,lk⟩:=hl iy y w hy (by rw [List.getElem?_set_ne (Ne.symm hne)];exact hw) (.inr (.inl hyc))
  rcases lk with ⟨hk,_⟩ | ⟨_,c2,hc2,hcell⟩
  · have hk':X.env.scope.names.lookup y = some .local:=hk
    rw [hyc] at hk';cases hk'
  · rw [hc] at hc2
    cases hc2
    have hn:=J3.freeC y c hc
    have hn0:=I.freeC y c hc
    refine⟨g,c,w,uv,_,H'',pins,rfl,J3,hc,ru,hcell,k g c c' _ hg hn0 (fun b o n q=>?_) ?_ ?_ upd_same ?_⟩
    · rw [upd_ne (ne_of_none q hn0)];exact hsm b o n q
    · obtain⟨ps,a1,a2,a3⟩:=hT'
      refine⟨ps,by rw [upd_ne (ne_of_none a1 hn)];exact a1,a2,a3.imp id fun ⟨d,d1,d2⟩=>⟨d,d1,by rw [upd_ne (ne_of_none d2 hn)];exact d2⟩⟩
    · rw [upd_ne (ne_of_none hc' hn)];exact hc'
    · rw [upd_ne (ne_of_none hf' hn)];exact hf'
end
theorem Fun.okM {P:Program} {w:World} {K:PySem.W.Frag} {mg:Str→Option Value} {base:Heap} {x qual y:Str} {st:Stmt} {f c0 P0:Addr} {fd:FuncData} {N ps:List Str} {k:Nat} {sp:Sp} (F:Fun K x qual st f fd) (hcode:fd.code = .ref c0) (C:PySem.W.codeHdIn K c0 P0 = true) (S:FnScope N ps (defScope st)) (hyc:(defScope st).names.lookup y = some .cell) (len:∀vs H Q E,sp vs H Q E→vs.length = ps.length)
    (hbody:∀(A:Around) (outer:List Env) (s:Shared) (H:Hp) (vs:List V) (Q:VK) (E:XK),Room k (A.deeper (envOfC qual (defScope st) s.heap.objs.size f (.ref c0)))→sp vs H Q E→
      ∃u,PF (cxOf CX0 P w K mg base N qual (defScope st) f (.ref c0) A outer s H E).nox (defBody st) u (PhiM (cxOf CX0 P w K mg base N qual (defScope st) f (.ref c0) A outer s H E).nox y Q)∧u (start N vs) H):FnOk P w K mg base CX0 (k + 1) f fd ps sp:=by
  obtain⟨oc,od,kV,doc,pm,an,cdv,ct,osl,rfl,lk,hcd⟩:=F.ex
  have hcv:cdv = .ref c0:=hcode
  subst hcv
  refine⟨len,fun A outer s H args us vs Q E hr e0 hb r hsp=>?_⟩
  have hl:=len _ _ _ _ hsp
  have KX:K.In s.heap:=e0.mod.kin.keeps fun b o e=>(e0.bs b o e).1
  have lim:s.heap.NoLimit:=e0.mod.nolimit.keeps fun b o e=>(e0.bs b o e).1
  have hkind:∀y∈ps.zip us,(defScope st).names.lookup y.1 = some .local∨((defScope st).names.lookup y.1 = some .cell∧((cellsFrom (s.heap.objs.size + 1) (defScope st).names []).lookup y.1).isSome = true):=fun ⟨n,v⟩ hy=>by
    rcases S.par n (List.of_mem_zip hy).1 with q | q
    · exact .inl q
    · exact .inr ⟨q,PySem.W.cellsFrom_some _ _ _ (.inl q)⟩
  refine codeAny_call_function hr.depth (KX _ _ lk) rfl S.co S.gen rfl (PySem.W.codeRec_of KX hcd) (hb _ _ _ _ ?_)
  refine wpAny_newFunctionEnv_cells S.kind hkind fun env he s1 xx=>?_
  subst he
  refine⟨lim.keeps xx.toInCall.keep,codeAny_func ?_⟩
  obtain⟨u,hu,hq⟩:=hbody A outer s H vs Q E (hr.deeper _) hsp
  have I:Inv (cxOf CX0 P w K mg base N qual (defScope st) f (.ref c0) A outer s H E) [] (start N vs) H s1:=inv_start S hr.hd e0 hl r xx
  refine wpAny_mono (hu [] s1 (start N vs) H (I.wish _) hq) (fun fl s' hs=>?_) fun e s' hs=>hs.elim
  obtain⟨g,c,wv,v,σ2,H2,pins,rfl,J,hc,rv,hcell,q⟩:=hs
  have hcs:s.heap.objs.size≤c:=J.ok.cab y c rfl hc
  have hn:=J.freeC y c hc
  have un:Un (frs outer) [] H H2 s.heap s'.heap:=J.base
  have hco:∃o,s'.heap.get? c = some o:=by obtain⟨o,ho,_⟩:=hcell;exact⟨o,ho⟩
  have hne:∀b o,s.heap.get? b = some o→b≠c:=fun b o e=>Nat.ne_of_lt (Nat.lt_of_lt_of_le (Heap.lt_size e) hcs)
  refine⟨.ref g,upd H2 c (CellO c wv),J.os,J.bare,⟨un.keep,un.slot,fun b o e n he=>?_,un.there,fun b xs z=>?_,fun b o u' z=>?_,fun b qs z=>?_⟩,fun b o e=>?_,rfl,q⟩
  · rw [upd_ne (hne b o e)];exact un.free b o e n he
  · have:=un.tups b xs z
    rw [upd_ne (ne_of_none this hn)];exact this
  · have:=un.frzs b o u' z
    rw [upd_ne (ne_of_none this hn)];exact this
  · obtain⟨more,z2⟩:=un.tbls b qs z
    exact⟨more,by rw [upd_ne (ne_of_none z2 hn)];exact z2⟩
  · by_cases hbc:b = c
    · subst hbc
      rw [upd_same] at e
      cases e
      refine⟨⟨v,rv,hcell⟩,hco,fun h1 h2 ⟨v1,r1,o1,ho1,hd1⟩ kk=>⟨v1,r1,o1,kk _ ho1,hd1⟩⟩
    · rw [upd_ne hbc] at e
      refine(J.hok b o e).stay (fun d u' _ z=>z) (fun d z=>?_) fun d xs z=>?_
      · rw [upd_ne (ne_of_none z hn)];exact z
      · rw [upd_ne (ne_of_none z hn)];exact z
end L2
namespace L2
open PySem PySem.Spec PyProof.Rows
def FnS (K:PySem.W.Frag) (H:Hp) (f:Addr):Prop:=(∃oc od fd sl,K.lookup f = some ⟨oc,od,.func fd,sl⟩)∨∃st qual cl c',H f = some (FnO f st qual cl c')
def tCallV (K:PySem.W.Frag) (spc:Addr→List V→Hp→VK→Prop) (i:Nat) (t:TA):TE:=fun σ H Q=>∃f,σ[i]? = some (some (.ref f))∧FnS K H f∧t σ H fun vs H1=>FnS K H1 f∧spc f vs H1 Q
def RunsV (P:Program) (w:World) (K:PySem.W.Frag) (mg:Str→Option Value) (base:Heap) (k:Nat) (spc:Addr→List V→Hp→VK→Prop):Prop:=
  ∀(f:Addr) (A:Around) (outer:List Env) (s:Shared) (H:Hp) (us:List Value) (vs:List V) (Q:VK),Room k A→Env0 P w K mg base A outer s H→Vals vs us→spc f vs H Q→codeAny (model P w) A (.call (.ref f) ⟨us, []⟩) (CR CX0 outer P w H s Q E0) s
section
variable {X:Cx} {k i:Nat} {x:Str} {p pos:Pos} {e:Expr} {es:List Expr} {t:TA} {spc:Addr→List V→Hp→VK→Prop} {K:PySem.W.Frag}
theorem FnS.at {pins:List (Addr×Obj)} {σ:St} {H:Hp} {s:Shared} {f:Addr} (I:Inv X pins σ H s) (h:FnS X.K H f):PySem.W.FnAt f s.heap:=by
  rcases h with ⟨oc,od,fd,sl,e⟩ | ⟨st,qual,cl,c',e⟩
  · exact⟨oc,od,fd,sl,I.kIn _ _ e⟩
  · obtain⟨⟨doc,pm,ctv,ho⟩,_,_⟩:=I.hok _ _ e
    exact⟨_,_,_,_,ho⟩
theorem pe_callV (F:RunsV X.prog X.w X.K X.mg X.base k spc) (hr:Room k X.A) (hv:PE X (.Name x p) (tVar i)) (ha:PA X (e :: es) t) (hK:X.K = K:=by rfl) (he:starEach (e :: es) X.env = (false,eval e X.env) :: starEach es X.env:=by rfl) (hpl:(backTo pos (starEach es X.env)).any (·.1) = false:=by rfl) :
    PE X (.Call (.Name x p) (e :: es) [] pos) (tCallV K spc i t):=by
  subst hK
  intro pins s σ H Q I ⟨f,h1,h2,h3⟩
  refine wpAny_Call_Name_kw (thn (hv pins s σ H (fun v H'=>v = .ref f∧H' = H) I ⟨_,h1,rfl,rfl⟩) fun u s1 ⟨v,H1,I1,rv,e1,e2⟩=>?_)
  subst e1 e2
  obtain rfl:u = Value.ref f:=rv
  refine PySem.W.callWith_F (h2.at I1) (thn (ha pos pins s1 σ H1 _ I1 h3) fun us s2 ⟨vs,H2,I2,r,h4,h5⟩=>⟨h4.at I2,?_⟩) he hpl
  refine wpAny_call (codeAny_mono (F f X.A X.stack s2 H2 us vs Q hr I2.env0 r h5) fun r s' hq=>?_)
  cases r with
  | error e=>exact hq.elim
  | ok fl=>
    cases fl with
    | ret u=>exact I2.after hq
    | next=>exact False.elim hq
    | brk=>exact False.elim hq
    | cont=>exact False.elim hq
end
def OnlyT (ts:List Addr) (H:Hp):Prop:=(∀P∈ts,H P = some (.tbl #[]))∧∀b,b∈ts∨H b = none∨∃o xs,H b = some (.frz o (.lst xs))
theorem law_callT {P:Program} {w:World} {K:PySem.W.Frag} {mg mb:Str→Option Value} {CX:CXT} {k:Nat} {fa a:Addr} {fd:FuncData} {x:Str} {sp:Sp} {s₁:Shared} {vs:List Value} {ns:List Int} {ts:List Addr}
    (hts:∀T∈ts,K.lookup T = none∧s₁.heap.get? T = some (PySem.W.tabObj #[])∧isCodeTable s₁.heap T)
    (KX:K.In s₁.heap) (hns:s₁.heap.Ns mainGlobals mg) (hb:s₁.heap.Ns builtinsNs mb) (hbb:∀x:Str,x≠"__name__"→mb x = bootBuiltins x) (hlim:s₁.heap.NoLimit) (hg:s₁.gens = #[])
    (ha:s₁.heap.get? a = some { cls:= .type "list",data:= .seq vs.toArray }) (hi:IntsAre vs ns) (hl:ns.length≤sizeLine) (hr:Room k callerA)
    (F:∀base:Heap,K.In base→base.Ns mainGlobals mg→FnOk P w K mg base CX k fa fd [x] sp) (hbind:∀(s:Shared) (u:Value),BindsTo s fd ⟨[u], []⟩ [(x,u)])
    (hsp:∀H:Hp,OnlyT ts H→SqL K H a (ns.map V.int)→sp [.ref a] H (fun v _=>v = .bl true) fun _ _ _=>False)
    (hCX:∀H e s',CX [] H s₁ (fun _ _ _=>False) e s'→False) :
    codeAny (model P w) callerA (.call (.ref fa) ⟨[.ref a], []⟩) (fun r s'=>r = .ok (.ret (.bool true))∧OldK s₁.heap s'.heap∧s'.os = s₁.os∧AllBare s'.gens) s₁:=by
  have rv:=vals_ints hi
  have lenV:=hi.length
  have aT:a∉ts:=fun z=>by
    have:=(hts a z).2.1
    rw [ha] at this;cases this
  have core : ∀H0:Hp,(∀b,H0 b = none∨∃o xs,H0 b = some (.frz o (.lst xs)))→SqL K H0 a (ns.map V.int)→HOk P w H0 s₁.heap→(∀b,H0 b≠none→b = a)→(H0 a≠none→K.lookup a = none)→
      codeAny (model P w) callerA (.call (.ref fa) ⟨[.ref a], []⟩) (fun r s'=>r = .ok (.ret (.bool true))∧OldK s₁.heap s'.heap∧s'.os = s₁.os∧AllBare s'.gens) s₁:=by
    intro H0 hO0 hS0 hok0 hA0 hK0
    obtain⟨H,hH⟩:∃H:Hp,H = fun b=>if b∈ts then some (.tbl #[]) else H0 b:=⟨_,rfl⟩
    have hin:∀b,b∈ts→H b = some (.tbl #[]):=fun b z=>by rw [hH];exact if_pos z
    have hout:∀b,b∉ts→H b = H0 b:=fun b z=>by rw [hH];exact if_neg z
    have h0T:∀b,b∈ts→H0 b = none:=fun b z=>by
      cases q:H0 b with
      | none=>rfl
      | some u=>exact absurd (by rw [←hA0 b (by rw [q];simp)];exact z) aT
    have sub:∀b u,H0 b = some u→H b = some u:=fun b u q=>by
      rw [hout b fun z=>by rw [h0T b z] at q;cases q];exact q
    have hO:OnlyT ts H:=⟨hin,fun b=>by
      by_cases z:b∈ts
      · exact .inl z
      · rw [hout b z];exact .inr (hO0 b)⟩
    have hS:SqL K H a (ns.map V.int):=by
      rcases hS0 with (h | ⟨o,h⟩) | h
      · exact .inl (.inl (sub _ _ h))
      · exact .inl (.inr ⟨o,sub _ _ h⟩)
      · exact .inr h
    have hok:HOk P w H s₁.heap:=fun b u e=>by
      by_cases z:b∈ts
      · rw [hin b z] at e
        cases e
        exact(hts b z).2.1
      · rw [hout b z] at e
        exact(hok0 b u e).stay (fun _ _ _ q=>q) (fun d q=>sub d _ q) fun d xs q=>sub d _ q
    have fr:∀{b:Addr} {o:Obj},s₁.heap.get? b = some o→o.cls≠ .none→b≠a→H b = none:=fun {b o} e hc hb'=>by
      have z:b∉ts:=fun z=>by
        have:=(hts b z).2.1
        rw [e] at this
        cases this
        exact hc rfl
      rw [hout b z]
      cases q:H0 b with
      | none=>rfl
      | some u=>exact absurd (hA0 b (by rw [q];simp)) hb'
    have base_of:∀{b:Addr} {o:Obj},s₁.heap.get? b = some o→H b = none→(hidT s₁.heap H).get? b = some o:=fun e n=>hidT_get e n
    have noD:∀{b:Addr} {o:Obj} {es:Array DictEntry} {ep:Nat},s₁.heap.get? b = some o→o.data = .dict es ep→H b = none:=fun {b o es ep} e d=>by
      have z:b∉ts:=fun z=>by
        have:=(hts b z).2.1
        rw [e] at this
        cases this
        cases d
      rw [hout b z]
      cases q:H0 b with
      | none=>rfl
      | some u=>
        have e':b = a:=hA0 b (by rw [q];simp)
        subst e'
        rw [ha] at e;cases e
        cases d
    have nsK:∀{b:Addr} {m:Str→Option Value},s₁.heap.Ns b m→(hidT s₁.heap H).Ns b m:=fun {b m} ⟨o,es,ep,e,d,r⟩=>⟨o,es,ep,base_of e (noD e d),d,r⟩
    have hKb:K.In (hidT s₁.heap H):=fun b o e=>base_of (KX b o e) (by
      have z:b∉ts:=fun z=>by rw [(hts b z).1] at e;cases e
      rw [hout b z]
      cases q:H0 b with
      | none=>rfl
      | some u=>
        have e':b = a:=hA0 b (by rw [q];simp)
        subst e'
        rw [hK0 (by rw [q];simp)] at e;cases e)
    have hM:Mod K mg (hidT s₁.heap H):=⟨hKb,nsK hns,⟨mb,nsK hb,hbb⟩,let ⟨mc,h1,h2⟩:=hlim;⟨mc,nsK h1,h2⟩⟩
    have e0:Env0 P w K mg (hidT s₁.heap H) callerA [] s₁ H:=⟨rfl,hM,fun b o e=>of_hidT e,Nat.le_of_eq (hidT_size _ _),trivial,fun b hb=>absurd (show b∈([]:List Addr) from hb) (by simp),hok,.of_eq hg⟩
    refine codeAny_mono ((F _ hKb (nsK hns)).run callerA [] s₁ H ⟨[.ref a], []⟩ [.ref a] [.ref a] _ _ hr e0 (hbind s₁ (.ref a)) (.cons rfl .nil) (hsp H hO hS)) fun r s' h=>?_
    cases r with
    | error e=>exact(hCX H e s' h).elim
    | ok fl =>
      cases fl with
      | next=>exact False.elim h
      | brk=>exact False.elim h
      | cont=>exact False.elim h
      | ret u =>
        obtain⟨v,H',os,bare,un,hok',r',q⟩:=h
        have q':v = .bl true:=q
        subst q'
        obtain rfl:u = Value.bool true:=r'
        refine⟨rfl,⟨fun b o e=>?_,fun b o e=>un.there b o e (by simp)⟩,os,bare⟩
        by_cases z:b∈ts
        · obtain⟨t1,t2,t3⟩:=hts b z
          rw [e] at t2
          cases t2
          obtain⟨more,e2⟩:=un.tbls b #[] (hin b z)
          have e3:s'.heap.get? b = some { cls:= .none,data:= .fields (#[] ++ more) }:=hok' b _ e2
          exact .inr (.inl ⟨t3,rfl, #[],more,rfl,e3⟩)
        · refine .inl ?_
          cases q:H0 b with
          | none=>exact un.keep b o e (by rw [hout b z];exact q) (fun z=>absurd (show b∈([]:List Addr) from z) (by simp)) (by simp)
          | some u=>
            rcases hO0 b with z1 | ⟨ob,xs,z1⟩
            · rw [q] at z1;cases z1
            · have z2:=un.frzs b ob _ (sub _ _ z1)
              obtain⟨e1,_⟩:=hok0 b _ z1
              obtain⟨e2,_⟩:=hok' b _ z2
              rw [e] at e1;cases e1
              exact e2
  cases hk:K.lookup a with
  | some o=>
    have e:=KX a o hk
    rw [ha] at e
    cases e
    refine core (fun _=>none) (fun _=> .inl rfl) (.inr ⟨_,vs.toArray,_,hk,rfl,rfl,rfl,by rw [List.size_toArray,lenV];exact hl,by simpa using rv⟩) (fun b u z=>by cases (show (none:Option HO) = some u from z)) (fun b z=>absurd rfl z) fun z=>absurd rfl z
  | none =>
    refine core (fun b=>if b = a then some (.frz { cls:= .type "list",data:= .seq vs.toArray } (.lst (ns.map V.int))) else none) (fun b=>?_) (.inl (.inr ⟨{ cls:= .type "list",data:= .seq vs.toArray },if_pos rfl⟩)) (fun b u z=>?_) (fun b z=>?_) fun _=>hk
    · by_cases hb:b = a
      · exact .inr ⟨_,_,if_pos hb⟩
      · exact .inl (if_neg hb)
    · by_cases hb:b = a
      · cases (if_pos hb).symm.trans z
        subst hb
        exact⟨ha,by rw [List.length_map];exact hl,vs,_,rv,ha⟩
      · cases (if_neg hb).symm.trans z
    · by_cases hb:b = a
      · exact hb
      · exact absurd (if_neg hb) z
theorem walk_ofT {l:PySem.W.OpenLaw} {n k:Nat} {q:Program} {loose:List Str} {XP:(Str→Option Value)→Heap→Prop} {YP:World→Heap→Prop} {d:DefRec} {K:Params→PySem.W.Frag} {CX:World→CXT} {sp:World→Sp} {x:Str} {tc:List (Addr×Addr)}
    (hn:l.most = some n) (hn2:n≤sizeLine) (hdf:d.params.defaults = []) (hr:Room k callerA)
    (hY:∀(w:World) (h:Heap),YP w h→(K w.params).In h∧∀q∈tc,(K w.params).lookup q.2 = none∧h.get? q.2 = some (PySem.W.tabObj #[])∧PySem.W.codeHdIn (K w.params) q.1 q.2 = true)
    (F : ∀(w:World) (mg:Str→Option Value) (fa:Addr) (h:Heap),(K w.params).In h→h.Ns mainGlobals mg→mg d.name = some (.ref fa)→
      ∃ fd:FuncData,(∀(s:Shared) (u:Value),BindsTo s fd ⟨[u], []⟩ [(x,u)])∧
        ∀base:Heap,(K w.params).In base→base.Ns mainGlobals mg→FnOk l.prog w (K w.params) mg base (CX w) k fa fd [x] (sp w))
    (hsp:∀(w:World) (H:Hp) (a:Addr) (ns:List Int),ns.length≤n→OnlyT (tc.map (·.2)) H→SqL (K w.params) H a (ns.map V.int)→sp w [.ref a] H (fun v _=>v = .bl true) fun _ _ _=>False)
    (hCX:∀(w:World) (H:Hp) (s:Shared) (e:Value) (s':Shared),CX w [] H s (fun _ _ _=>False) e s'→False) :
    PySem.W.WalkO q loose XP YP l.row.toRowW d [] (fun f vs=>PySem.call f vs):=by
  refine Att.attach_call hn hdf fun w s₀ s₁ mg mb fa o pm cd doc a vs ns G Y ho hd hcd hmg hobj hints hlen hg=>?_
  obtain⟨KX,T⟩:=hY w _ Y
  obtain⟨fd,hb,hF⟩:=F w mg fa _ KX G.T.g hmg
  refine law_callT (ts:=tc.map (·.2)) (fun t ht=>?_) KX G.T.g G.T.b G.T.builtins G.T.nolimit hg hobj hints (Nat.le_trans hlen hn2) hr hF hb (fun H hO hS=>hsp w H a ns hlen hO hS) fun H e s'=>hCX w H s₁ e s'
  obtain⟨q,hq,rfl⟩:=List.mem_map.mp ht
  obtain⟨t1,t2,t3⟩:=T q hq
  exact⟨t1,t2,((PySem.W.codeHd_of_K KX t3).tab t2).isCodeTable⟩
end L2
namespace Bm
def bitI (n j:Nat):Int:=if n.testBit j then 1 else 0
def bitsI (n m:Nat):List Int:=(List.range m).map fun i=>bitI n (m - 1 - i)
def numI (bs:List Int):Int:=bs.foldl (fun x b=>x * 2 + b) 0
def Bits (bs:List Int):Prop:=∀b∈bs,b = 0∨b = 1
def left (n m k:Nat):Int:=((n / 2 ^ (m - k) * 2 ^ (m - k):Nat):Int)
end Bm
namespace My
open PySem L2
def top (i:Nat):Stmt:=PySem.Challenge.pw_bitrail_k50_an_ear.main.body.getD i (.Pass ⟨0,0,0,0⟩)
abbrev s_ear:Stmt:=top 1
abbrev s__law_draw:Stmt:=top 3
abbrev s__law_pairs:Stmt:=top 4
abbrev s__law_tells:Stmt:=top 5
abbrev s_law:Stmt:=top 6
def spCellAt (K:PySem.W.Frag):Sp:=fun vs H Q _=>∃(a:Addr) (ns:List Int) (k:Nat),vs = [.ref a,.int k]∧SqL K H a (ns.map V.int)∧∀z:Int,Q (.int z) H
theorem same_new {H:Hp} {p:Addr} (h:H p = none) (o:HO):Same H (upd H p o):=fun b u q=>by rw [upd_ne (ne_of_none q h)];exact q
theorem small {n:Nat} (h:n≤1000):n≤sizeLine:=Nat.le_of_lt (small1000 h)
theorem small_lit {n:Nat} (h:decide (n≤1000) = true):n≤sizeLine:=small (of_decide_eq_true h)
theorem small1 {n:Nat} (h:n≤1000):n < sizeLine:=small1000 h
theorem _root_.L2.Same.put {H H':Hp} {p:Addr} {o:HO} (g:Same H H') (h:H p = none):Same H (upd H' p o):=fun b u q=>by rw [upd_ne (ne_of_none q h)];exact g b u q
def BmK (K:PySem.W.Frag) (bm:Addr):Prop:=PySem.W.nsIn K mainGlobals "__builtins__" = some (some (.ref bm))∧bm≠builtinsNs∧bm≠mainGlobals∧∃sl,K.lookup bm = some ⟨.type "module",some builtinsNs,.plain,sl⟩
theorem BmK.bm {K:PySem.W.Frag} {h:Heap} {mg:Str→Option Value} {bm:Addr} (X:K.In h) (G:h.Ns mainGlobals mg) (z:BmK K bm):Bm K mg bm:=by
  obtain⟨a,b,c,sl,d⟩:=z
  exact⟨PySem.W.mg_of X G a,b,c,_,d,rfl,rfl,rfl⟩
abbrev sH:Stmt:=(defBody s_ear).getD 2 (.Pass ⟨0,0,0,0⟩)
def posOf (s:Stmt):Pos:=match s with
  | .FunctionDef _ _ _ _ _ _ _ _ _ p=>p
  | _=>⟨0,0,0,0⟩
abbrev posH:Pos:=posOf sH
abbrev iqH:Str:=("ear":Str) ++ ".<locals>." ++ "heard"
theorem clH {L c:Addr} {f:Addr} {cd:Value} (h:(PyProof.Rows.envOfC "ear" (defScope s_ear) L f cd).cells.lookup (Str.ofString "kept") = some c):closureFor (defScope sH) (PyProof.Rows.envOfC "ear" (defScope s_ear) L f cd) = pure [(Str.ofString "kept",c)]:=by
  have e:(PyProof.Rows.envOfC "ear" (defScope s_ear) L f cd).cells.lookup (Str.ofString "kept") = some (L + 1):=rfl
  rw [e] at h
  cases h
  rfl
theorem scH:ClScope ["post","turn","bit","kept"] ["post","turn","bit"] ["kept"] (defScope sH):=⟨rfl,rfl,rfl,by decide +kernel,rfl,by decide +kernel,by decide +kernel,by decide +kernel⟩
inductive PrT (H:Hp):List Addr→List (Int×Int)→Prop
  | nil:PrT H [] []
  | cons {q:Addr} {p:Int×Int} {qs:List Addr} {ps:List (Int×Int)}:H q = some (.tup [.int p.1,.int p.2])→PrT H qs ps→PrT H (q :: qs) (p :: ps)
theorem PrT.prs {K:PySem.W.Frag} {H:Hp}:∀{qs:List Addr} {ps:List (Int×Int)},PrT H qs ps→PrsQ K H qs ps
  | _,_,.nil=> .nil
  | _,_,.cons h t=> .cons (SqT.of h) (PrT.prs t)
theorem PrT.mono {H H':Hp} (g:∀b xs,H b = some (.tup xs)→H' b = some (.tup xs)):∀{qs:List Addr} {ps:List (Int×Int)},PrT H qs ps→PrT H' qs ps
  | _,_,.nil=> .nil
  | _,_,.cons h t=> .cons (g _ _ h) (PrT.mono g t)
theorem PrT.same {H H':Hp} {qs:List Addr} {ps:List (Int×Int)} (h:PrT H qs ps) (g:Same H H'):PrT H' qs ps:=h.mono fun b _ e=>g b _ e
theorem PrT.put {H:Hp} {qs:List Addr} {ps:List (Int×Int)} {l:Addr} {xs ys:List V} (h:PrT H qs ps) (e:H l = some (.lst xs)):PrT (upd H l (.lst ys)) qs ps:=h.mono fun b zs q=>by
  rw [upd_ne (fun z=>by rw [z,e] at q;cases q)];exact q
theorem PrT.len {H:Hp}:∀{qs:List Addr} {ps:List (Int×Int)},PrT H qs ps→qs.length = ps.length
  | _,_,.nil=>rfl
  | _,_,.cons _ t=>by rw [List.length_cons,List.length_cons,PrT.len t]
theorem PrT.get {H:Hp}:∀{qs:List Addr} {ps:List (Int×Int)},PrT H qs ps→∀{i:Nat} {q:Addr},qs[i]? = some q→∃p,ps[i]? = some p∧H q = some (.tup [.int p.1,.int p.2])
  | _,_,.nil,i,q,h=>by simp at h
  | _,_,.cons (p:=p) h t,0,q,e=>by
    cases (Option.some.inj e)
    exact⟨p,rfl,h⟩
  | _,_,.cons h t,i + 1,q,e=>PrT.get t e
theorem PrT.append {H:Hp}:∀{qs:List Addr} {ps:List (Int×Int)} {qs':List Addr} {ps':List (Int×Int)},PrT H qs ps→PrT H qs' ps'→PrT H (qs ++ qs') (ps ++ ps')
  | _,_,_,_,.nil,g=>g
  | _,_,_,_,.cons h t,g=> .cons h (PrT.append t g)
theorem PrT.take {H:Hp}:∀(n:Nat) {qs:List Addr} {ps:List (Int×Int)},PrT H qs ps→PrT H (qs.take n) (ps.take n)
  | 0,_,_,_=> .nil
  | _ + 1,_,_,.nil=> .nil
  | n + 1,_,_,.cons h t=> .cons h (PrT.take n t)
def kyP (p:Int×Int):List Key:=[.inl p.1,.inl p.2]
def kvP (ps:List (Int×Int)):List (List Key×V):=ps.foldl (fun kvs p=>putK kvs (kyP p) (.bl true)) []
theorem kvP_snoc (ps:List (Int×Int)) (p:Int×Int):kvP (ps ++ [p]) = putK (kvP ps) (kyP p) (.bl true):=by unfold kvP;rw [List.foldl_append];rfl
theorem kvP_go (ps:List (Int×Int)):∀kvs:List (List Key×V),(ps.foldl (fun kvs p=>putK kvs (kyP p) (.bl true)) kvs).length≤kvs.length + ps.length∧∀p:Int×Int,(valV (ps.foldl (fun kvs p=>putK kvs (kyP p) (.bl true)) kvs) (kyP p)).isSome = (decide (p∈ps) || (valV kvs (kyP p)).isSome):=by
  induction ps with
  | nil=>intro kvs;exact⟨Nat.le_refl _,fun p=>by simp⟩
  | cons q r ih=>
    intro kvs
    obtain⟨h1,h2⟩:=ih (putK kvs (kyP q) (.bl true))
    rw [List.foldl_cons]
    refine⟨?_,fun p=>?_⟩
    · have:=length_putK kvs (kyP q) (.bl true)
      rw [List.length_cons]
      omega
    · rw [h2 p,valV_put]
      by_cases e:p = q
      · subst e
        rw [if_pos rfl]
        simp
      · rw [if_neg fun z=>e (by
          unfold kyP at z
          obtain⟨p1,p2⟩:=p
          obtain⟨q1,q2⟩:=q
          simp only [List.cons.injEq,Sum.inl.injEq,and_true] at z
          rw [z.1,z.2])]
        have:decide (p∈q :: r) = decide (p∈r):=by
          rw [Bool.eq_iff_iff,decide_eq_true_iff,decide_eq_true_iff,List.mem_cons]
          exact⟨fun z=>z.resolve_left e,.inr⟩
        rw [this]
theorem kvP_len (ps:List (Int×Int)):(kvP ps).length≤ps.length:=by have:=(kvP_go ps []).1;rw [List.length_nil] at this;unfold kvP;omega
theorem kvP_val (ps:List (Int×Int)) (p:Int×Int):(valV (kvP ps) (kyP p)).isSome = decide (p∈ps):=by
  have:=(kvP_go ps []).2 p
  unfold kvP
  rw [this,valV_nil]
  simp
def Heard (H:Hp) (g:Addr) (ps:List (Int×Int)):Prop:=∃c c' d,H g = some (FnO g sH iqH [("kept",c)] c')∧H c' = some (CodeO c' iqH)∧H c = some (CellO c (.ref d))∧H d = some (.dT (kvP ps))
theorem Heard.same {H H':Hp} {g:Addr} {ps:List (Int×Int)} (h:Heard H g ps) (k:Same H H'):Heard H' g ps:=by
  obtain⟨c,c',d,h1,h2,h3,h4⟩:=h
  exact⟨c,c',d,k _ _ h1,k _ _ h2,k _ _ h3,k _ _ h4⟩
theorem TabP.same {P:Addr} {pos:Pos} {qual:Str} {H H':Hp} (h:TabP P pos qual H) (k:Same H H'):TabP P pos qual H':=by
  obtain⟨ps,h1,h2,h3⟩:=h
  exact⟨ps,k _ _ h1,h2,h3.imp id fun ⟨c',a,b⟩=>⟨c',a,k _ _ b⟩⟩
def spcH:Addr→List V→Hp→VK→Prop:=fun g vs H Q=>∃(a b x:Int) (ps:List (Int×Int)),vs = [.int a,.int b,.int x]∧Heard H g ps∧∀H',Same H H'→Q (.int (if (a,b)∈ps then 1 - x else x)) H'
theorem runs_heard {P:Program} {w:World} {K:PySem.W.Frag} {mg:Str→Option Value} {base:Heap}:RunsV P w K mg base 2 spcH:=by
  rintro f A outer s H us vs Q hr e0 r ⟨a,b,x,ps,rfl,⟨c,c',d,h1,h2,h3,h4⟩,q⟩
  refine cl_run (k:=1) (N:=["post","turn","bit","kept"]) (ws:=[.ref d]) scH hr e0 h1 h2 ⟨rfl,by simp,.cons h3 .nil⟩ rfl r (fun doc pm ctv=> .of_eq ?_) fun hr'=>⟨_,(pss_one (ps_ret (pe_cut (pe_ifExp (pt_cmp (pc_din (hu_of hr') (pe_tup (pa_cons (dv 0) (pa_cons (dv 1) pa_nil))) (dv 3)) rfl) (pe_op z_sub pe_int (dv 2)) (dv 2))))),?_⟩
  · rcases r with _ | ⟨r1,r⟩
    rcases r with _ | ⟨r2,r⟩
    rcases r with _ | ⟨r3,r⟩
    cases r
    rfl
  have dc:d≠c:=fun z=>by rw [z,h3] at h4;cases h4
  have hd:hidC H [c] d = some (.dT (kvP ps)):=by rw [hidC_out (by simpa using dc)];exact h4
  refine⟨fun v H'=>v = .int (if (a,b)∈ps then 1 - x else x)∧Same (hidC H [c]) H',?_,?_⟩
  · refine⟨small_lit rfl,fun t ht=>?_⟩
    have g:=same_new ht (.tup [.int a,.int b])
    have et:=upd_same (H:=hidC H [c]) (a:=t) (o:= .tup [.int a,.int b])
    have hd':=g _ _ hd
    refine⟨d,_,rfl,.inr ⟨kvP ps,kyP (a,b),t,.inl hd',rfl,et,rfl⟩,_,rfl,?_⟩
    rw [kvP_val]
    by_cases hm:(a,b)∈ps
    · rw [decide_eq_true hm,if_pos hm]
      exact iteT ⟨rfl,g⟩
    · rw [decide_eq_false hm,if_neg hm]
      exact iteF ⟨rfl,g⟩
  · rintro v H' ⟨rfl,g⟩
    refine q _ fun z o e=>?_
    show bckC H H' [c] z = some o
    by_cases hz:z∈ [c]
    · rw [bckC_in hz];exact e
    · rw [bckC_out hz];exact g z o (by rw [hidC_out hz];exact e)
def spEar (K:PySem.W.Frag):Sp:=fun vs H Q _=>∃(a:Addr) (qs:List Addr) (ps:List (Int×Int)),vs = [.ref a]∧H a = some (.lst (qs.map V.ref))∧PrT H qs ps∧ps.length≤200∧TabP 16 posH iqH H∧∀g H',(∀b o,b≠16→H b = some o→H' b = some o)→H g = none→TabP 16 posH iqH H'→Heard H' g ps→Q (.ref g) H'
def spLawT (K:PySem.W.Frag):Sp:=fun vs H Q _=>∃(a:Addr) (ns:List Int),vs = [.ref a]∧SqL K H a (ns.map V.int)∧ns.length≤63∧TabP 16 posH iqH H∧∀H',Q (.bl true) H'
def spPairs50 (K:PySem.W.Frag):Sp:=fun vs H Q _=>∃(a:Addr) (ns:List Int) (bs:Int),vs = [.ref a,.int bs]∧SqL K H a (ns.map V.int)∧ns.length≤63∧0≤bs∧bs≤1000∧∀l qs ps H',H l = none→Same H H'→H' l = some (.lst (qs.map V.ref))→PrT H' qs ps→ps.length≤80→Q (.ref l) H'
def spTells (K:PySem.W.Frag):Sp:=fun vs H Q _=>∃(g l:Addr) (qs:List Addr) (ps:List (Int×Int)) (a b x:Int),vs = [.ref g,.ref l,.int a,.int b,.int x]∧Heard H g ps∧H l = some (.lst (qs.map V.ref))∧PrT H qs ps∧∀H',Same H H'→Q (.bl true) H'
def SamT (H H':Hp):Prop:=∀b o,(∀ps,o≠ .tbl ps)→H b = some o→H' b = some o
theorem Same.samT {H H':Hp} (g:Same H H'):SamT H H':=fun b o _ e=>g b o e
theorem SamT.trans {H H1 H2:Hp} (a:SamT H H1) (b:SamT H1 H2):SamT H H2:=fun c o n e=>b c o n (a c o n e)
theorem SamT.l {H H':Hp} (g:SamT H H') {a:Addr} {xs:List V} (e:H a = some (.lst xs)):H' a = some (.lst xs):=g a _ (fun _ z=>by cases z) e
theorem SamT.prt {H H':Hp} (g:SamT H H') {qs:List Addr} {ps:List (Int×Int)} (h:PrT H qs ps):PrT H' qs ps:=h.mono fun b xs e=>g b _ (fun _ z=>by cases z) e
theorem SamT.heard {H H':Hp} (g:SamT H H') {f:Addr} {ps:List (Int×Int)} (h:Heard H f ps):Heard H' f ps:=by
  obtain⟨c,c',d,h1,h2,h3,h4⟩:=h
  exact⟨c,c',d,g _ _ (fun _ z=>by cases z) h1,g _ _ (fun _ z=>by cases z) h2,g _ _ (fun _ z=>by cases z) h3,g _ _ (fun _ z=>by cases z) h4⟩
theorem SamT.seq {K:PySem.W.Frag} {H H':Hp} (g:SamT H H') {a:Addr} {xs:List V} (h:SqL K H a xs):SqL K H' a xs:=by
  rcases h with (h | ⟨o,h⟩) | h
  · exact .inl (.inl (g _ _ (fun _ z=>by cases z) h))
  · exact .inl (.inr ⟨o,g _ _ (fun _ z=>by cases z) h⟩)
  · exact .inr h
theorem samT_of {H H':Hp} (hT:TabP 16 posH iqH H) (k:∀b o,b≠16→H b = some o→H' b = some o):SamT H H':=fun b o n e=>k b o (fun z=>by
  obtain⟨ps,t,_⟩:=hT
  rw [z,t] at e
  exact n ps (Option.some.inj e).symm) e
theorem lay_prs (zs:List (Int×Int)):PyData.canLayAll0 (zs.map prD) = true∧PyData.depthAll (zs.map prD)≤2:=by
  induction zs with
  | nil=>exact⟨rfl,by show (0:Nat)≤2;decide⟩
  | cons z r ih=>
    obtain⟨a,b⟩:=z
    refine⟨?_,?_⟩
    · simp only [List.map_cons,PyData.canLayAll0,ih.1,Bool.and_true]
      rfl
    · have h1:(prD (a,b)).depth≤2:=by
        simp only [prD,PyData.depth,PyData.depthAll];omega
      have h2:=ih.2
      show max (prD (a,b)).depth (PyData.depthAll (r.map prD))≤2
      omega
def ppD (A B:List (Int×Int)):PyData:= .list [.list (A.map prD),.list (B.map prD)]
theorem shaped_pp (A B:List (Int×Int)):SeqAt.shaped (ppD A B) = true:=by
  have a:=lay_prs A
  have b:=lay_prs B
  have c:(ppD A B).canLay0 = true:=by unfold ppD;simp only [PyData.canLay0,PyData.canLayAll0,a.1,b.1,Bool.and_self]
  unfold SeqAt.shaped
  rw [Bool.and_eq_true]
  refine⟨c,decide_eq_true ?_⟩
  unfold ppD
  simp only [PyData.depth,PyData.depthAll]
  have:=a.2
  have:=b.2
  omega
theorem dv_pp {K:PySem.W.Frag} {H:Hp} {h l m:Addr} {A B:List (Int×Int)} {qA qB:List Addr} (e:H h = some (.lst [.ref l,.ref m])) (el:H l = some (.lst (qA.map V.ref))) (em:H m = some (.lst (qB.map V.ref))) (hA:PrT H qA A) (hB:PrT H qB B):DV K H (.ref h) (ppD A B):=
  .lst (SqL.of e) (.cons (.lst (SqL.of el) hA.prs.dvs) (.cons (.lst (SqL.of em) hB.prs.dvs) .nil))
section
variable {P:Program} {w:World} {K:PySem.W.Frag} {mg:Str→Option Value} {base:Heap}
theorem sc_ear:FnScope ["wrong","kept","pair","heard"] ["wrong"] (defScope s_ear):=⟨rfl,rfl,rfl,by decide +kernel,rfl,by decide +kernel,by decide +kernel⟩
set_option maxHeartbeats 4000000 in
theorem ok_ear {a_ear:Addr} {d_ear:FuncData} (F_ear:Fun K "ear" "ear" s_ear a_ear d_ear) (hc_ear:d_ear.code = .ref 20) (fact_hd:PySem.W.codeHdIn K 20 16 = true) (fact_bm:Bm K mg 4) :
    FnOk P w K mg base CX0 1 a_ear d_ear ["wrong"] (spEar K):=by
  refine F_ear.okM (y:="kept") hc_ear fact_hd sc_ear rfl (fun vs H Q E h=>?_) (fun A outer s H vs Q E hr h=>?_)
  · obtain⟨a,qs,ps,rfl,_⟩:=h
    rfl
  obtain⟨a,qs,ps,rfl,el,hP,hpl,hT,q⟩:=h
  have nd:=sc_ear.nd
  refine⟨_,(pf_cons (ps_set (i:=1) nd rfl (Or.inr rfl) pe_dnewT) (pf_cons (ps_for PassesOwn.never rfl (mi_list (dv 0)) (pg_name (i:=2) nd rfl (Or.inl rfl)) (pss_one (ps_dput (hu_of hr) (dv 1) (dv 2) pe_bl rfl))) (pf_mk (iy:=1) (im:=3) (c0:=20) (P:=16) (bm:=4) (iq:=iqH) rfl fact_hd fact_bm (fun c hc=>clH hc) nd rfl rfl rfl rfl (by decide) rfl rfl rfl rfl rfl rfl))),?_⟩
  intro p hp
  have g0:=same_new hp (.dT [])
  have e0:=upd_same (H:=H) (a:=p) (o:= .dT [])
  generalize upd H p _ = H0 at g0 e0
  have hql:=hP.len
  refine⟨⟨_,SqL.of (g0 _ _ el)⟩,for_list (xs:=qs.map V.ref) (fun i σ H'=>∃x:Option V,σ = [some (.ref a),some (.ref p),x,none]∧Same H H'∧H' p = some (.dT (kvP (ps.take i)))) ⟨_,rfl,g0,e0⟩ (fun i σ H' _ z=>by obtain⟨_,_,g,_⟩:=z;exact SqL.of (g _ _ el)) ?_ ?_⟩
  · rintro i v σ H' hv ⟨x,rfl,g,ep⟩
    rw [List.getElem?_map] at hv
    obtain⟨qq,hq,rfl⟩:=Option.map_eq_some_iff.mp hv
    obtain⟨pp,hpp,eq⟩:=(hP.same g).get hq
    obtain⟨hi,e1⟩:=List.getElem?_eq_some_iff.mp hpp
    have hl:=kvP_len (ps.take i)
    rw [List.length_take] at hl
    refine⟨p,_,rfl,.inr ⟨_,kyP pp,qq,ep,rfl,eq,small1 (by omega),rfl⟩,_,rfl,g.put hp,?_⟩
    rw [upd_same,List.take_succ_eq_append_getElem hi,e1,kvP_snoc]
  rintro σ H1 ⟨x,rfl,g1,e1⟩
  rw [List.length_map,hql,List.take_of_length_le (Nat.le_refl _)] at e1
  refine⟨.ref p,rfl,(TabP.same hT g1),fun g c c' H3 hg hc hsm hT3 h1 h2 h3=>q g H3 (fun b o n e=>hsm b o n (g1 _ _ e)) (g1.free hg) hT3 ⟨c,c',p,h3,h1,h2,hsm p _ (fun z=>?_) e1⟩⟩
  obtain⟨qs',t1,_⟩:=(TabP.same hT g1)
  rw [z,t1] at e1
  cases e1
theorem sc__law_draw:FnScope ["_law_script","_law_k","_law_many","_law_cell","_law_seed"] ["_law_script","_law_k","_law_many"] (defScope s__law_draw):=⟨rfl,rfl,rfl,by decide +kernel,rfl,by decide +kernel,by decide +kernel⟩
set_option maxHeartbeats 4000000 in
theorem ok__law_draw {a__law_draw:Addr} {d__law_draw:FuncData} (F__law_draw:Fun K "_law_draw" "_law_draw" s__law_draw a__law_draw d__law_draw) (m_len:mg "len" = none) :
    FnOk P w K mg base CX0 1 a__law_draw d__law_draw ["_law_script","_law_k","_law_many"] (spDraw K):=by
  refine F__law_draw.ok sc__law_draw (fun vs H Q E h=>?_) (fun cdv A outer s H vs Q E hr h=>?_)
  · obtain⟨a,ns,k,m,rfl,_⟩:=h
    rfl
  obtain⟨a,ns,k,m,rfl,hS,h63,k0,k1,m0,q⟩:=h
  have nd:=sc__law_draw.nd
  refine⟨_,(pss_cons (ps_set (i:=3) nd rfl (Or.inl rfl) (pe_cut (pe_ifExp (md_cmp z_gt (pe_callB z_len rfl m_len bt_len (pa_cons (dv 0) pa_nil)) pe_int (nomark _)) (pe_ix z_ixL (dv 0) (pe_op z_mod (dv 1) (pe_callB z_len rfl m_len bt_len (pa_cons (dv 0) pa_nil))) (fun _ _=>rfl)) pe_int))) (pss_cons (ps_set (i:=4) nd rfl (Or.inl rfl) (pe_op z_add (pe_op z_add (pe_op z_mod (dv 3) pe_int) (pe_op z_mul (pe_op z_mul pe_int (dv 1)) (dv 1))) pe_int)) (pss_one (ps_ret (pe_op z_mod (pe_op z_mod (pe_op z_mul (pe_op z_mod (pe_op z_mul (dv 4) pe_int) pe_int) pe_int) pe_int) (dv 2)))))),?_⟩
  refine⟨fun x H'=>(∃v,x = .int v)∧H' = H,?_,?_⟩
  · have hlen:(ns.map V.int).length = ns.length:=List.length_map _
    refine⟨_,.inl hS,?_⟩
    conv=>whnf
    refine ite2 (fun c=>?_) (fun c=>⟨⟨_,rfl⟩,rfl⟩)
    have c1:(0:Int) < (((ns.map V.int).length:Nat):Int):=dec_true c
    obtain⟨v,hv⟩:=at_mod (ns:=ns) (k:=k) (by rw [hlen] at c1;omega)
    exact⟨_,.inl hS,c1,_,_,hS,hv,⟨v,rfl⟩,rfl⟩
  rintro x H' ⟨⟨v,rfl⟩,rfl⟩
  have k2:31 * k * k≤31 * 100000 * 100000:=Int.mul_le_mul (by omega) k1 k0 (by decide)
  have k3:0≤31 * k * k:=Int.mul_nonneg (by omega) k0
  refine⟨(by show (0:Int) < _;decide),⟨big64 (by decide) (by decide),big64 (by omega) (by omega)⟩,⟨big64 (by omega) (by omega),big64 (by omega) (by omega)⟩,?_⟩
  have s0:0≤v % 1000003:=Int.emod_nonneg _ (by decide)
  have s1:v % 1000003 < 1000003:=Int.emod_lt_of_pos _ (by decide)
  refine⟨⟨big64 (by omega) (by omega),big64 (by decide) (by decide)⟩,(by show (0:Int) < _;decide),?_⟩
  have t0:0≤(v % 1000003 + 31 * k * k + 1) * 48271 % 999983:=Int.emod_nonneg _ (by decide)
  have t1:(v % 1000003 + 31 * k * k + 1) * 48271 % 999983 < 999983:=Int.emod_lt_of_pos _ (by decide)
  refine⟨⟨big64 (by omega) (by omega),big64 (by decide) (by decide)⟩,(by show (0:Int) < _;decide),m0,?_⟩
  exact q _ (Int.emod_nonneg _ (by omega)) (Int.emod_lt_of_pos _ m0)
theorem sc__law_pairs:FnScope ["_law_script","_law_base","_law_pairs_here","_law_k","_law_turn"] ["_law_script","_law_base"] (defScope s__law_pairs):=⟨rfl,rfl,rfl,by decide +kernel,rfl,by decide +kernel,by decide +kernel⟩
set_option maxHeartbeats 4000000 in
theorem ok__law_pairs {a__law_pairs:Addr} {d__law_pairs:FuncData} {a__law_draw:Addr} {d__law_draw:FuncData} (F__law_pairs:Fun K "_law_pairs" "_law_pairs" s__law_pairs a__law_pairs d__law_pairs) (m_range:mg "range" = none) (m_len:mg "len" = none) (G__law_draw:FnOk P w K mg base CX0 1 a__law_draw d__law_draw ["_law_script","_law_k","_law_many"] (spDraw K)) (b__law_draw:Binds K d__law_draw ["_law_script","_law_k","_law_many"] []) (k__law_draw:PySem.W.keepIn K (.ref a__law_draw) = true) (m__law_draw:mg "_law_draw" = some (.ref a__law_draw)) :
    FnOk P w K mg base CX0 2 a__law_pairs d__law_pairs ["_law_script","_law_base"] (spPairs50 K):=by
  refine F__law_pairs.ok sc__law_pairs (fun vs H Q E h=>?_) (fun cdv A outer s H vs Q E hr h=>?_)
  · obtain⟨a,ns,bs,rfl,_⟩:=h
    rfl
  obtain⟨a,ns,bs,rfl,hS,h63,b0,b1,q⟩:=h
  have nd:=sc__law_pairs.nd
  refine⟨_,(pss_cons (ps_set (i:=2) nd rfl (Or.inl rfl) (pe_lst pa_nil)) (pss_cons (ps_for PassesOwn.never rfl (mi_range1 rfl m_range (pa_cons (pe_call G__law_draw (hr.mono (by decide)) rfl m__law_draw k__law_draw b__law_draw .nil pass0 (pa_cons (dv 0) (pa_cons (dv 1) (pa_cons pe_int pa_nil)))) pa_nil)) (pg_name (i:=3) nd rfl (Or.inl rfl)) (pss_cons (ps_set (i:=4) nd rfl (Or.inl rfl) (pe_call G__law_draw (hr.mono (by decide)) rfl m__law_draw k__law_draw b__law_draw .nil pass0 (pa_cons (dv 0) (pa_cons (pe_op z_add (pe_op z_add (dv 1) (pe_op z_mul pe_int (dv 3))) pe_int) (pa_cons pe_int pa_nil))))) (pss_cons (ps_cut (ps_if (PW.pt (pw_and (md_cmp z_gt (pe_callB z_len rfl m_len bt_len (pa_cons (dv 0) pa_nil)) pe_int (nomark _)) (pw_and1 (md_cmp z_eq (pe_call G__law_draw (hr.mono (by decide)) rfl m__law_draw k__law_draw b__law_draw .nil pass0 (pa_cons (dv 0) (pa_cons (pe_op z_add (pe_op z_add (dv 1) (pe_op z_mul pe_int (dv 3))) pe_int) (pa_cons pe_int pa_nil)))) pe_int (nomark _))))) (pss_one (ps_set (i:=4) nd rfl (Or.inl rfl) (pe_op z_mod (pe_ix z_ixL (dv 0) (pe_op z_mod (dv 3) (pe_callB z_len rfl m_len bt_len (pa_cons (dv 0) pa_nil))) (fun _ _=>rfl)) (pe_op z_pow pe_int pe_int)))) pss_nil)) (pss_cons (ps_expr (md_append (dv 2) (pa_cons (pe_tup (pa_cons (pe_call G__law_draw (hr.mono (by decide)) rfl m__law_draw k__law_draw b__law_draw .nil pass0 (pa_cons (dv 0) (pa_cons (pe_op z_add (pe_op z_add (dv 1) (pe_op z_mul pe_int (dv 3))) pe_int) (pa_cons pe_int pa_nil)))) (pa_cons (dv 4) pa_nil))) pa_nil))) (pss_one (ps_cut (ps_if (md_cmp z_eq (pe_call G__law_draw (hr.mono (by decide)) rfl m__law_draw k__law_draw b__law_draw .nil pass0 (pa_cons (dv 0) (pa_cons (pe_op z_add (dv 1) (dv 3)) (pa_cons pe_int pa_nil)))) pe_int (nomark _)) (pss_one (ps_expr (md_append (dv 2) (pa_cons (pe_ix z_ixL (dv 2) (pe_op z_fdiv (dv 3) pe_int) (fun _ _=>rfl)) pa_nil)))) pss_nil))))))) (pss_one (ps_ret (dv 2))))),?_⟩
  refine⟨small_lit rfl,fun pl hpl=>?_⟩
  have g1:=same_new hpl (.lst [])
  have e1:=upd_same (H:=H) (a:=pl) (o:= .lst [])
  generalize upd H pl (.lst []) = H1 at g1 e1
  refine⟨a,ns,bs,41,rfl,g1.seq hS,h63,b0,by omega,by decide,fun d5 d50 d51=>?_⟩
  have hlen:(ns.map V.int).length = ns.length:=List.length_map _
  refine⟨⟨by omega,by omega⟩,for_range (fun i σ H'=>Same H H'∧∃(qs:List Addr) (ps:List (Int×Int)) (x y:Option V),H' pl = some (.lst (qs.map V.ref))∧PrT H' qs ps∧i≤ps.length∧ps.length≤2 * i∧σ = [some (.ref a),some (.int bs),some (.ref pl),x,y]) ⟨g1, [], [],_,_,e1,.nil,Nat.le_refl _,Nat.le_refl _,rfl⟩ ?_ ?_⟩
  · rintro i σ H' hi ⟨g,qs,ps,x,y,el,hP,hl1,hl2,rfl⟩
    have hi4:i < 41:=by omega
    have hql:=hP.len
    refine⟨⟨by decide,big64 (by omega) (by omega)⟩,a,ns,_,_,rfl,g.seq hS,h63,(by show (0:Int)≤bs + 3 * (0 + (i:Int)) + 1;omega),(by show bs + 3 * (0 + (i:Int)) + 1≤100000;omega),(by show (0:Int) < 31;decide),fun d d0 d1=>?_⟩
    refine⟨fun σ' H2=>H2 = H'∧∃d:Int,σ' = [some (.ref a),some (.int bs),some (.ref pl),some (.int (0 + (i:Int))),some (.int d)],?_,?_⟩
    · refine⟨_,.inl (g.seq hS),?_⟩
      rw [hlen]
      conv=>whnf
      refine ite2 (fun c=>?_) (fun c=>iteF ⟨rfl,_,rfl⟩)
      have c1:(0:Int) < ((ns.length:Nat):Int):=dec_true c
      refine⟨⟨by decide,big64 (by omega) (by omega)⟩,a,ns,_,_,rfl,g.seq hS,h63,(by show (0:Int)≤bs + 3 * (0 + (i:Int)) + 2;omega),(by show bs + 3 * (0 + (i:Int)) + 2≤100000;omega),(by show (0:Int) < 6;decide),fun e e0 e1=>?_⟩
      refine ite2 (fun c=>?_) (fun c=>⟨rfl,_,rfl⟩)
      refine⟨_,.inl (g.seq hS),?_⟩
      rw [hlen]
      obtain⟨v,hv⟩:=at_mod (ns:=ns) (k:=0 + (i:Int)) (by omega)
      rw [hlen] at hv
      refine⟨c1,_,_,g.seq hS,hv,⟨by decide,by decide,by decide⟩,(by show (0:Int) < 10 ^ (18:Int).toNat;decide),rfl,_,rfl⟩
    rintro σ' H2 ⟨rfl,d',rfl⟩
    refine⟨⟨_,SqL.of el⟩,⟨by decide,big64 (by omega) (by omega)⟩,a,ns,_,_,rfl,g.seq hS,h63,(by show (0:Int)≤bs + 3 * (0 + (i:Int)) + 3;omega),(by show bs + 3 * (0 + (i:Int)) + 3≤100000;omega),(by show (0:Int) < 5;decide),fun e e0 e1=>?_⟩
    refine⟨small_lit rfl,fun pt hpt=>?_⟩
    have g4:=same_new hpt (.tup [.int e,.int d'])
    have e4:=upd_same (H:=H2) (a:=pt) (o:= .tup [.int e,.int d'])
    generalize upd H2 pt _ = H4 at g4 e4
    have el4:=g4 _ _ el
    refine⟨_,el4,small1 (by rw [List.length_map];omega),?_⟩
    have hP4:PrT (upd H4 pl (.lst (qs.map V.ref ++ [V.ref pt]))) (qs ++ [pt]) (ps ++ [(e,d')]):=(PrT.append (hP.same g4) (.cons e4 .nil)).put el4
    have el5:upd H4 pl (.lst (qs.map V.ref ++ [V.ref pt])) pl = some (.lst ((qs ++ [pt]).map V.ref)):=by rw [upd_same,List.map_append];rfl
    have g5:=(g.trans g4).put (o:= .lst (qs.map V.ref ++ [V.ref pt])) hpl
    generalize upd H4 pl _ = H5 at hP4 el5 g5
    refine⟨fun σ' H6=>Same H H6∧∃(qs:List Addr) (ps:List (Int×Int)) (x y:Option V),H6 pl = some (.lst (qs.map V.ref))∧PrT H6 qs ps∧i + 1≤ps.length∧ps.length≤2 * (i + 1)∧σ' = [some (.ref a),some (.int bs),some (.ref pl),x,y],?_,fun _ _ z=>z⟩
    have pl5:(ps ++ [(e,d')]).length = ps.length + 1:=by rw [List.length_append];rfl
    refine⟨a,ns,_,_,rfl,g5.seq hS,h63,(by show (0:Int)≤bs + (0 + (i:Int));omega),(by show bs + (0 + (i:Int))≤100000;omega),(by show (0:Int) < 8;decide),fun r r0 r1=>?_⟩
    refine ite2 (fun c=>?_) (fun c=>⟨g5,_,_,_,_,el5,hP4,by omega,by omega,rfl⟩)
    have ql5:=hP4.len
    have hj:i / 2 < (qs ++ [pt]).length:=by omega
    obtain⟨q',hq'⟩:∃q',(qs ++ [pt])[i / 2]? = some q':=⟨_,List.getElem?_eq_getElem hj⟩
    obtain⟨p',hp',eq'⟩:=hP4.get hq'
    have hat:atI ((qs ++ [pt]).map V.ref) ((0 + (i:Int)) / 2) = some (.ref q'):=by
      rw [show (0 + (i:Int)) / 2 = ((i / 2:Nat):Int) by omega]
      exact atI_nat (by rw [List.getElem?_map,hq'];rfl)
    refine⟨⟨_,SqL.of el5⟩,⟨by decide,by decide⟩,_,_,SqL.of el5,hat,_,el5,small1 (by rw [List.length_map];omega),g5.put hpl,_,_,_,_,?_,(PrT.append hP4 (.cons eq' .nil)).put el5,?_,?_,rfl⟩
    · rw [upd_same,List.map_append (l₁:=qs ++ [pt])];rfl
    · rw [List.length_append,pl5];omega
    · rw [List.length_append,pl5];show ps.length + 1 + 1≤_;omega
  rintro σ H3 ⟨g3,qs,ps,x,y,el,hP,hl1,hl2,rfl⟩
  exact q pl qs ps H3 hpl g3 el hP (by omega)
theorem sc__law_tells:FnScope ["_law_hearing","_law_pairs_here","_law_post","_law_turn","_law_bit","_law_due","_law_found"] ["_law_hearing","_law_pairs_here","_law_post","_law_turn","_law_bit"] (defScope s__law_tells):=⟨rfl,rfl,rfl,by decide +kernel,rfl,by decide +kernel,by decide +kernel⟩
set_option maxHeartbeats 4000000 in
theorem ok__law_tells {a__law_tells:Addr} {d__law_tells:FuncData} (F__law_tells:Fun K "_law_tells" "_law_tells" s__law_tells a__law_tells d__law_tells) (m_isinstance:mg "isinstance" = none) (m_bool:mg "bool" = none) (m_int:mg "int" = none) :
    FnOk P w K mg base CX0 3 a__law_tells d__law_tells ["_law_hearing","_law_pairs_here","_law_post","_law_turn","_law_bit"] (spTells K):=by
  refine F__law_tells.ok sc__law_tells (fun vs H Q E h=>?_) (fun cdv A outer s H vs Q E hr h=>?_)
  · obtain⟨g,l,qs,ps,a,b,x,rfl,_⟩:=h
    rfl
  obtain⟨g,l,qs,ps,a,b,x,rfl,hh,el,hP,q⟩:=h
  have nd:=sc__law_tells.nd
  refine⟨_,(pss_cons (ps_set (i:=5) nd rfl (Or.inl rfl) (dv 4)) (pss_cons (ps_cut (ps_if (md_cmp (z_inP hr.units1) (pe_tup (pa_cons (dv 2) (pa_cons (dv 3) pa_nil))) (dv 1) rfl) (pss_one (ps_set (i:=5) nd rfl (Or.inl rfl) (pe_op z_sub pe_int (dv 4)))) pss_nil)) (pss_cons (ps_set (i:=6) nd rfl (Or.inl rfl) (pe_callV runs_heard (hr.mono (by decide)) (pv 0) (pa_cons (dv 2) (pa_cons (dv 3) (pa_cons (dv 4) pa_nil))))) (pss_one (ps_ret (md_and (pe_callB z_isi_int rfl m_isinstance bt_isinstance (pa_cons (dv 6) (pa_cons (pe_bltn (v:= .ty "int") rfl m_int bt_int rfl) pa_nil))) (md_and (md_not (pe_callB z_isi_bool rfl m_isinstance bt_isinstance (pa_cons (dv 6) (pa_cons (pe_bltn (v:= .ty "bool") rfl m_bool bt_bool rfl) pa_nil)))) (pe_one (pe_cmpR z_eq (dv 6) (dv 5) (nomark _)))))))))),?_⟩
  refine⟨fun σ' H'=>Same H H'∧σ' = [some (.ref g),some (.ref l),some (.int a),some (.int b),some (.int x),some (.int (if (a,b)∈ps then 1 - x else x)),none],?_,?_⟩
  · refine⟨small_lit rfl,fun t ht=>?_⟩
    have gt:=same_new ht (.tup [.int a,.int b])
    have et:=upd_same (H:=H) (a:=t) (o:= .tup [.int a,.int b])
    generalize upd H t _ = H1 at gt et
    refine⟨(a,b),ps,qs,SqT.of et,SqL.of (gt _ _ el),PrT.prs (hP.same gt),?_⟩
    conv=>whnf
    refine ite2 (fun c=>⟨gt,?_⟩) (fun c=>⟨gt,?_⟩)
    · have c1:(a,b)∈ps:=dec_true c
      rw [if_pos c1];rfl
    · have c1:¬ (a,b)∈ps:=dec_false c
      rw [if_neg c1];rfl
  rintro σ' H1 ⟨g1,rfl⟩
  have hh1:=hh.same g1
  have fs:FnS K H1 g:=by obtain⟨c,c',d,h1,_⟩:=hh1;exact .inr ⟨_,_,_,_,h1⟩
  refine⟨g,rfl,fs,fs,a,b,x,ps,rfl,hh1,fun H2 g2=>?_⟩
  generalize (if (a,b)∈ps then 1 - x else x) = y
  refine⟨rfl,?_⟩
  conv=>whnf
  refine⟨rfl,?_⟩
  conv=>whnf
  rw [decide_eq_true rfl]
  exact q _ (g1.trans g2)
theorem sc_law:FnScope ["_law_script","_law_pairs_here","_law_handed","_law_hearings","_law_asked","_law_k","_law_again","_law_side","_law_bit"] ["_law_script"] (defScope s_law):=⟨rfl,rfl,rfl,by decide +kernel,rfl,by decide +kernel,by decide +kernel⟩
set_option maxHeartbeats 4000000 in
theorem ok_law {a_law:Addr} {d_law:FuncData} {a__law_pairs:Addr} {d__law_pairs:FuncData} {a_ear:Addr} {d_ear:FuncData} {a__law_draw:Addr} {d__law_draw:FuncData} {a__law_tells:Addr} {d__law_tells:FuncData} (F_law:Fun K "law" "law" s_law a_law d_law) (m_list:mg "list" = none) (m_range:mg "range" = none) (m_len:mg "len" = none) (fact_hd:PySem.W.codeHdIn K 20 16 = true) (fact_bm:Bm K mg 4) (G__law_pairs:FnOk P w K mg base CX0 2 a__law_pairs d__law_pairs ["_law_script","_law_base"] (spPairs50 K)) (b__law_pairs:Binds K d__law_pairs ["_law_script","_law_base"] []) (k__law_pairs:PySem.W.keepIn K (.ref a__law_pairs) = true) (m__law_pairs:mg "_law_pairs" = some (.ref a__law_pairs)) (G_ear:FnOk P w K mg base CX0 1 a_ear d_ear ["wrong"] (spEar K)) (b_ear:Binds K d_ear ["wrong"] []) (k_ear:PySem.W.keepIn K (.ref a_ear) = true) (m_ear:mg "ear" = some (.ref a_ear)) (G__law_draw:FnOk P w K mg base CX0 1 a__law_draw d__law_draw ["_law_script","_law_k","_law_many"] (spDraw K)) (b__law_draw:Binds K d__law_draw ["_law_script","_law_k","_law_many"] []) (k__law_draw:PySem.W.keepIn K (.ref a__law_draw) = true) (m__law_draw:mg "_law_draw" = some (.ref a__law_draw)) (G__law_tells:FnOk P w K mg base CX0 3 a__law_tells d__law_tells ["_law_hearing","_law_pairs_here","_law_post","_law_turn","_law_bit"] (spTells K)) (b__law_tells:Binds K d__law_tells ["_law_hearing","_law_pairs_here","_law_post","_law_turn","_law_bit"] []) (k__law_tells:PySem.W.keepIn K (.ref a__law_tells) = true) (m__law_tells:mg "_law_tells" = some (.ref a__law_tells)) :
    FnOk P w K mg base CX0 4 a_law d_law ["_law_script"] (spLawT K):=by
  refine F_law.ok sc_law (fun vs H Q E h=>?_) (fun cdv A outer s H vs Q E hr h=>?_)
  · obtain⟨a,ns,rfl,_⟩:=h
    rfl
  obtain⟨a,ns,rfl,hS,h63,hT,q⟩:=h
  have nd:=sc_law.nd
  refine⟨_,(pss_cons (ps_set (i:=1) nd rfl (Or.inl rfl) (pe_lst (pa_cons (pe_call G__law_pairs (hr.mono (by decide)) rfl m__law_pairs k__law_pairs b__law_pairs .nil pass0 (pa_cons (dv 0) (pa_cons pe_int pa_nil))) (pa_cons (pe_call G__law_pairs (hr.mono (by decide)) rfl m__law_pairs k__law_pairs b__law_pairs .nil pass0 (pa_cons (dv 0) (pa_cons pe_int pa_nil))) pa_nil)))) (pss_cons (ps_set (i:=2) nd rfl (Or.inl rfl) (pe_lst (pa_cons (pe_callTy z_listOf rfl m_list bt_list (pa_cons (pe_ix z_ixL (dv 1) pe_int (fun _ _=>rfl)) pa_nil)) (pa_cons (pe_callTy z_listOf rfl m_list bt_list (pa_cons (pe_ix z_ixL (dv 1) pe_int (fun _ _=>rfl)) pa_nil)) pa_nil)))) (pss_cons (ps_set (i:=3) nd rfl (Or.inl rfl) (pe_lst (pa_cons (pe_call G_ear (hr.mono (by decide)) rfl m_ear k_ear b_ear .nil pass0 (pa_cons (pe_ix z_ixL (dv 2) pe_int (fun _ _=>rfl)) pa_nil)) (pa_cons (pe_call G_ear (hr.mono (by decide)) rfl m_ear k_ear b_ear .nil pass0 (pa_cons (pe_ix z_ixL (dv 2) pe_int (fun _ _=>rfl)) pa_nil)) pa_nil)))) (pss_cons (ps_set (i:=4) nd rfl (Or.inl rfl) (pe_op z_cat (pe_slice z_slL (pe_ix z_ixL (dv 1) pe_int (fun _ _=>rfl)) po_none (md_part pe_int)) (pe_slice z_slL (pe_ix z_ixL (dv 1) pe_int (fun _ _=>rfl)) po_none (md_part pe_int)))) (pss_cons (ps_for PassesOwn.never rfl (mi_range1 rfl m_range (pa_cons pe_int pa_nil)) (pg_name (i:=5) nd rfl (Or.inl rfl)) (pss_one (ps_expr (md_append (dv 4) (pa_cons (pe_tup (pa_cons (pe_call G__law_draw (hr.mono (by decide)) rfl m__law_draw k__law_draw b__law_draw .nil pass0 (pa_cons (dv 0) (pa_cons (pe_op z_add pe_int (dv 5)) (pa_cons pe_int pa_nil)))) (pa_cons (pe_call G__law_draw (hr.mono (by decide)) rfl m__law_draw k__law_draw b__law_draw .nil pass0 (pa_cons (dv 0) (pa_cons (pe_op z_add pe_int (dv 5)) (pa_cons pe_int pa_nil)))) pa_nil))) pa_nil))))) (pss_cons (ps_for PassesOwn.never rfl (mi_range1 rfl m_range (pa_cons pe_int pa_nil)) (pg_name (i:=6) nd rfl (Or.inl rfl)) (pss_cons (ps_for PassesOwn.never rfl (mi_range1 rfl m_range (pa_cons (pe_callB z_len rfl m_len bt_len (pa_cons (dv 4) pa_nil)) pa_nil)) (pg_name (i:=5) nd rfl (Or.inl rfl)) (pss_cons (ps_set (i:=7) nd rfl (Or.inl rfl) (pe_op z_mod (pe_op z_add (dv 5) (dv 6)) pe_int)) (pss_cons (ps_set (i:=8) nd rfl (Or.inl rfl) (pe_call G__law_draw (hr.mono (by decide)) rfl m__law_draw k__law_draw b__law_draw .nil pass0 (pa_cons (dv 0) (pa_cons (pe_op z_add (pe_op z_add pe_int (dv 5)) (dv 6)) (pa_cons pe_int pa_nil))))) (pss_one (ps_if (pt_not (md_val (pe_call G__law_tells (hr.mono (by decide)) rfl m__law_tells k__law_tells b__law_tells .nil pass0 (pa_cons (pe_ix z_ixL (dv 3) (dv 7) (fun _ _=>rfl)) (pa_cons (pe_ix z_ixL (dv 1) (dv 7) (fun _ _=>rfl)) (pa_cons (pe_ix z_ixT (pe_ix z_ixL (dv 4) (dv 5) (fun _ _=>rfl)) pe_int (fun _ _=>rfl)) (pa_cons (pe_ix z_ixT (pe_ix z_ixL (dv 4) (dv 5) (fun _ _=>rfl)) pe_int (fun _ _=>rfl)) (pa_cons (dv 8) pa_nil)))))))) (pss_one (ps_ret pe_bl)) pss_nil))))) (pss_one (ps_cut (ps_if (md_cmp z_eq (dv 6) pe_int (nomark _)) (pss_cons (ps_if (md_cmp (z_neS hr.units) (dv 2) (dv 1) (nomark _)) (pss_one (ps_ret pe_bl)) pss_nil) (pss_cons (ps_expr (md_append (pe_ix z_ixL (dv 2) pe_int (fun _ _=>rfl)) (pa_cons (pe_tup (pa_cons pe_int (pa_cons pe_int pa_nil))) pa_nil))) (pss_cons (ps_expr (md_append (pe_ix z_ixL (dv 2) pe_int (fun _ _=>rfl)) (pa_cons (pe_tup (pa_cons pe_int (pa_cons pe_int pa_nil))) pa_nil))) (pss_one (ps_expr (md_clear (pe_ix z_ixL (dv 2) pe_int (fun _ _=>rfl)))))))) pss_nil))))) (pss_one (ps_ret pe_bl)))))))),?_⟩
  refine⟨a,ns,10,rfl,hS,h63,by decide,by decide,fun lA qA pA H1 hlA g1 eA hA lnA=>?_⟩
  refine⟨a,ns,200,rfl,g1.seq hS,h63,by decide,by decide,fun lB qB pB H2 hlB g2 eB hB lnB=>?_⟩
  have eA2:=g2 _ _ eA
  have hA2:=hA.same g2
  refine⟨small_lit rfl,fun ph hph=>?_⟩
  have k3:=same_new hph (.lst [.ref lA,.ref lB])
  have e3:=upd_same (H:=H2) (a:=ph) (o:= .lst [.ref lA,.ref lB])
  generalize upd H2 ph _ = H3 at k3 e3
  refine⟨_,_,SqL.of e3,rfl,_,.inl (SqL.of (k3 _ _ eA2)),fun h0 hh0=>?_⟩
  have k4:=same_new hh0 (.lst (qA.map V.ref))
  have e4:=upd_same (H:=H3) (a:=h0) (o:= .lst (qA.map V.ref))
  generalize upd H3 h0 _ = H4 at k4 e4
  refine⟨_,_,SqL.of (k4 _ _ e3),rfl,_,.inl (SqL.of (k4 _ _ (k3 _ _ eB))),fun h1 hh1=>?_⟩
  have k5:=same_new hh1 (.lst (qB.map V.ref))
  have e5:=upd_same (H:=H4) (a:=h1) (o:= .lst (qB.map V.ref))
  generalize upd H4 h1 _ = H5 at k5 e5
  refine⟨small_lit rfl,fun hd hhd=>?_⟩
  have k6:=same_new hhd (.lst [.ref h0,.ref h1])
  have e6:=upd_same (H:=H5) (a:=hd) (o:= .lst [.ref h0,.ref h1])
  generalize upd H5 hd _ = H6 at k6 e6
  have g26:=k3.trans (k4.trans (k5.trans k6))
  have gs6:=g1.trans (g2.trans g26)
  have e40:=k6 _ _ (k5 _ _ e4)
  have e51:=k6 _ _ e5
  have e36:=k6 _ _ (k5 _ _ (k4 _ _ e3))
  have hne:h0≠h1:=fun z=>by rw [←z,e4] at hh1;cases hh1
  refine⟨_,_,SqL.of e6,rfl,h0,qA,pA,rfl,e40,hA2.same g26,by omega,TabP.same hT gs6,fun g0 H7 kp7 hg0 hT7 hd0=>?_⟩
  have s67:=samT_of (TabP.same hT gs6) kp7
  refine⟨_,_,SqL.of (s67.l e6),rfl,h1,qB,pB,rfl,s67.l e51,s67.prt (hB.same g26),by omega,hT7,fun g1_ H8 kp8 hg1 hT8 hd1=>?_⟩
  have s78:=samT_of hT7 kp8
  refine⟨small_lit rfl,fun hs hhs=>?_⟩
  have k9:=same_new hhs (.lst [.ref g0,.ref g1_])
  have e9:=upd_same (H:=H8) (a:=hs) (o:= .lst [.ref g0,.ref g1_])
  generalize upd H8 hs _ = H9 at k9 e9
  have s69:=s67.trans (s78.trans (Same.samT k9))
  have s29:=(Same.samT g26).trans s69
  have eA9:=s29.l eA2
  have eB9:=s29.l eB
  have hA9:=s29.prt hA2
  have hB9:=s29.prt hB
  have e39:=s69.l e36
  have hd09:=(s78.trans (Same.samT k9)).heard hd0
  have hd19:=(Same.samT k9).heard hd1
  refine⟨_,_,SqL.of e39,rfl,_,SqL.of eA9,fun p1 hp1=>?_⟩
  have c1:cutV (qA.map V.ref) none (some (30:Int)) = (qA.take 30).map V.ref:=by rw [show (30:Int) = ((30:Nat):Int) from rfl,cutV_take,List.map_take]
  have c2:cutV (qB.map V.ref) none (some (30:Int)) = (qB.take 30).map V.ref:=by rw [show (30:Int) = ((30:Nat):Int) from rfl,cutV_take,List.map_take]
  rw [c1]
  have k10:=same_new hp1 (.lst ((qA.take 30).map V.ref))
  have e10:=upd_same (H:=H9) (a:=p1) (o:= .lst ((qA.take 30).map V.ref))
  generalize upd H9 p1 _ = H10 at k10 e10
  refine⟨_,_,SqL.of (k10 _ _ e39),rfl,_,SqL.of (k10 _ _ eB9),fun p2 hp2=>?_⟩
  rw [c2]
  have k11:=same_new hp2 (.lst ((qB.take 30).map V.ref))
  have e11:=upd_same (H:=H10) (a:=p2) (o:= .lst ((qB.take 30).map V.ref))
  generalize upd H10 p2 _ = H11 at k11 e11
  have g911:=k10.trans k11
  refine⟨_,_,k11 _ _ e10,e11,(by rw [List.length_map,List.length_map,List.length_take,List.length_take];exact small (by omega)),fun ak hak=>?_⟩
  have k12:=same_new hak (.lst ((qA.take 30).map V.ref ++ (qB.take 30).map V.ref))
  have e12:upd H11 ak (.lst ((qA.take 30).map V.ref ++ (qB.take 30).map V.ref)) ak = some (.lst ((qA.take 30 ++ qB.take 30).map V.ref)):=by rw [upd_same,←List.map_append]
  generalize upd H11 ak _ = H12 at k12 e12
  have s012:=(Same.samT gs6).trans (s69.trans (Same.samT (g911.trans k12)))
  have hP12:=PrT.append ((hA9.same (g911.trans k12)).take 30) ((hB9.same (g911.trans k12)).take 30)
  have s911:SamT H9 H11:=Same.samT g911
  refine⟨⟨by decide,by decide⟩,for_range (fun i σ H'=>Same H11 H'∧∃(qs:List Addr) (ps:List (Int×Int)) (x y z u:Option V),H' ak = some (.lst (qs.map V.ref))∧PrT H' qs ps∧ps.length≤60 + i∧σ = [some (.ref a),some (.ref ph),some (.ref hd),some (.ref hs),some (.ref ak),x,y,z,u]) ⟨k12,_,_,_,_,_,_,e12,hP12,by rw [List.length_append,List.length_take,List.length_take];omega,rfl⟩ ?_ ?_⟩
  · rintro i σ H' hi ⟨g,qs,ps,x,y,z,u,el,hP,hl,rfl⟩
    have hi20:i < 20:=hi
    have hql:=hP.len
    have hS':=((Same.samT gs6).trans (s69.trans (Same.samT (g911.trans g)))).seq hS
    refine⟨⟨_,SqL.of el⟩,a,ns,_,_,rfl,hS',h63,(by show (0:Int)≤400 + (0 + (i:Int));omega),(by show 400 + (0 + (i:Int))≤100000;omega),(by show (0:Int) < 5;decide),fun d d0 d1=>?_⟩
    refine⟨a,ns,_,_,rfl,hS',h63,(by show (0:Int)≤430 + (0 + (i:Int));omega),(by show 430 + (0 + (i:Int))≤100000;omega),(by show (0:Int) < 31;decide),fun e e0 e1=>?_⟩
    refine⟨small_lit rfl,fun pt hpt=>?_⟩
    have g4:=same_new hpt (.tup [.int d,.int e])
    have e4:=upd_same (H:=H') (a:=pt) (o:= .tup [.int d,.int e])
    generalize upd H' pt _ = H4' at g4 e4
    have el4:=g4 _ _ el
    refine⟨_,el4,small1 (by rw [List.length_map];omega),(g.trans g4).put hak,qs ++ [pt],ps ++ [(d,e)],_,_,_,_,by rw [upd_same,List.map_append];rfl,(PrT.append (hP.same g4) (.cons e4 .nil)).put el4,by rw [List.length_append];show ps.length + 1≤_;omega,rfl⟩
  rintro σ Hb ⟨gb,qs,ps,x,y,z,u,eak,hPk,hlk,rfl⟩
  have hqk:=hPk.len
  have g9b:=g911.trans gb
  have sbS:=((Same.samT gs6).trans (s69.trans (Same.samT g9b))).seq hS
  have eA_:=g9b _ _ eA9
  have eB_:=g9b _ _ eB9
  have hA_:=hA9.same g9b
  have hB_:=hB9.same g9b
  have e3_:=g9b _ _ e39
  have e9_:=g9b _ _ e9
  have hd0_:=hd09.same g9b
  have hd1_:=hd19.same g9b
  have e6_:=g9b _ _ (s69.l e6)
  have eh0_:=g9b _ _ (s69.l e40)
  have eh1_:=g9b _ _ (s69.l e51)
  clear s012 hP12 e12 k12 e10 e11 k10 k11
  have nA0:lA≠h0:=fun z=>by rw [←z,k3 _ _ eA2] at hh0;cases hh0
  have nA1:lA≠h1:=fun z=>by rw [←z,k4 _ _ (k3 _ _ eA2)] at hh1;cases hh1
  have nB0:lB≠h0:=fun z=>by rw [←z,k3 _ _ eB] at hh0;cases hh0
  have nB1:lB≠h1:=fun z=>by rw [←z,k4 _ _ (k3 _ _ eB)] at hh1;cases hh1
  have nP0:ph≠h0:=fun z=>by rw [←z,e3] at hh0;cases hh0
  have nP1:ph≠h1:=fun z=>by rw [←z,k4 _ _ e3] at hh1;cases hh1
  have nD0:hd≠h0:=fun z=>by rw [z,k5 _ _ e4] at hhd;cases hhd
  have nD1:hd≠h1:=fun z=>by rw [z,e5] at hhd;cases hhd
  have nS0:hs≠h0:=fun z=>by rw [z,(s67.trans s78).l e40] at hhs;cases hhs
  have nS1:hs≠h1:=fun z=>by rw [z,(s67.trans s78).l e51] at hhs;cases hhs
  have nK0:ak≠h0:=fun z=>by rw [z,g911 _ _ (s69.l e40)] at hak;cases hak
  have nK1:ak≠h1:=fun z=>by rw [z,g911 _ _ (s69.l e51)] at hak;cases hak
  have g03:=g1.trans (g2.trans k3)
  have hSx:∀H':Hp,(∀b o,b≠h0→b≠h1→Hb b = some o→H' b = some o)→SqL K H' a (ns.map V.int):=fun H' kx=>by
    have ne:∀o,H a = some o→(∀ps,o≠ .tbl ps)→H' a = some o:=fun o e n=>kx a o (fun z=>by rw [←z,g03 _ _ e] at hh0;cases hh0) (fun z=>by rw [←z,(g03.trans k4) _ _ e] at hh1;cases hh1) (((Same.samT gs6).trans (s69.trans (Same.samT g9b))) a o n e)
    rcases hS with (h | ⟨o,h⟩) | h
    · exact .inl (.inl (ne _ h fun _ z=>by cases z))
    · exact .inl (.inr ⟨o,ne _ h fun _ z=>by cases z⟩)
    · exact .inr h
  have nl:∀b o,Hb b = some o→(∀xs,o≠ .lst xs)→b≠h0∧b≠h1:=fun b o e n=>⟨fun z=>by rw [z,eh0_] at e;exact n _ (Option.some.inj e).symm,fun z=>by rw [z,eh1_] at e;exact n _ (Option.some.inj e).symm⟩
  have kxP:∀{H':Hp} {qs:List Addr} {ps:List (Int×Int)},(∀b o,b≠h0→b≠h1→Hb b = some o→H' b = some o)→PrT Hb qs ps→PrT H' qs ps:=fun kx h=>h.mono fun b xs e=>by
    obtain⟨n0,n1⟩:=nl b _ e fun _ z=>by cases z
    exact kx b _ n0 n1 e
  have kxH:∀{H':Hp} {g:Addr} {ps:List (Int×Int)},(∀b o,b≠h0→b≠h1→Hb b = some o→H' b = some o)→Heard Hb g ps→Heard H' g ps:=fun kx h=>by
    obtain⟨c,c',d,a1,a2,a3,a4⟩:=h
    have go:∀b o,Hb b = some o→(∀xs,o≠ .lst xs)→_:=fun b o e n=>kx b o (nl b o e n).1 (nl b o e n).2 e
    exact⟨c,c',d,go _ _ a1 (fun _ z=>by cases z),go _ _ a2 (fun _ z=>by cases z),go _ _ a3 (fun _ z=>by cases z),go _ _ a4 (fun _ z=>by cases z)⟩
  refine⟨⟨by decide,by decide⟩,for_range (fun i σ H'=>(∀b o,b≠h0→b≠h1→Hb b = some o→H' b = some o)∧(i = 0→Same Hb H')∧∃(x y z u:Option V),σ = [some (.ref a),some (.ref ph),some (.ref hd),some (.ref hs),some (.ref ak),x,y,z,u]) ⟨fun b o _ _ e=>e,fun _=>Same.refl _,_,_,_,_,rfl⟩ ?_ ?_⟩
  · rintro i σ H' hi ⟨kx,k0,x,y,z,u,rfl⟩
    have hi2:i < 2:=hi
    have eak':=kx _ _ nK0 nK1 eak
    refine⟨_,.inl (SqL.of eak'),?_⟩
    rw [List.length_map,hqk]
    have em:((ps.length:Nat):Int).toNat = ps.length:=Int.toNat_natCast _
    refine⟨⟨by omega,by omega⟩,for_range (fun j σ H''=>Same H' H''∧∃(x z u:Option V),σ = [some (.ref a),some (.ref ph),some (.ref hd),some (.ref hs),some (.ref ak),x,some (.int (0 + (i:Int))),z,u]) ⟨Same.refl _,_,_,_,rfl⟩ ?_ ?_⟩
    · rintro j σ H'' hj ⟨g,x,z,u,rfl⟩
      rw [em] at hj
      have kx2:∀b o,b≠h0→b≠h1→Hb b = some o→H'' b = some o:=fun b o n0 n1 e=>g _ _ (kx b o n0 n1 e)
      refine⟨(by show (0:Int) < 2;decide),?_⟩
      refine⟨a,ns,_,_,rfl,hSx _ kx2,h63,(by show (0:Int)≤460 + (0 + (j:Int)) + (0 + (i:Int));omega),(by show 460 + (0 + (j:Int)) + (0 + (i:Int))≤100000;omega),(by show (0:Int) < 2;decide),fun bt bt0 bt1=>?_⟩
      obtain⟨gS,lS,qS,pS,t1,t2,t3,t4,t5⟩:∃(gS lS:Addr) (qS:List Addr) (pS:List (Int×Int)),atI [V.ref g0,V.ref g1_] (((0:Int) + (j:Int) + (0 + (i:Int))) % 2) = some (.ref gS)∧atI [V.ref lA,V.ref lB] (((0:Int) + (j:Int) + (0 + (i:Int))) % 2) = some (.ref lS)∧Heard H'' gS pS∧H'' lS = some (.lst (qS.map V.ref))∧PrT H'' qS pS:=by
        have:((0:Int) + (j:Int) + (0 + (i:Int))) % 2 = 0∨((0:Int) + (j:Int) + (0 + (i:Int))) % 2 = 1:=by omega
        rcases this with r | r
        · rw [r]
          exact⟨g0,lA,qA,pA,rfl,rfl,kxH kx2 hd0_,kx2 _ _ nA0 nA1 eA_,kxP kx2 hA_⟩
        · rw [r]
          exact⟨g1_,lB,qB,pB,rfl,rfl,kxH kx2 hd1_,kx2 _ _ nB0 nB1 eB_,kxP kx2 hB_⟩
      obtain⟨q',hq'⟩:∃q',qs[j]? = some q':=⟨_,List.getElem?_eq_getElem (by omega)⟩
      obtain⟨p',hp',eq'⟩:=(kxP kx2 hPk).get hq'
      have hat:atI (qs.map V.ref) (0 + (j:Int)) = some (.ref q'):=by
        rw [Int.zero_add]
        exact atI_nat (by rw [List.getElem?_map,hq'];rfl)
      have eak2:=kx2 _ _ nK0 nK1 eak
      refine⟨_,_,SqL.of (kx2 _ _ nS0 nS1 e9_),t1,_,_,SqL.of (kx2 _ _ nP0 nP1 e3_),t2,_,_,SqL.of eak2,hat,_,_,SqT.of eq',rfl,_,_,SqL.of eak2,hat,_,_,SqT.of eq',rfl,gS,lS,qS,pS,_,_,_,rfl,t3,t4,t5,fun H3' g3'=>?_⟩
      conv=>whnf
      exact⟨g.trans g3',_,_,_,rfl⟩
    rintro σ Hc ⟨gc,x,z,u,rfl⟩
    have kxc:∀b o,b≠h0→b≠h1→Hb b = some o→Hc b = some o:=fun b o n0 n1 e=>gc _ _ (kx b o n0 n1 e)
    refine⟨fun σ' H''=>(∀b o,b≠h0→b≠h1→Hb b = some o→H'' b = some o)∧(i + 1 = 0→Same Hb H'')∧∃(x y z u:Option V),σ' = [some (.ref a),some (.ref ph),some (.ref hd),some (.ref hs),some (.ref ak),x,y,z,u],?_,fun _ _ z=>z⟩
    conv=>whnf
    refine ite2 (fun c=>?_) (fun c=>⟨kxc,fun z=>by omega,_,_,_,_,rfl⟩)
    have c1:(0:Int) + (i:Int) = 0:=dec_true c
    have gbc:=(k0 (by omega)).trans gc
    refine⟨_,dv_pp (gbc _ _ e6_) (gbc _ _ eh0_) (gbc _ _ eh1_) (hA_.same gbc) (hB_.same gbc),dv_pp (gbc _ _ e3_) (gbc _ _ eA_) (gbc _ _ eB_) (hA_.same gbc) (hB_.same gbc),shaped_pp _ _,?_⟩
    conv=>whnf
    have ec6:=gbc _ _ e6_
    have ec0:=gbc _ _ eh0_
    have ec1:=gbc _ _ eh1_
    refine⟨_,_,SqL.of ec6,rfl,⟨_,SqL.of ec0⟩,small_lit rfl,fun t0 ht0=>?_⟩
    have m1:=same_new ht0 (.tup [.int 0,.int 0])
    generalize upd Hc t0 _ = Hd at m1
    refine⟨_,m1 _ _ ec0,small1 (by rw [List.length_map,hA_.len];omega),?_⟩
    obtain⟨X1,hX1⟩:∃X1:List V,X1 = qA.map V.ref ++ [V.ref t0]:=⟨_,rfl⟩
    have lX1:X1.length≤81:=by rw [hX1,List.length_append,List.length_map,hA_.len];show pA.length + 1≤81;omega
    rw [←hX1]
    have u1:upd Hd h0 (.lst X1) hd = some (.lst [.ref h0,.ref h1]):=by rw [upd_ne nD0];exact m1 _ _ ec6
    have u2:upd Hd h0 (.lst X1) h0 = some (.lst X1):=upd_same
    have u3:upd Hd h0 (.lst X1) h1 = some (.lst (qB.map V.ref)):=by rw [upd_ne hne.symm];exact m1 _ _ ec1
    have kd:∀b o,b≠h0→b≠h1→Hb b = some o→upd Hd h0 (.lst X1) b = some o:=fun b o n0 n1 e=>by rw [upd_ne n0];exact m1 _ _ (kxc b o n0 n1 e)
    generalize upd Hd h0 _ = He at u1 u2 u3 kd
    refine⟨_,_,SqL.of u1,rfl,⟨_,SqL.of u2⟩,small_lit rfl,fun t1 ht1=>?_⟩
    have m2:=same_new ht1 (.tup [.int 1,.int 7])
    generalize upd He t1 _ = Hf at m2
    refine⟨_,m2 _ _ u2,small1 (by omega),?_⟩
    have v1:upd Hf h0 (.lst (X1 ++ [V.ref t1])) hd = some (.lst [.ref h0,.ref h1]):=by rw [upd_ne nD0];exact m2 _ _ u1
    have v3:upd Hf h0 (.lst (X1 ++ [V.ref t1])) h1 = some (.lst (qB.map V.ref)):=by rw [upd_ne hne.symm];exact m2 _ _ u3
    have kf:∀b o,b≠h0→b≠h1→Hb b = some o→upd Hf h0 (.lst (X1 ++ [V.ref t1])) b = some o:=fun b o n0 n1 e=>by rw [upd_ne n0];exact m2 _ _ (kd b o n0 n1 e)
    generalize upd Hf h0 _ = Hg at v1 v3 kf
    refine⟨_,_,SqL.of v1,rfl,_,v3,?_⟩
    exact⟨fun b o n0 n1 e=>by rw [upd_ne n1];exact kf b o n0 n1 e,fun z=>by omega,_,_,_,_,rfl⟩
  rintro σ HZ _
  exact q _
end
set_option maxHeartbeats 0 in
theorem all_mk {l:PySem.W.OpenLaw} {w:World} {K:PySem.W.Frag} {h:Heap} {mg:Str→Option Value} {fa:Addr} (X:K.In h) (G:h.Ns mainGlobals mg) (hfa:mg "law" = some (.ref fa))
    {f0:Addr} {od0 an0:Option Addr} {sl0:Array (Option Value)} {oc0 kV0 dc0 pm0 cd0 ct0:Value}
    {f1:Addr} {od1 an1:Option Addr} {sl1:Array (Option Value)} {oc1 kV1 dc1 pm1 cd1 ct1:Value}
    {f2:Addr} {od2 an2:Option Addr} {sl2:Array (Option Value)} {oc2 kV2 dc2 pm2 cd2 ct2:Value}
    {f3:Addr} {od3 an3:Option Addr} {sl3:Array (Option Value)} {oc3 kV3 dc3 pm3 cd3 ct3:Value}
    {f4:Addr} {od4 an4:Option Addr} {sl4:Array (Option Value)} {oc4 kV4 dc4 pm4 cd4 ct4:Value}
    (a0:PySem.W.nsIn K mainGlobals "ear" = some (some (.ref f0)))
    (l0:K.lookup f0 = some ⟨oc0,od0,.func (PySem.W.fnOf "ear" "ear" (defArgs s_ear) (defBody s_ear) (defScope s_ear) .none kV0 dc0 pm0 an0 cd0 ct0),sl0⟩) (c0:PySem.W.codeIn K cd0 "ear" = true) (k0:PySem.W.keepIn K (.ref f0) = true)
    (y0:cd0 = .ref 20)
    (a1:PySem.W.nsIn K mainGlobals "_law_draw" = some (some (.ref f1)))
    (l1:K.lookup f1 = some ⟨oc1,od1,.func (PySem.W.fnOf "_law_draw" "_law_draw" (defArgs s__law_draw) (defBody s__law_draw) (defScope s__law_draw) .none kV1 dc1 pm1 an1 cd1 ct1),sl1⟩) (c1:PySem.W.codeIn K cd1 "_law_draw" = true) (k1:PySem.W.keepIn K (.ref f1) = true)
    (a2:PySem.W.nsIn K mainGlobals "_law_pairs" = some (some (.ref f2)))
    (l2:K.lookup f2 = some ⟨oc2,od2,.func (PySem.W.fnOf "_law_pairs" "_law_pairs" (defArgs s__law_pairs) (defBody s__law_pairs) (defScope s__law_pairs) .none kV2 dc2 pm2 an2 cd2 ct2),sl2⟩) (c2:PySem.W.codeIn K cd2 "_law_pairs" = true) (k2:PySem.W.keepIn K (.ref f2) = true)
    (a3:PySem.W.nsIn K mainGlobals "_law_tells" = some (some (.ref f3)))
    (l3:K.lookup f3 = some ⟨oc3,od3,.func (PySem.W.fnOf "_law_tells" "_law_tells" (defArgs s__law_tells) (defBody s__law_tells) (defScope s__law_tells) .none kV3 dc3 pm3 an3 cd3 ct3),sl3⟩) (c3:PySem.W.codeIn K cd3 "_law_tells" = true) (k3:PySem.W.keepIn K (.ref f3) = true)
    (a4:PySem.W.nsIn K mainGlobals "law" = some (some (.ref f4)))
    (l4:K.lookup f4 = some ⟨oc4,od4,.func (PySem.W.fnOf "law" "law" (defArgs s_law) (defBody s_law) (defScope s_law) .none kV4 dc4 pm4 an4 cd4 ct4),sl4⟩) (c4:PySem.W.codeIn K cd4 "law" = true) (k4:PySem.W.keepIn K (.ref f4) = true)
    (z0:PySem.W.nsIn K mainGlobals "len" = some none)
    (z1:PySem.W.nsIn K mainGlobals "range" = some none)
    (z2:PySem.W.nsIn K mainGlobals "isinstance" = some none)
    (z3:PySem.W.nsIn K mainGlobals "bool" = some none)
    (z4:PySem.W.nsIn K mainGlobals "int" = some none)
    (z5:PySem.W.nsIn K mainGlobals "list" = some none)
    (z6:PySem.W.codeHdIn K 20 16 = true)
    (z7:BmK K 4)
    :∃fd:FuncData,(∀(s:Shared) (v:Value),BindsTo s fd ⟨[v], []⟩ [("_law_script",v)])∧∀base:Heap,K.In base→base.Ns mainGlobals mg→FnOk l.prog w K mg base CX0 4 fa fd ["_law_script"] (spLawT K):=by
  have e:=hfa.symm.trans (PySem.W.mg_of X G a4)
  cases e
  have F_ear:=fun_mk (st:=s_ear) l0 c0 k0
  have b_ear:=F_ear.binds (ps:=["wrong"]) fun _ _ _ _ _ _ us hl=>match us,hl with | [_],_=>rfl
  have m_ear:=PySem.W.mg_of X G a0
  have F__law_draw:=fun_mk (st:=s__law_draw) l1 c1 k1
  have b__law_draw:=F__law_draw.binds (ps:=["_law_script","_law_k","_law_many"]) fun _ _ _ _ _ _ us hl=>match us,hl with | [_,_,_],_=>rfl
  have m__law_draw:=PySem.W.mg_of X G a1
  have F__law_pairs:=fun_mk (st:=s__law_pairs) l2 c2 k2
  have b__law_pairs:=F__law_pairs.binds (ps:=["_law_script","_law_base"]) fun _ _ _ _ _ _ us hl=>match us,hl with | [_,_],_=>rfl
  have m__law_pairs:=PySem.W.mg_of X G a2
  have F__law_tells:=fun_mk (st:=s__law_tells) l3 c3 k3
  have b__law_tells:=F__law_tells.binds (ps:=["_law_hearing","_law_pairs_here","_law_post","_law_turn","_law_bit"]) fun _ _ _ _ _ _ us hl=>match us,hl with | [_,_,_,_,_],_=>rfl
  have m__law_tells:=PySem.W.mg_of X G a3
  have F_law:=fun_mk (st:=s_law) l4 c4 k4
  have b_law:=F_law.binds (ps:=["_law_script"]) fun _ _ _ _ _ _ us hl=>match us,hl with | [_],_=>rfl
  have m_law:=PySem.W.mg_of X G a4
  have m_len:=PySem.W.mg_none_of X G z0
  have m_range:=PySem.W.mg_none_of X G z1
  have m_isinstance:=PySem.W.mg_none_of X G z2
  have m_bool:=PySem.W.mg_none_of X G z3
  have m_int:=PySem.W.mg_none_of X G z4
  have m_list:=PySem.W.mg_none_of X G z5
  refine⟨PySem.W.fnOf "law" "law" (defArgs s_law) (defBody s_law) (defScope s_law) .none kV4 dc4 pm4 an4 cd4 ct4,fun s v=> .of_eq rfl,fun base _ _=>?_⟩
  have G_ear:=ok_ear (P:=l.prog) (w:=w) (mg:=mg) (base:=base) F_ear y0 z6 (BmK.bm X G z7)
  have G__law_draw:=ok__law_draw (P:=l.prog) (w:=w) (mg:=mg) (base:=base) F__law_draw m_len
  have G__law_pairs:=ok__law_pairs (P:=l.prog) (w:=w) (mg:=mg) (base:=base) F__law_pairs m_range m_len G__law_draw b__law_draw F__law_draw.kp m__law_draw
  have G__law_tells:=ok__law_tells (P:=l.prog) (w:=w) (mg:=mg) (base:=base) F__law_tells m_isinstance m_bool m_int
  exact ok_law F_law m_list m_range m_len z6 (BmK.bm X G z7) G__law_pairs b__law_pairs F__law_pairs.kp m__law_pairs G_ear b_ear F_ear.kp m_ear G__law_draw b__law_draw F__law_draw.kp m__law_draw G__law_tells b__law_tells F__law_tells.kp m__law_tells
theorem walk {l:PySem.W.OpenLaw} {q:Program} {loose:List Str} {XP:(Str→Option Value)→Heap→Prop} {YP:World→Heap→Prop} {d:DefRec} {K:Params→PySem.W.Frag} {tc:List (Addr×Addr)} (htc:tc = [(20,16)]) (hn:l.most = some 63) (hdf:d.params.defaults = [])
    (hY:∀(w:World) (h:Heap),YP w h→(K w.params).In h∧∀q∈tc,(K w.params).lookup q.2 = none∧h.get? q.2 = some (PySem.W.tabObj #[])∧PySem.W.codeHdIn (K w.params) q.1 q.2 = true)
    (F :∀(w:World) (mg:Str→Option Value) (fa:Addr) (h:Heap),(K w.params).In h→h.Ns mainGlobals mg→mg d.name = some (.ref fa)→
      ∃fd:FuncData,(∀(s:Shared) (u:Value),BindsTo s fd ⟨[u], []⟩ [("_law_script",u)])∧∀base:Heap,(K w.params).In base→base.Ns mainGlobals mg→FnOk l.prog w (K w.params) mg base CX0 4 fa fd ["_law_script"] (spLawT (K w.params))) :
    PySem.W.WalkO q loose XP YP l.row.toRowW d [] (fun f vs=>PySem.call f vs):=by
  subst htc
  exact L2.walk_ofT (n:=63) (k:=4) (x:="_law_script") (CX:=fun _=>CX0) (sp:=fun w=>spLawT (K w.params)) hn (by decide) hdf ⟨rfl,by decide,by decide⟩ hY F (fun _ H a ns hl hO hS=>⟨a,ns,rfl,hS,hl,⟨#[],hO.1 16 (by simp),trivial,.inl rfl⟩,fun _=>rfl⟩) fun _ _ _ _ _ z=>z
end My
open PySem PySem.W PyProof.Rows
set_option maxRecDepth 100000 in
set_option maxHeartbeats 0 in
theorem PySem.Challenge.cw_bitrail_k50_an_ear_holds : PySem.Challenge.rw_bitrail_k50_an_ear.Holds := by
  w_on;o_law
  refine holds_open (q:=Hd.qv) (loose:=Hd.loose) (XP:=XL Hd.qv []) (YP:=InK Hd.KA) (d:=Hd.dl) (kwd:=[]) Hd.left (InK.of Hd.K_as) InK.keeps (fun s e=>xl_of s e) XL.keeps Hd.dl_1 Hd.dl_2 rfl (fun s _=>recFacts_nil rfl) rfl
    (by assumption) (by decide +kernel) ⟨rfl,rfl,rfl,rfl,rfl,by decide +kernel⟩ ?hw ?hc
  case hw=>w_witness2
  refine My.walk (l:=PySem.Challenge.rw_bitrail_k50_an_ear) (K:=Hd.K) (tc:=Hd.tc) rfl rfl rfl Hd.tabs ?F
  k_fill
  case F=>
    intro w mg fa h KX G hmg
    refine' My.all_mk KX G hmg ?a0 ?l0 ?c0 ?k0 ?y0 ?a1 ?l1 ?c1 ?k1 ?a2 ?l2 ?c2 ?k2 ?a3 ?l3 ?c3 ?k3 ?a4 ?l4 ?c4 ?k4 ?z0 ?z1 ?z2 ?z3 ?z4 ?z5 ?z6 ?z7
    (case a0=>k_is)
    (case l0=>k_is)
    (case c0=>k_is)
    (case k0=>k_is)
    (case y0=>rfl)
    (case a1=>k_is)
    (case l1=>k_is)
    (case c1=>k_is)
    (case k1=>k_is)
    (case a2=>k_is)
    (case l2=>k_is)
    (case c2=>k_is)
    (case k2=>k_is)
    (case a3=>k_is)
    (case l3=>k_is)
    (case c3=>k_is)
    (case k3=>k_is)
    (case a4=>k_is)
    (case l4=>k_is)
    (case c4=>k_is)
    (case k4=>k_is)
    (case z0=>k_is)
    (case z1=>k_is)
    (case z2=>k_is)
    (case z3=>k_is)
    (case z4=>k_is)
    (case z5=>k_is)
    (case z6=>kernel_rfl)
    (case z7=>(refine⟨?_,by decide,by decide, #[],?_⟩ <;> k_is))
#print axioms PySem.Challenge.cw_bitrail_k50_an_ear_holds
